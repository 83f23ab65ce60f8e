/-
  PREFIXES: what the library's strconv and strings ask of the world; a number of a text.
-/
import Derived.Test.YtebogllfjhiblaaDoorNLaw
import Derived.Stop.LaidErr
import Derived.HandedShaped
import Derived.Lib.ParseIntBCases
import Derived.Lib.IndexMore
namespace Go.Proofs.YtebogllfjhiblaaDoor
set_option linter.unusedVariables false
open Go.RowKit
/-- What the library reads: its table, its limit, its two errors. -/
structure LibP (w : World) : Prop where
  tab : TabP w.heap.size w
  lim : ∃ m, w.cell? ⟨0, 0, none⟩ = some (.int .i64 m)
  es : ∃ tp p, w.var? Tryd.prog "strconv.ErrSyntax" = some #[.iface tp p]
  er : ∃ tp p, w.var? Tryd.prog "strconv.ErrRange" = some #[.iface tp p]
  big : 3 ≤ w.heap.size
theorem gES : Tryd.prog.globalNamed "strconv.ErrSyntax" = some 1 := by kernel_rfl
theorem gER : Tryd.prog.globalNamed "strconv.ErrRange" = some 2 := by kernel_rfl
theorem LibP.below {w w' : World} (h : LibP w) (hb : Below w.heap.size w w') : LibP w' := by
  obtain ⟨m, hm⟩ := h.lim
  obtain ⟨t1, p1, h1⟩ := h.es
  obtain ⟨t2, p2, h2⟩ := h.er
  have hz := h.big
  exact ⟨(TabP.on h.tab hb).up hb.size, ⟨m, keepC hb (by show 0 < _; omega) hm⟩, ⟨t1, p1, var?_below hb gES (by omega) h1⟩, ⟨t2, p2, var?_below hb gER (by omega) h2⟩, Nat.le_trans hz hb.size⟩
theorem bytes_below (w : World) (t : ByteArray) : Below w.heap.size w (Lib.bytesWorld w 5 t) := Lib.bytesWorld_below _ _ _
theorem pu_ok (l : List UInt8) (hl : l.length ≤ 100000) (u : Nat) (h : Lib.parseUintB 8 l = .ok u) (w : World) :
    Calls Tryd.prog 43 #[.string (strL l), .int .i64 10, .int .i64 8] w fun e w' => e = .returned (.tuple #[.int .u64 u, .nilIface]) ∧ Below w.heap.size w w' := by
  refine (Tryd.strconv_ParseUint_10_at8_ok (strL l) (by rw [strL_size]; omega) u h w).mono ?_
  rintro e w' ⟨rfl, rfl | rfl⟩
  · exact ⟨rfl, Below.refl _ _⟩
  · exact ⟨rfl, bytes_below _ _⟩
theorem pu_err (l : List UInt8) (hl : l.length ≤ 100000) (h : ∀ u, Lib.parseUintB 8 l ≠ .ok u) (w : World) (hL : LibP w) :
    Calls Tryd.prog 43 #[.string (strL l), .int .i64 10, .int .i64 8] w fun e w' => (∃ x N, e = .returned (.tuple #[.int .u64 x, .iface 88 (.pointer (some ⟨N, 0, none⟩))])) ∧ Below w.heap.size w w' := by
  cases hp : Lib.parseUintB 8 l with
  | ok u => exact absurd hp (h u)
  | «syntax» =>
    obtain ⟨tp, p, hv⟩ := hL.es
    refine (Tryd.strconv_ParseUint_10_at8_syntax_var (strL l) (by rw [strL_size]; omega) hp tp p w hv).mono ?_
    rintro e w' ⟨N, rfl, _, _, hb⟩
    exact ⟨⟨_, N, rfl⟩, hb⟩
  | range =>
    obtain ⟨tp, p, hv⟩ := hL.er
    refine (Tryd.strconv_ParseUint_10_at8_range_var (strL l) (by rw [strL_size]; omega) hp tp p w hv).mono ?_
    rintro e w' ⟨N, rfl, _, _, hb⟩
    exact ⟨⟨_, N, rfl⟩, hb⟩
theorem cut_any (l sep : List UInt8) (hl : l.length ≤ 100000) (w : World) (hL : LibP w) :
    Calls Tryd.prog 42 #[.string (strL l), .string (strL sep)] w fun e w' => e = .returned (.tuple #[.string (strL (Lib.cut l sep).1), .string (strL (Lib.cut l sep).2.1), .bool (Lib.cut l sep).2.2]) ∧ Below w.heap.size w w' := by
  obtain ⟨m, hm⟩ := hL.lim
  refine (Tryd.strings_Cut (strL l) (strL sep) m w (by rw [strL_size]; omega) hm).mono ?_
  rintro e w' ⟨rfl, n, rfl⟩
  exact ⟨rfl, bel_drawn (Below.refl _ _) n⟩
end Go.Proofs.YtebogllfjhiblaaDoor
