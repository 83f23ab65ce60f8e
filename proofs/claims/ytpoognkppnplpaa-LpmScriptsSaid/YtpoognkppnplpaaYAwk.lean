/-
  THE LAW's TABLE IS AWAKE: two nets, one in the other one.
-/
import Derived.Test.YtpoognkppnplpaaYMade
import Derived.Test.YtpoognkppnplpaaYRAll
import Derived.Test.YtpoognkppnplpaaYRFind
namespace Go.Proofs.Ytpoognkppnplpaa
set_option linter.unusedSimpArgs false
set_option linter.unusedVariables false
open Go.RowKit
theorem tfind_any (base tb a : Nat) (ha : a < 4294967296) (room : Int) (L : List Ent) (w : World) (h : TabP w base tb room L) (x : Ent) (is : Bool) (hres : (lastE (onL a L), hasE (onL a L)) = (x, is)) :
    Calls Try.prog 17 #[pt (some tb), .int .u32 a] w fun e w' => e = .returned (.tuple #[.agg #[.int .u32 x.1.1, .int .i64 x.1.2], .int .i64 x.2, .bool is]) ∧ Below w.heap.size w w' := by
  obtain ⟨f, g, h⟩ := h
  exact find_any tb base a ha f g L h.good h.mat w h.tree x is hres
theorem tget_any (base tb n : Nat) (hn : n < 4294967296) (b : Int) (room : Int) (L : List Ent) (w : World) (h : TabP w base tb room L) (r1 : Int) (r2 : Bool) (hres : (match getL L (n, b) with | some m => (m, true) | none => ((0 : Int), false)) = (r1, r2)) :
    Calls Try.prog 11 #[pt (some tb), .agg #[.int .u32 n, .int .i64 b]] w fun e w' => e = .returned (.tuple #[.int .i64 r1, .bool r2]) ∧ Below w.heap.size w w' := by
  obtain ⟨f, g, h⟩ := h
  exact get_any tb base n hn b f g L h.good h.mat w h.tree r1 r2 hres
theorem tall_any (base tb : Nat) (room : Int) (L : List Ent) (w : World) (h : TabP w base tb room L) :
    Calls Try.prog 15 #[pt (some tb)] w fun e w' => (∃ v, e = .returned v ∧ OwnP w' w.heap.size v (netsL L)) ∧ Below w.heap.size w w' := by
  have hl := h.len.2.2.1
  obtain ⟨f, g, h⟩ := h
  exact all_any tb base f g L h.good h.mat hl w h.tree
def awL1 : List Ent := [((167772160, 8), 1)]
def awL2 : List Ent := [((167772160, 8), 1), ((167837696, 16), 2)]
theorem aw1 : putA 5 [] (167772160, 8) 1 = awL1 := by decide +kernel
theorem aw2 : putA 5 awL1 (167837696, 16) 2 = awL2 := by decide +kernel
theorem aw3 : (lastE (onL 167837701 awL2), hasE (onL 167837701 awL2)) = (((167837696, 16), 2), true) := by decide +kernel
theorem awake_any (w : World) : Calls Try.prog 9 #[] w fun e w' => e = .returned (.bool true) ∧ Below w.heap.size w w' := by
  have hn1 := new_ok 5 (by decide) (by decide)
  have ht0 := TabP.new w (room := 5) (by decide) (by decide)
  have hp1 := fun W h => put_any w.heap.size w.heap.size 167772160 (by decide) 8 1 5 [] W h
  have hp2 := fun W h => put_any w.heap.size w.heap.size 167837696 (by decide) 16 2 5 awL1 W h
  have hfd := fun W h => tfind_any w.heap.size w.heap.size 167837701 (by decide) 5 awL2 W h _ _ aw3
  have hln := fun W h => len_any w.heap.size w.heap.size 5 awL2 W h
  rw [aw1] at hp1
  rw [aw2] at hp2
  have HT0 := Lib.hid ht0
  have HP1 := Lib.hid hp1
  have HP2 := Lib.hid hp2
  have HFD := Lib.hid hfd
  have HLN := Lib.hid hln
  have HB0 := Lib.hid ((Below.refl w.heap.size w).alloc (Nat.le_refl _) (.cells #[.pointer none, .pointer none, .pointer none, .int .i64 5, .int .i64 0] 69))
  clear hp1 hp2 hfd hln ht0
  rw [show ((167772160 : Nat) : Int) = 167772160 from rfl] at HP1
  rw [show ((167837696 : Nat) : Int) = 167837696 from rfl] at HP2
  rw [show ((167837701 : Nat) : Int) = 167837701 from rfl] at HFD
  rw [show ((awL2.length : Nat) : Int) = 2 from rfl] at HLN
  simp only [show ((167837696 : Nat) : Int) = 167837696 from rfl] at HFD
  unfold pt at hn1 HP1 HP2 HFD HLN
  simp only [Option.map_some] at hn1 HP1 HP2 HFD HLN
  generalize putE 5 [] (167772160, 8) = E1 at *
  generalize putE 5 awL1 (167837696, 16) = E2 at *
  go_enter Try.func9, Try.ntmps9
  go_wp2_with (first
    | (go_at_call 25; refine (hn1 _).mono ?_; rintro e w1 ⟨rfl, rfl⟩)
    | (go_at_call 22; ((with_reducible refine (HP1.out _ HT0.out).mono ?_); rintro e w2 ⟨rfl, hq⟩); have HT1 := Lib.hid hq.1; have HB1 := Lib.hid (HB0.out.trans hq.2.bel); clear hq)
    | (go_at_call 22; ((with_reducible refine (HP2.out _ HT1.out).mono ?_); rintro e w3 ⟨rfl, hq⟩); have HT2 := Lib.hid hq.1; have HB2 := Lib.hid (HB1.out.trans hq.2.bel); clear hq)
    | (go_at_call 17; ((with_reducible refine (HFD.out _ HT2.out).mono ?_); rintro e w4 ⟨rfl, hq⟩); have k4 := (Bx.new w4 (.int .u32 167837696) (.int .i64 16)).cells; obtain ⟨c0, c1, _, _⟩ := k4; have ht4 := (HT2.out.below hq).below ((Below.refl _ _).alloc (Nat.le_refl _) (.cells #[.int .u32 167837696, .int .i64 16] 25)); have HT4 := Lib.hid ht4; have HB4 := Lib.hid ((HB2.out.trans (hq.mono HB2.out.size)).alloc (Nat.le_trans HB2.out.size hq.size) (.cells #[.int .u32 167837696, .int .i64 16] 25)); clear hq ht4)
    | (go_at_call 13; ((with_reducible refine (HLN.out _ HT4.out).mono ?_); rintro e w5 ⟨rfl, rfl⟩)))
  go_ret
  exact ⟨rfl, HB4.out⟩
/-! The contracts as the laws' walks spell them. -/
theorem made_okP (room : Int) (h1 : 1 ≤ room) (h2 : room ≤ 4096) (a : Option Addr) (cap : Nat) (l : List Stp) (hl : l.length ≤ 9223372036854775807) (w : World) (hr : RdS w.heap.size w a l) :
    Calls Try.prog 10 #[.int .i64 room, .slice a l.length cap] w fun e w' => e = .returned (.tuple #[.pointer (some ⟨w.heap.size, 0, none⟩), .pointer (some ⟨w.heap.size + 1, 0, none⟩), .bool true]) ∧ Both w room (doneL room l) w' := made_ok room h1 h2 a cap l hl w hr
section
variable {w W : World} {room : Int} {L : List Ent}
theorem findP (h : Both w room L W) (a : Nat) (ha : a < 4294967296) (x : Ent) (is : Bool) (hres : (lastE (onL a L), hasE (onL a L)) = (x, is)) :
    Calls Try.prog 17 #[.pointer (some ⟨w.heap.size, 0, none⟩), .int .u32 a] W fun e w' => e = .returned (.tuple #[.agg #[.int .u32 x.1.1, .int .i64 x.1.2], .int .i64 x.2, .bool is]) ∧ Below W.heap.size W w' := tfind_any _ _ a ha room L W h.tab x is hres
theorem getP (h : Both w room L W) (n : Nat) (hn : n < 4294967296) (b : Int) (r1 : Int) (r2 : Bool) (hres : (match getL L (n, b) with | some m => (m, true) | none => ((0 : Int), false)) = (r1, r2)) :
    Calls Try.prog 11 #[.pointer (some ⟨w.heap.size, 0, none⟩), .agg #[.int .u32 n, .int .i64 b]] W fun e w' => e = .returned (.tuple #[.int .i64 r1, .bool r2]) ∧ Below W.heap.size W w' := tget_any _ _ n hn b room L W h.tab r1 r2 hres
theorem allP (h : Both w room L W) : Calls Try.prog 15 #[.pointer (some ⟨w.heap.size, 0, none⟩)] W fun e w' => (∃ v, e = .returned v ∧ OwnP w' W.heap.size v (netsL L)) ∧ Below W.heap.size W w' := tall_any _ _ room L W h.tab
theorem lenP (h : Both w room L W) : Calls Try.prog 13 #[.pointer (some ⟨w.heap.size, 0, none⟩)] W fun e w' => e = .returned (.int .i64 L.length) ∧ W = w' := len_any _ _ room L W h.tab
theorem rfindP (h : Both w room L W) (a : Nat) (ha : a < 4294967296) (x : Ent) (is : Bool) (hres : (lastE (onL a L), hasE (onL a L)) = (x, is)) :
    Calls Try.prog 18 #[.pointer (some ⟨w.heap.size + 1, 0, none⟩), .int .u32 a] W fun e w' => e = .returned (.tuple #[.agg #[.int .u32 x.1.1, .int .i64 x.1.2], .int .i64 x.2, .bool is]) ∧ Below W.heap.size W w' := rfind_any _ _ a ha room L W h.ref x is hres
theorem rgetP (h : Both w room L W) (n : Nat) (b : Int) (r1 : Int) (r2 : Bool) (hres : (match getL L (n, b) with | some m => (m, true) | none => ((0 : Int), false)) = (r1, r2)) :
    Calls Try.prog 12 #[.pointer (some ⟨w.heap.size + 1, 0, none⟩), .agg #[.int .u32 n, .int .i64 b]] W fun e w' => e = .returned (.tuple #[.int .i64 r1, .bool r2]) ∧ Below W.heap.size W w' := by
  cases hg : getL L (n, b) with
  | none =>
    rw [hg] at hres
    injection hres with e1 e2
    subst e1 e2
    exact rget_not _ _ n b room L W h.ref hg
  | some m =>
    rw [hg] at hres
    injection hres with e1 e2
    subst e1 e2
    exact rget_is _ _ n b room L W h.ref hg
theorem rallP (h : Both w room L W) : Calls Try.prog 16 #[.pointer (some ⟨w.heap.size + 1, 0, none⟩)] W fun e w' => (∃ v, e = .returned v ∧ OwnP w' W.heap.size v (netsL L)) ∧ Below W.heap.size W w' := rall_any _ _ room L W h.ref
theorem putP (h : TabP W w.heap.size w.heap.size room L) (n : Nat) (hn : n < 4294967296) (b k : Int) :
    Calls Try.prog 22 #[.pointer (some ⟨w.heap.size, 0, none⟩), .agg #[.int .u32 n, .int .i64 b], .int .i64 k] W fun e w' => e = .returned (.int .i64 (putE room L (n, b))) ∧ PutEnd W w.heap.size w.heap.size room (putA room L (n, b) k) w' := put_any _ _ n hn b k room L W h
theorem dropP (h : TabP W w.heap.size w.heap.size room L) (n : Nat) (hn : n < 4294967296) (b : Int) :
    Calls Try.prog 20 #[.pointer (some ⟨w.heap.size, 0, none⟩), .agg #[.int .u32 n, .int .i64 b]] W fun e w' => e = .returned (.bool (dropE L (n, b))) ∧ PutEnd W w.heap.size w.heap.size room (dropL (n, b) L) w' := drop_any _ _ n hn b room L W h
end
end Go.Proofs.Ytpoognkppnplpaa
