/-
  THE TWO ENCODERS (the program's Put and the document's): each returns a slice over a new block that holds the groups of seven bits ('putL'), and leaves all else as it was.
-/
import Derived.Test.YthdlcpnmldhllaaDoorRows
import Derived.Test.YthdlcpnmldhllaaDoorMath
import Derived.WalkKit
import Derived.Maps.AppendAt
import Derived.Laws.BitsAllLaws
import Derived.Lib.Hide
import Derived.Laws.OwnMore
import Derived.Deep.AppendLies
namespace Go.Proofs.YthdlcpnmldhllaaDoor
open Go.RowKit
theorem Tryd.info5 : (Tryd.prog.info? 5).map (fun i => (i.zero, i.size, i.bytes)) = some (some (.int .u8 0), 1, 1) := by kernel_rfl

theorem or128 (m : Nat) : bits .or .u8 ((m : Int) % 256) 128 = (m : Int) % 128 + 128 := by
  have h : ∀ x : Fin 256, x.val ||| 128 = x.val % 128 + 128 := by set_option maxRecDepth 10000 in decide
  have h1 := h ⟨m % 256, Nat.mod_lt _ (by decide)⟩
  have h2 := u8_or_nat (m % 256) 128 (Nat.mod_lt _ (by decide)) (by decide)
  simp only at h1
  rw [h1] at h2
  have e : (((m % 256 : Nat)) : Int) = (m : Int) % 256 := by omega
  rw [← e]
  refine h2.trans ?_
  omega

theorem own_one (w : World) (base : Nat) (hb : base ≤ w.heap.size) (x : Value) : (w.alloc (.cells #[x] 5)).ownsRow base 5 1 (.slice (some ⟨w.heap.size, 0, none⟩) 1 1) 1 [x] :=
  ⟨rfl, .inr ⟨w.heap.size, 1, #[x], rfl, hb, heap_alloc_new w _, Nat.le_refl _, by unfold maxLen; omega, rfl, rfl⟩⟩

theorem own_below {w w' : World} {B base : Nat} {e : TypeId} {size n : Nat} {v : Value} {xs : List Value} (h : w.ownsRow base e size v n xs) (hb : Below B w w') (hv : ∀ k, v.ownBlock = some k → k < B) : w'.ownsRow base e size v n xs := by
  refine ⟨h.1, ?_⟩
  rcases h.2 with hn | ⟨g, cap, cur, rfl, hbs, hg, rest⟩
  · exact .inl hn
  · exact .inr ⟨g, cap, cur, rfl, hbs, (hb.block g (hv g rfl)).trans hg, rest⟩

/-- WHAT A MAKER OF BYTES LEAVES: a slice over a new block that holds just these bytes; what was there is as it was. -/
def Made (l : List Int) (w : World) (e : Ending) (w' : World) : Prop :=
  ∃ g cap, e = .returned (.slice (some ⟨g, 0, none⟩) l.length cap) ∧ w'.ownsRow w.heap.size 5 1 (.slice (some ⟨g, 0, none⟩) l.length cap) l.length (l.map (Value.int .u8)) ∧ Below w.heap.size w w'

theorem Made.of {l : List Int} {w : World} {v : Value} {w' : World} (hl : 0 < l.length) (h : w'.ownsRow w.heap.size 5 1 v l.length (l.map (Value.int .u8))) (hb : Below w.heap.size w w') : Made l w (.returned v) w' := by
  obtain ⟨g, cap, rfl, _, _⟩ := h.form hl
  exact ⟨g, cap, rfl, h, hb⟩

set_option maxHeartbeats 800000 in
set_option maxRecDepth 100000 in
theorem put_any (u : Nat) (h1 : u < 18446744073709551616) (w : World) :
    Calls Tryd.prog 60 #[.int .u64 u] w (Made (putL u) w) := by
  obtain ⟨i0, hi, hz0, hz1, hz2⟩ := info_parts Tryd.info5
  go_enter Tryd.func60, Tryd.ntmps60
  go_wp2
  go_loopw [0, 3] (fun n v wr => ∃ (m : Nat) (pre : List Int), m < 18446744073709551616 ∧ n = .int .u64 m ∧ wr.ownsRow w.heap.size 5 1 v pre.length (pre.map (Value.int .u8)) ∧ Below w.heap.size w wr ∧ Hid (putL u = pre ++ putL m))
    (fun n _ _ => (intOf n).toNat)
  case atStart => exact ⟨u, [], h1, rfl, World.ownsRow_nil _ _ _ _, Below.refl _ _, rfl⟩
  case round =>
    obtain ⟨m, pre, hm, rfl, hown, hbel, HP⟩ := hrel
    have HX := Lib.hid hown.lt
    have hpl : pre.length < 10 := by
      have e := congrArg List.length HP.out
      have := putL_len10 h1
      have := putL_pos m
      rw [List.length_append] at e
      omega
    by_cases hlt : 128 ≤ m
    · have hor := or128 m
      go_wp2_with (at_builtin; refine wpList_append_own _ rfl _ _ 35 rfl w.heap.size 5 i0 (.int .u8 0) 1 1 Tryd.underlying35 hi hz0 hz1 hz2 rfl (by decide) _ _ _ rfl (hown.alloc _) ⟨wr.heap.size, 0, none⟩ 1 1 [.int .u8 ((m : Int) % 128 + 128)] rfl rfl ?c1 ?c2 ?c3 ?c4 ?c5 ?_)
      case c1 => exact cell_one_new _ _ _
      case c2 => intro u hu; simp at hu; subst hu; rfl
      case c3 => unfold maxLen; omega
      case c4 => omega
      case c5 => have := hbel.size; simp; omega
      · intro v' w1 hown' hgrow _
        have HO := Lib.hid hown'
        clear hown' hown
        go_wp2
        go_roundw
        case rel => exact ⟨m / 128, pre ++ [(m : Int) % 128 + 128], by omega, by simp, by simpa using HO.out, (hbel.alloc hbel.size _).grown hgrow (by have := hbel.size; simp; omega) (fun k hk => (HX.out k hk).1), by rw [Hid, HP.out, putL_ge hlt]; simp⟩
        case measure => simp [intOf]; omega
    · go_wp2_with (at_builtin; refine wpList_append_own _ rfl _ _ 35 rfl w.heap.size 5 i0 (.int .u8 0) 1 1 Tryd.underlying35 hi hz0 hz1 hz2 rfl (by decide) _ _ _ rfl (hown.alloc _) ⟨wr.heap.size, 0, none⟩ 1 1 [.int .u8 (m : Int)] rfl rfl ?c1 ?c2 ?c3 ?c4 ?c5 ?_)
      case c1 => exact cell_one_new _ _ _
      case c2 => intro u hu; simp at hu; subst hu; rfl
      case c3 => unfold maxLen; omega
      case c4 => omega
      case c5 => have := hbel.size; simp; omega
      · intro v' w1 hown' hgrow _
        have HO := Lib.hid hown'
        clear hown' hown
        go_wp2
        go_ret
        exact Made.of (putL_pos u) (by rw [HP.out, putL_lt (by omega)]; simpa using HO.out) ((hbel.alloc hbel.size _).grown hgrow (by have := hbel.size; simp; omega) (fun k hk => (HX.out k hk).1))

end Go.Proofs.YthdlcpnmldhllaaDoor
