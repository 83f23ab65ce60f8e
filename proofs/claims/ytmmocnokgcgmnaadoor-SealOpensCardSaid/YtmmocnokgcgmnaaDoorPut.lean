/-
  THE TWO ENCODERS (the program's Put and the document's): each returns a slice over a new block that holds the groups of seven bits ('putL'), and leaves all else as it was.
-/
import Derived.Test.YtmmocnokgcgmnaaDoorRows
import Derived.Test.YtmmocnokgcgmnaaDoorMath
import Derived.WalkKit
import Derived.Maps.AppendAt
import Derived.Laws.BitsAllLaws
import Derived.Lib.Hide
import Derived.Laws.OwnMore
import Derived.Deep.AppendLies
namespace Go.Proofs.YtmmocnokgcgmnaaDoor
open Go.RowKit
theorem Tryd.info5 : (Tryd.prog.info? 5).map (fun i => (i.zero, i.size, i.bytes)) = some (some (.int .u8 0), 1, 1) := by kernel_rfl

theorem or128 (m : Nat) : bits .or .u8 ((m : Int) % 256) 128 = (m : Int) % 128 + 128 := by
  have h : ∀ x : Fin 256, x.val ||| 128 = x.val % 128 + 128 := by set_option maxRecDepth 10000 in decide
  have h1 := h ⟨m % 256, Nat.mod_lt _ (by decide)⟩
  have h2 := u8_or_nat (m % 256) 128 (Nat.mod_lt _ (by decide)) (by decide)
  simp only at h1
  rw [h1] at h2
  have e : (((m % 256 : Nat)) : Int) = (m : Int) % 256 := by omega
  rw [← e]
  refine h2.trans ?_
  omega

theorem own_one (w : World) (base : Nat) (hb : base ≤ w.heap.size) (x : Value) : (w.alloc (.cells #[x] 5)).ownsRow base 5 1 (.slice (some ⟨w.heap.size, 0, none⟩) 1 1) 1 [x] :=
  ⟨rfl, .inr ⟨w.heap.size, 1, #[x], rfl, hb, heap_alloc_new w _, Nat.le_refl _, by unfold maxLen; omega, rfl, rfl⟩⟩

theorem own_below {w w' : World} {B base : Nat} {e : TypeId} {size n : Nat} {v : Value} {xs : List Value} (h : w.ownsRow base e size v n xs) (hb : Below B w w') (hv : ∀ k, v.ownBlock = some k → k < B) : w'.ownsRow base e size v n xs := by
  refine ⟨h.1, ?_⟩
  rcases h.2 with hn | ⟨g, cap, cur, rfl, hbs, hg, rest⟩
  · exact .inl hn
  · exact .inr ⟨g, cap, cur, rfl, hbs, (hb.block g (hv g rfl)).trans hg, rest⟩

/-- WHAT A MAKER OF BYTES LEAVES: a slice over a new block that holds just these bytes; what was there is as it was. -/
def Made (l : List Int) (w : World) (e : Ending) (w' : World) : Prop :=
  ∃ g cap, e = .returned (.slice (some ⟨g, 0, none⟩) l.length cap) ∧ w'.ownsRow w.heap.size 5 1 (.slice (some ⟨g, 0, none⟩) l.length cap) l.length (l.map (Value.int .u8)) ∧ Below w.heap.size w w'

theorem Made.of {l : List Int} {w : World} {v : Value} {w' : World} (hl : 0 < l.length) (h : w'.ownsRow w.heap.size 5 1 v l.length (l.map (Value.int .u8))) (hb : Below w.heap.size w w') : Made l w (.returned v) w' := by
  obtain ⟨g, cap, rfl, _, _⟩ := h.form hl
  exact ⟨g, cap, rfl, h, hb⟩

end Go.Proofs.YtmmocnokgcgmnaaDoor
