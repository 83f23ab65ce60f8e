/-
  THE PROGRAM'S NODE: New, Best.
-/
import Derived.Test.YtfdoldefdkijoaaZNode
namespace Go.Proofs.Ytfdoldefdkijoaa
set_option linter.unusedSimpArgs false
set_option linter.unusedVariables false
open Go.ChangeMaps Go.MapKept Go.Maps Go.RowKit
theorem fix_new (f : Int) (a b : Bool) : fixP (newZ f a b) = if 0 ≤ f then f else if a = true then 0 else if b = true then 24 else f := rfl
set_option maxHeartbeats 1600000 in
set_option maxRecDepth 100000 in
theorem pnew_any (f : Int) (a b : Bool) (w : World) : Calls Try.prog 10 #[.int .i64 f, .bool a, .bool b] w fun e w' => (kindB f a b → ∃ pb, e = .returned (.tuple #[.pointer (some ⟨pb, 0, none⟩), .int .i64 0]) ∧ ProgZ w' w.heap.size pb (newZ f a b)) ∧ (¬ kindB f a b → e = .returned (.tuple #[.pointer none, .int .i64 1])) ∧ Below w.heap.size w w' := by
  have B1 : RowKit.Hid (Below w.heap.size w w) := Below.refl _ w
  have HL := plevelOk_any f w
  have hmm := @run_makeMap Try.prog
  by_cases h1 : -1 ≤ f ∧ f ≤ 24
  · rw [decide_eq_true h1] at HL
    obtain ⟨h2, h3⟩ := h1
    have B0 : RowKit.Hid (∀ A B : Obj, Below w.heap.size w ((w.alloc A).alloc B)) := fun A B => ((Below.refl _ w).alloc (Nat.le_refl _) _).alloc (by simp) _
    have RB : RowKit.Hid (∀ x : Int, x = fixP (newZ f a b) → ProgZ ((w.alloc (.map #[] 0)).alloc (.cells #[.int .i64 x, .map (some w.heap.size), .int .i64 0, .int .i64 0] 46)) w.heap.size (w.heap.size + 1) (newZ f a b)) := by
      rintro x rfl
      refine ⟨w.heap.size, ⟨?_, ?_, by omega, Nat.le_refl _, by simp; omega, fun h => rfl⟩⟩
      · have := heap_alloc_new (w.alloc (.map #[] 0)) (.cells #[.int .i64 (fixP (newZ f a b)), .map (some w.heap.size), .int .i64 0, .int .i64 0] 46)
        rw [show w.heap.size + 1 = (w.alloc (.map #[] 0)).heap.size by simp]
        exact this
      · exact (MapZ.made w).same (heap_alloc_old _ _ (by simp))
    have HK : RowKit.Hid (kindB f a b ↔ ((0 ≤ f → a = false ∧ b = false) ∧ (a = true → b = false))) := by unfold Hid kindB; constructor; exact fun h => h.2.2; exact fun h => ⟨by omega, by omega, h⟩
    by_cases h4 : 0 ≤ f
    all_goals cases a <;> cases b
    all_goals (go_enter Try.func10, Try.ntmps10)
    all_goals (go_wp2_with (go_at_call 22; refine HL.mono ?_; rintro e w1 ⟨rfl, rfl⟩))
    all_goals go_ret2
    all_goals first
      | exact ⟨fun _ => ⟨_, rfl, RB.out _ (by rw [fix_new]; first | (rw [if_pos (by omega)]; done) | (rw [if_neg (by omega)]; done) | (rw [if_neg (by omega)]; rfl))⟩, fun h => absurd (HK.out.2 (by first | (simp; done) | (simp; omega) | (simp [h4]; done))) h, B0.out _ _⟩
      | exact ⟨fun h => absurd (HK.out.1 h) (by simp [h4]), fun _ => rfl, B1.out⟩
  · rw [decide_eq_false h1] at HL
    have hk : ¬ kindB f a b := by unfold kindB; omega
    have HK := Lib.hid hk
    clear hk h1
    cases a <;> cases b
    all_goals (go_enter Try.func10, Try.ntmps10)
    all_goals (go_wp2_with (go_at_call 22; refine HL.mono ?_; rintro e w1 ⟨rfl, rfl⟩))
    all_goals go_ret2
    all_goals exact ⟨fun h => absurd h HK.out, fun _ => rfl, B1.out⟩
section
variable {w W : World} {base pb mb : Nat} {z : ZtT}
def seenL (L : List OffT) (left : Lit → Bool) : List OffT := L.filter fun o => !left (.int .i64 o.link)
theorem seen_start {L : List OffT} {left : Lit → Bool} (h : ∀ x ∈ L, left (.int .i64 x.link) = true) : seenL L left = [] := by
  unfold seenL
  rw [List.filter_eq_nil_iff]
  intro x hx
  simp [h x hx]
theorem seen_end {L : List OffT} {left : Lit → Bool} (h : ∀ k, left k = false) : seenL L left = L := by
  unfold seenL
  rw [List.filter_eq_self]
  intro x hx
  simp [h]
theorem same_key (a b : Int) : (Lit.int .i64 a).sameKey (.int .i64 b) = decide (a = b) := by
  unfold Lit.sameKey
  simp
theorem best_seen {L : List OffT} {left : Lit → Bool} (hn : (L.map OffT.link).Nodup) {x : OffT} (hx : x ∈ L) : bestL (seenL L fun z => left z && !z.sameKey (.int .i64 x.link)) = max (bestL (seenL L left)) x.level := by
  have hm : ∀ y, y ∈ seenL L (fun z => left z && !z.sameKey (.int .i64 x.link)) ↔ (y ∈ seenL L left ∨ y = x) := by
    intro y
    unfold seenL
    rw [List.mem_filter, List.mem_filter]
    show (y ∈ L ∧ (!(left (.int .i64 y.link) && !(Lit.int .i64 y.link).sameKey (.int .i64 x.link))) = true) ↔ _
    rw [same_key]
    constructor
    · rintro ⟨hy, h⟩
      by_cases e : y.link = x.link
      · exact .inr (nd_eq hn hy hx e)
      · exact .inl ⟨hy, by simpa [e] using h⟩
    · rintro (⟨hy, h⟩ | rfl)
      · exact ⟨hy, by simp at h; simp [h]⟩
      · exact ⟨hx, by simp⟩
  refine best_eq (by have := best_ge0 (seenL L left); omega) (fun y hy => ?_) ?_
  · rcases (hm y).1 hy with h | rfl
    · have := best_all h; omega
    · omega
  · rcases best_in (seenL L left) with h | ⟨y, hy, h⟩
    · by_cases q : x.level ≤ 0
      · left; omega
      · right; exact ⟨x, (hm x).2 (.inr rfl), by omega⟩
    · by_cases q : x.level ≤ y.level
      · right; exact ⟨y, (hm y).2 (.inl hy), by omega⟩
      · right; exact ⟨x, (hm x).2 (.inr rfl), by omega⟩
set_option maxHeartbeats 1600000 in
set_option maxRecDepth 100000 in
theorem pbest_any (h : ProgZ w base pb z) (hn : (z.L.map OffT.link).Nodup) : Calls Try.prog 18 #[.pointer (some ⟨pb, 0, none⟩)] w fun e w' => e = .returned (.int .i64 (bestL z.L)) ∧ Below w.heap.size w w' := by
  obtain ⟨mb, h⟩ := h
  obtain ⟨c0, c1, c2, c3⟩ := h.cells
  have hmap := h.map
  have hlt := hmap.lt
  have HM := Lib.hid hmap
  have HN := Lib.hid hn
  clear h hmap hn
  go_enter Try.func18, Try.ntmps18
  go_wp2_with (first
    | (at_range; refine wpList_range_Z _ rfl _ rfl mb z.L rfl HM.out ?_; intro w0 lf cn hrg0 hst hg0 hs0; have HR : Hid (RangeZ w0 mb w.heap.size z.L.length z.L lf cn ∧ bestL (seenL z.L lf) = 0 ∧ Below w.heap.size w w0) := ⟨hrg0, by rw [seen_start hst]; rfl, (Below.refl _ w).grown hg0 (Nat.le_refl _) (fun j e => by cases e)⟩; clear hrg0 hst hg0 hs0)
    | go_in)
  go_frame
  go_loopw [3] (fun n wr => ∃ (left : Lit → Bool) (cnt : Nat) (b : Int), n = .int .i64 b ∧ Hid (RangeZ wr mb w.heap.size z.L.length z.L left cnt ∧ bestL (seenL z.L left) = b ∧ Below w.heap.size w wr)) (fun _ wr => wr.rangeLeft mb w.heap.size)
  case atStart => exact ⟨lf, cn, 0, rfl, HR⟩
  case round =>
    obtain ⟨left, cnt, b, rfl, HQ⟩ := hrel
    obtain ⟨hrg, hb, hbl⟩ := HQ.out
    clear HQ
    have HB := Lib.hid hb
    have HBL := Lib.hid hbl
    have HRG := Lib.hid hrg
    clear hb hbl hrg
    go_wp2_with (first
      | (at_next; refine wpList_next_Z _ rfl _ rfl mb w.heap.size z.L.length z.L left cnt rfl HRG.out ?_ ?_)
      | go_in)
    · intro hl0
      have he : bestL z.L = b := by rw [← HB.out, seen_end hl0]
      have HE := Lib.hid he
      clear he hl0
      go_wp2
      go_ret
      rw [HE.out]
      exact ⟨rfl, HBL.out⟩
    · intro x w1 cnt1 hxm hxl hrg1 hlt1 hg1 hs1 hen
      have HB2 : Hid (bestL (seenL z.L fun y => left y && !y.sameKey (.int .i64 x.link)) = if b < x.level then x.level else b) := by unfold Hid; rw [best_seen HN.out hxm, HB.out]; split <;> omega
      have hw1 : Below w.heap.size w w1 := HBL.out.grown hg1 HBL.out.size (fun j e => by injection e with e; omega)
      have HG := Lib.hid (And.intro hrg1 (And.intro hw1 (And.intro hlt1 HRG.out.left_eq)))
      clear hxm hxl hrg1 hlt1 hg1 hw1
      go_wp2
      go_roundw
      case rel => exact ⟨_, cnt1, _, rfl, (HG.out.1.kept (World.grownBy_alloc _ _ none) (by simp) (by simp)), HB2.out, HG.out.2.1.alloc HG.out.2.1.size _⟩
      case measure => rw [(HG.out.1.kept (World.grownBy_alloc _ _ none) (by simp) (by simp)).left_eq, HG.out.2.2.2]; exact HG.out.2.2.1
end
end Go.Proofs.Ytfdoldefdkijoaa
