/-
  FloodScopes: the walk.
-/
import Derived.Test.YtbgilngpkogapaaGAwk
namespace Go.Proofs.Ytbgilngpkogapaa.ti
set_option linter.unusedSimpArgs false
set_option linter.unusedVariables false
open Go.RowKit
theorem scopes_math {t : TiV} {s : ScD} (h : goesG t s = true) : (t.hd.id.d = 2 → s.level ≤ s.olev) ∧ (¬ t.hd.id.d = 2 → (s.olev ≤ s.level → t.hd.id.o = s.self) ∧ t.hd.id.d = 1 ∧ (s.olev < s.level ∨ t.hd.id.k = 1)) := by
  unfold goesG reflG ofSelf ofNode at h
  by_cases d2 : t.hd.id.d = 2
  · rw [if_pos d2] at h
    simp at h
    exact ⟨fun _ => by omega, fun q => absurd d2 q⟩
  · rw [if_neg d2] at h
    by_cases d1 : t.hd.id.d = 1
    · rw [if_pos d1] at h
      refine ⟨fun q => absurd q d2, fun _ => ?_⟩
      by_cases h1 : s.level < s.olev
      · rw [if_pos h1] at h
        simp at h
        exact ⟨fun q => by omega, d1, .inr h.1⟩
      · rw [if_neg h1] at h
        by_cases h2 : s.olev = s.level
        · rw [if_pos h2] at h
          simp at h
          exact ⟨fun _ => h.2, d1, .inr h.1⟩
        · rw [if_neg h2] at h
          simp at h
          exact ⟨fun _ => h, d1, .inl (by omega)⟩
    · rw [if_neg d1] at h
      cases h
set_option maxHeartbeats 3200000 in
set_option maxRecDepth 100000 in
theorem scopes_walk (t : TiV) (l : Sl2) (s : ScD) (w : World) (hin : In2 w t l) : Calls Try.prog 4 #[aggV t l, aggSc s] w fun e w' => e = .returned (.bool true) ∧ Below w.heap.size w w' := by
  clear hin
  have HT := Lib.hid (TwoG.new w t l s)
  have HGo : Hid (∀ W, Calls Try.prog 8 #[aggV t l, aggSc s] W fun e w' => e = .returned (.bool (goesG t s)) ∧ Below W.heap.size W w') := fun W => pgoes_any t l s W
  cases hgo : goesG t s
  · have HG := Lib.hid hgo
    clear hgo
    unfold aggV aggSc
    go_enter Try.func4, Try.ntmps4
    go_wp2_with (first
      | (go_at_call 7; refine (awake_any _).mono ?_; rintro e w1 ⟨rfl, hb⟩; have HT1 := Lib.hid (HT.out.below hb); clear hb)
      | (refine wpList_load_arr rfl 35 (.tmp 2) rfl w.heap.size rfl HT1.out.b0 Try.underlying35 rfl sizeV rfl ?_)
      | (refine wpList_load_arr rfl 26 (.tmp 3) rfl (w.heap.size + 1) rfl HT1.out.b1 Try.underlying26 rfl sizeSc rfl ?_)
      | (go_at_call 8; refine (HGo.out _).mono ?_; rintro e w2 ⟨rfl, hb⟩; rw [HG.out]; have HT2 := Lib.hid (HT1.out.below hb); obtain ⟨c0, c1, c2, c3, c4, c5, c6, c7, c8, c9⟩ := HT2.out.cells; obtain ⟨q0, q1, q2, q3, q4, q5, q6⟩ := cells7 HT2.out.b1; have hsz : w.heap.size < w2.heap.size := HT2.out.b0.lt; have hsz2 : w.heap.size + 1 < w2.heap.size := HT2.out.b1.lt; clear hb))
    go_ret
    exact ⟨rfl, HT2.out.bel.trans ((below_box _ _).mono HT2.out.bel.size)⟩
  · have HG := Lib.hid hgo
    clear hgo
    unfold aggV aggSc
    go_enter Try.func4, Try.ntmps4
    go_wp2_with (first
      | (go_at_call 7; refine (awake_any _).mono ?_; rintro e w1 ⟨rfl, hb⟩; have HT1 := Lib.hid (HT.out.below hb); clear hb)
      | (refine wpList_load_arr rfl 35 (.tmp 2) rfl w.heap.size rfl HT1.out.b0 Try.underlying35 rfl sizeV rfl ?_)
      | (refine wpList_load_arr rfl 26 (.tmp 3) rfl (w.heap.size + 1) rfl HT1.out.b1 Try.underlying26 rfl sizeSc rfl ?_)
      | (go_at_call 8; refine (HGo.out _).mono ?_; rintro e w2 ⟨rfl, hb⟩; rw [HG.out]; have HT2 := Lib.hid (HT1.out.below hb); obtain ⟨c0, c1, c2, c3, c4, c5, c6, c7, c8, c9⟩ := HT2.out.cells; obtain ⟨q0, q1, q2, q3, q4, q5, q6⟩ := cells7 HT2.out.b1; have hsz : w.heap.size < w2.heap.size := HT2.out.b0.lt; have hsz2 : w.heap.size + 1 < w2.heap.size := HT2.out.b1.lt; clear hb))
    all_goals go_ret
    all_goals refine ⟨?_, HT2.out.bel.trans ((below_box _ _).mono HT2.out.bel.size)⟩
    all_goals (obtain ⟨m1, m2⟩ := scopes_math HG.out)
    all_goals (clear HG HGo HT HT1 HT2 c0 c1 c2 c3 c4 c5 c6 c7 c8 c9 q0 q1 q2 q3 q4 q5 q6)
    all_goals by_cases hd : t.hd.id.d = 2
    all_goals simp_all
end Go.Proofs.Ytbgilngpkogapaa.ti
