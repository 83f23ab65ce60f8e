/-
  THE DOCUMENT'S NODE: New, Level, Best, Quiet.
-/
import Derived.Test.YtfdoldefdkijoaaZMem
namespace Go.Proofs.Ytfdoldefdkijoaa
set_option linter.unusedSimpArgs false
set_option linter.unusedVariables false
open Go.RowKit
set_option maxHeartbeats 800000 in
set_option maxRecDepth 100000 in
theorem rmoment_any (n : Int) (w : World) : Calls Try.prog 25 #[.int .i64 n] w fun e w' => e = .returned (.bool (decide (momB n))) ∧ w' = w := by
  by_cases h1 : n < 0
  · rw [decide_eq_false (show ¬ momB n by unfold momB; omega)]
    go_enter Try.func25, Try.ntmps25
    go_wp2
    go_ret
    exact ⟨rfl, rfl⟩
  · by_cases h2 : 1099511627776 < n
    · rw [decide_eq_false (show ¬ momB n by unfold momB; omega)]
      go_enter Try.func25, Try.ntmps25
      go_wp2
      go_ret
      refine ⟨?_, rfl⟩
      show Ending.returned (.bool (decide (n ≤ 1099511627776))) = _
      rw [decide_eq_false (by omega)]
    · rw [decide_eq_true (show momB n by unfold momB; omega)]
      go_enter Try.func25, Try.ntmps25
      go_wp2
      go_ret
      exact ⟨rfl, rfl⟩
section
variable {w : World} {base rb : Nat} {z : ZtT}
set_option maxHeartbeats 800000 in
set_option maxRecDepth 100000 in
theorem rown_any (h : RefZ w base rb z) : Calls Try.prog 27 #[.pointer (some ⟨rb, 0, none⟩)] w fun e w' => e = .returned (.bool (ownZ z)) ∧ w' = w := by
  obtain ⟨v, h⟩ := h
  obtain ⟨c0, c1, c2, c3, c4, c5, c6⟩ := h.cells
  clear h
  unfold ownZ
  generalize z.leaf = lf at *
  generalize z.top = tp at *
  generalize z.fixed = fx at *
  cases lf <;> cases tp
  all_goals (by_cases hf : fx < 0)
  all_goals (go_enter Try.func27, Try.ntmps27)
  all_goals go_wp2
  all_goals go_ret
  all_goals exact ⟨by simp [hf], rfl⟩
set_option maxHeartbeats 800000 in
set_option maxRecDepth 100000 in
theorem rlevel_any (h : RefZ w base rb z) (ht : 0 ≤ z.taken ∧ z.taken ≤ 24) : Calls Try.prog 17 #[.pointer (some ⟨rb, 0, none⟩)] w fun e w' => e = .returned (.int .i64 (levelZ z)) ∧ w' = w := by
  obtain ⟨v, h⟩ := h
  obtain ⟨c0, c1, c2, c3, c4, c5, c6⟩ := h.cells
  clear h
  unfold levelZ
  have e1 : -9223372036854775808 ≤ z.taken - 1 ∧ z.taken - 1 ≤ 9223372036854775807 := by omega
  generalize z.leaf = lf at *
  generalize z.top = tp at *
  generalize z.fixed = fx at *
  cases lf <;> cases tp
  all_goals (by_cases hf : 0 ≤ fx)
  all_goals (go_enter Try.func17, Try.ntmps17)
  all_goals go_wp2
  all_goals go_ret
  all_goals exact ⟨by simp [hf], rfl⟩
theorem bestL_next {L : List OffT} {k : Nat} {o : OffT} (h : L[k]? = some o) : bestL (L.take (k + 1)) = max (bestL (L.take k)) o.level := by
  unfold bestL
  rw [List.take_add_one, h, List.foldl_append]
  rfl
set_option maxHeartbeats 800000 in
set_option maxRecDepth 100000 in
theorem rbest_any (h : RefZ w base rb z) (hlen : z.L.length ≤ 1000) : Calls Try.prog 19 #[.pointer (some ⟨rb, 0, none⟩)] w fun e w' => e = .returned (.int .i64 (bestL z.L)) ∧ w' = w := by
  obtain ⟨v, h⟩ := h
  obtain ⟨c0, c1, c2, c3, c4, c5, c6⟩ := h.cells
  obtain ⟨a, c, rfl, ho⟩ := h.off
  obtain ⟨len, hl⟩ : ∃ len, z.L.length = len := ⟨_, rfl⟩
  have HL := Lib.hid hl
  have HO := Lib.hid ho
  rw [hl] at c3 hlen
  clear h ho hl
  go_enter Try.func19, Try.ntmps19
  go_wp2
  go_loopw [3, 4] (fun n i wr => ∃ k : Nat, k ≤ len ∧ n = .int .i64 (bestL (z.L.take k)) ∧ i = .int .i64 k ∧ wr = w) (fun _ i _ => len - (intOf i).toNat)
  case atStart => exact ⟨0, Nat.zero_le _, by simp [bestL], rfl, rfl⟩
  case round =>
    obtain ⟨k, hk, rfl, rfl, rfl⟩ := hrel
    by_cases hlt : k < len
    · obtain ⟨o, hok⟩ : ∃ o, z.L[k]? = some o := ⟨_, List.getElem?_eq_getElem (by have := HL.out; omega)⟩
      obtain ⟨g, rfl, hc, _, _, x0, x1, x2⟩ := HO.out k o hok
      have hn := bestL_next hok
      have HN := Lib.hid hn
      rw [HL.out] at hc
      clear hok hn
      generalize bestL (z.L.take k) = b at *
      go_wp2
      go_roundw
      case rel => exact ⟨k + 1, by omega, by rw [HN.out]; congr 1; split <;> omega, by go_num, trivial⟩
      case measure => simp [intOf]; omega
    · obtain rfl : k = len := by omega
      have hf : z.L.take k = z.L := List.take_of_length_le (by rw [HL.out]; omega)
      rw [hf]
      go_wp2
      go_ret
      exact ⟨rfl, rfl⟩
/-- Where a link's offer stands. -/
theorem find_at : ∀ {L : List OffT} {link : Int} {k : Nat} {o : OffT}, L[k]? = some o → (∀ x ∈ L.take k, x.link ≠ link) → o.link = link → findL L link = some o
  | [], _, k, o, h, _, _ => by simp at h
  | x :: L, link, 0, o, h, _, e => by
    simp at h; subst h
    unfold findL
    rw [List.find?_cons_of_pos (by simpa using e)]
  | x :: L, link, k + 1, o, h, hn, e => by
    have hx : x.link ≠ link := hn x (by simp)
    unfold findL
    rw [List.find?_cons_of_neg (by simpa using hx)]
    exact find_at (by simpa using h) (fun y hy => hn y (by rw [List.take_succ_cons]; exact List.mem_cons_of_mem _ hy)) e
theorem find_not {L : List OffT} {link : Int} (h : ∀ x ∈ L, x.link ≠ link) : findL L link = none := by
  unfold findL
  rw [List.find?_eq_none]
  intro x hx
  simpa using h x hx
set_option maxHeartbeats 1600000 in
set_option maxRecDepth 100000 in
theorem rquiet_any (h : RefZ w base rb z) (hlen : z.L.length ≤ 1000) (link : Int) : Calls Try.prog 21 #[.pointer (some ⟨rb, 0, none⟩), .int .i64 link] w fun e w' => e = .returned (.bool (quietZ z link)) ∧ ∃ n, w' = w.drewN n := by
  have hw : ∀ n, Calls Try.prog 27 #[.pointer (some ⟨rb, 0, none⟩)] (w.drewN n) fun e w' => e = .returned (.bool (ownZ z)) ∧ w' = w.drewN n := fun n => rown_any (by obtain ⟨v, h⟩ := h; exact ⟨v, ⟨h.box, h.own.same (fun _ _ => rfl), h.le, h.base⟩⟩)
  obtain ⟨v, h⟩ := h
  obtain ⟨c0, c1, c2, c3, c4, c5, c6⟩ := h.cells
  obtain ⟨a, c, rfl, ho⟩ := h.off
  obtain ⟨len, hl⟩ : ∃ len, z.L.length = len := ⟨_, rfl⟩
  have HL := Lib.hid hl
  have HO := Lib.hid ho
  rw [hl] at c3 hlen
  clear h ho hl
  go_enter Try.func21, Try.ntmps21
  go_wp2
  go_loopw [5] (fun i wr => ∃ k : Nat, k ≤ len ∧ i = .int .i64 k ∧ RowKit.Hid (∀ x ∈ z.L.take k, x.link ≠ link) ∧ wr = w) (fun i _ => len - (intOf i).toNat)
  case atStart => exact ⟨0, Nat.zero_le _, rfl, fun x hx => by simp at hx, rfl⟩
  case round =>
    obtain ⟨k, hk, rfl, HN, rfl⟩ := hrel
    by_cases hlt : k < len
    · obtain ⟨o, hok⟩ : ∃ o, z.L[k]? = some o := ⟨_, List.getElem?_eq_getElem (by have := HL.out; omega)⟩
      obtain ⟨g, rfl, hc, _, _, x0, x1, x2⟩ := HO.out k o hok
      rw [HL.out] at hc
      by_cases he : o.link = link
      · have hq : quietZ z link = (ownZ z && decide (o.level = z.taken)) := by unfold quietZ; rw [find_at hok HN.out he]
        have b0 : (o.link == link) = true := by simpa using he
        have HQ := Lib.hid hq
        clear hok he hq
        cases hown : ownZ z
        · rw [hown] at hw HQ
          clear hown
          go_wp2
          go_quiet (exact Calls.quiet_of_same (hw _))
          go_wp2
          go_ret
          exact ⟨by rw [HQ.out]; rfl, _, rfl⟩
        · rw [hown] at hw HQ
          clear hown
          go_wp2
          go_quiet (exact Calls.quiet_of_same (hw _))
          go_wp2
          go_ret
          exact ⟨by rw [HQ.out]; by_cases q : o.level = z.taken <;> simp [q], _, rfl⟩
      · have b0 : (o.link == link) = false := by simpa using he
        have hn : ∀ x ∈ z.L.take (k + 1), x.link ≠ link := fun x hx => by
          rw [List.take_add_one, hok] at hx
          rcases List.mem_append.1 hx with hx | hx
          · exact HN.out x hx
          · simp at hx; subst hx; exact he
        have HN2 := Lib.hid hn
        clear hok he hn
        go_wp2
        go_roundw
        case rel => exact ⟨k + 1, by omega, by go_num, HN2, trivial⟩
        case measure => simp [intOf]; omega
    · obtain rfl : k = len := by omega
      have hf : z.L.take k = z.L := List.take_of_length_le (by rw [HL.out]; omega)
      have hq : quietZ z link = false := by unfold quietZ; rw [find_not (fun x hx => HN.out x (by rw [hf]; exact hx))]
      have HQ := Lib.hid hq
      clear hq hf
      go_wp2
      go_ret
      exact ⟨by rw [HQ.out]; rfl, 0, rfl⟩
end
end Go.Proofs.Ytfdoldefdkijoaa
