/-
  ZtpSettles: plain mathematics: any steps, then twelve rounds of the same offers.
-/
import Derived.Test.YtfdoldefdkijoaaZLaw
namespace Go.Proofs.Ytfdoldefdkijoaa
set_option linter.unusedSimpArgs false
set_option linter.unusedVariables false
/-- Unlike numbers below n are at most n. -/
theorem nodup_len : ∀ (n : Nat) (l : List Int), l.Nodup → (∀ x ∈ l, 0 ≤ x ∧ x < n) → l.length ≤ n
  | 0, l, _, h => by
    cases l with
    | nil => simp
    | cons x l => have := h x (by simp); omega
  | n + 1, l, hd, h => by
    have h1 : (l.filter fun x => decide (x ≠ (n : Int))).length ≤ n := nodup_len n _ (hd.sublist List.filter_sublist) fun x hx => by
      have hx := List.mem_filter.1 hx
      have h2 := h x hx.1
      have h3 : x ≠ (n : Int) := by simpa using hx.2
      omega
    have h2 : l.length ≤ (l.filter fun x => decide (x ≠ (n : Int))).length + 1 := by
      clear h1 h
      induction l with
      | nil => simp
      | cons x l ih =>
        have hd' := List.nodup_cons.1 hd
        by_cases hx : x = (n : Int)
        · have e : l.filter (fun x => decide (x ≠ (n : Int))) = l := List.filter_eq_self.2 fun y hy => by
            have : y ≠ (n : Int) := fun e => hd'.1 (by rw [hx, ← e]; exact hy)
            simpa using this
          rw [List.filter_cons_of_neg (by simp [hx]), e]
          simp
        · rw [List.filter_cons_of_pos (by simp [hx])]
          simp only [List.length_cons]
          have := ih hd'.2
          omega
    omega
/-- What the steps ahead leave. -/
structure PreZ (now : Int) (z : ZtT) : Prop where
  inv : InvZ z
  kind : z.fixed = -1 ∧ z.leaf = false ∧ z.top = false
  down : z.down = true → z.taken = 0
  link : ∀ o ∈ z.L, o.link ≤ 31
  offs : ∀ o ∈ z.L, o.till ≤ now + 4
  till : z.till ≤ now + 3
theorem PreZ.new {now : Int} (h : 0 ≤ now) : PreZ now newN := ⟨newN_inv, ⟨rfl, rfl, rfl⟩, fun h => (by cases h), by simp [newN, newZ], by simp [newN, newZ], by simp [newN, newZ]; omega⟩
theorem takeZ_facts {taken : Int} {down : Bool} {till best now : Int} (h : down = true → taken = 0) (h0 : 0 ≤ best) : ((takeZ taken down till best now).2.1 = true → (takeZ taken down till best now).1 = 0) ∧ ((takeZ taken down till best now).2.2 = till ∨ (takeZ taken down till best now).2.2 = now + 3) := by
  unfold takeZ take1
  split
  · rename_i q
    unfold take2
    split
    · exact ⟨fun h => (by cases h), .inl rfl⟩
    · exact ⟨fun h => (by simp only at h; rw [q.2] at h; cases h), .inl rfl⟩
  · split
    · unfold take2
      split
      · exact ⟨fun h => (by cases h), .inr rfl⟩
      · exact ⟨fun _ => rfl, .inr rfl⟩
    · unfold take2
      split
      · exact ⟨fun h => (by cases h), .inl rfl⟩
      · exact ⟨h, .inl rfl⟩
theorem PreZ.tick {now : Int} {z : ZtT} (h : PreZ now z) (t : Int) (ht : t ≤ now) : PreZ now (tickZ z t).2 := by
  by_cases hm : momB t
  · have q := takeZ_facts (taken := z.taken) (down := z.down) (till := z.till) (best := bestL (heldL z.L t)) (now := t) h.down (best_ge0 _)
    refine ⟨tickZ_inv h.inv t, ?_, ?_, ?_, ?_, ?_⟩
    · have k := tick_kind z t; exact ⟨k.1.trans h.kind.1, k.2.1.trans h.kind.2.1, k.2.2.trans h.kind.2.2⟩
    · rw [tick_is z hm]; exact q.1
    · rw [tick_is z hm]; exact fun o ho => h.link o (held_mem.1 ho).1
    · rw [tick_is z hm]; exact fun o ho => h.offs o (held_mem.1 ho).1
    · rw [tick_is z hm]
      have := h.till
      rcases q.2 with q | q <;> (simp only [q]; omega)
  · unfold tickZ; rw [if_pos hm]; exact h
theorem PreZ.offer {now : Int} {z : ZtT} (h : PreZ now z) (link level : Int) (none : Bool) (t : Int) (ht : t ≤ now) (hl : link ≤ 31) : PreZ now (offerZ z link level none t).2 := by
  have hi := offerZ_inv h.inv link level none t
  have k := offer_kind z link level none t
  have hk : (offerZ z link level none t).2.fixed = -1 ∧ (offerZ z link level none t).2.leaf = false ∧ (offerZ z link level none t).2.top = false := ⟨k.1.trans h.kind.1, k.2.1.trans h.kind.2.1, k.2.2.trans h.kind.2.2⟩
  revert hi hk
  unfold offerZ
  split
  · exact fun _ _ => h
  · split
    · exact fun hi hk => ⟨hi, hk, h.down, fun o ho => h.link o (rest_mem.1 ho).1, fun o ho => h.offs o (rest_mem.1 ho).1, h.till⟩
    · split
      · exact fun _ _ => h
      · refine fun hi hk => ⟨hi, hk, h.down, fun o ho => ?_, fun o ho => ?_, h.till⟩
        · rcases List.mem_append.1 ho with ho | ho
          · exact h.link o (rest_mem.1 ho).1
          · simp at ho; subst ho; exact hl
        · rcases List.mem_append.1 ho with ho | ho
          · exact h.offs o (rest_mem.1 ho).1
          · simp at ho; subst ho; simp only; omega
/-- The levels that count, and the best of them. -/
def goodV (v : Int) : Prop := 1 ≤ v ∧ v ≤ 24
instance (v : Int) : Decidable (goodV v) := by unfold goodV; infer_instance
def bestV (l : List Int) : Int := l.foldl (fun n v => if goodV v then max n v else n) 0
/-- In a round: j offers of the round k have been made. -/
structure RndZ (now : Int) (vs : List Int) (k : Int) (j : Nat) (z : ZtT) : Prop where
  inv : InvZ z
  kind : z.fixed = -1 ∧ z.leaf = false ∧ z.top = false
  down : z.down = true → z.taken = 0
  link : ∀ o ∈ z.L, o.link ≤ 31
  offs : ∀ o ∈ z.L, o.till ≤ now + 4 ∨ (∃ i : Nat, vs[i]? = some o.level ∧ o.link = i ∧ goodV o.level)
  has : ∀ (i : Nat) (v : Int), i < j → vs[i]? = some v → goodV v → (⟨i, v, now + k + 4⟩ : OffT) ∈ z.L
theorem RndZ.start {now : Int} {vs : List Int} {z : ZtT} (h : PreZ now z) : RndZ now vs 0 0 z := ⟨h.inv, h.kind, h.down, h.link, fun o ho => .inl (h.offs o ho), fun i v hi => by omega⟩
theorem rest_few {z : ZtT} (h : InvZ z) (hl : ∀ o ∈ z.L, o.link ≤ 31) (link : Int) : (restZ z.L link).length < 64 := by
  have h1 := rest_len z.L link
  have h2 := nodup_len 32 (z.L.map OffT.link) h.nd fun x hx => by
    obtain ⟨o, ho, rfl⟩ := List.mem_map.1 hx
    have a := (h.lv o ho).2.2.1
    have b := hl o ho
    exact ⟨a, by omega⟩
  rw [List.length_map] at h2
  omega
theorem RndZ.offer {now k : Int} {vs : List Int} {j : Nat} {z : ZtT} (h : RndZ now vs k j z) (hn : 0 ≤ now ∧ now ≤ 549755813888) (hk : 0 ≤ k ∧ k ≤ 11) (hj : j < 30) {v : Int} (hv : vs[j]? = some v) : RndZ now vs k (j + 1) (offerZ z j v false (now + k)).2 := by
  have hi := offerZ_inv h.inv (j : Int) v false (now + k)
  have kd := offer_kind z (j : Int) v false (now + k)
  have hkd : (offerZ z (j : Int) v false (now + k)).2.fixed = -1 ∧ (offerZ z (j : Int) v false (now + k)).2.leaf = false ∧ (offerZ z (j : Int) v false (now + k)).2.top = false := ⟨kd.1.trans h.kind.1, kd.2.1.trans h.kind.2.1, kd.2.2.trans h.kind.2.2⟩
  by_cases ha : offArg (j : Int) v (now + k)
  · by_cases hg : 1 ≤ v
    · have e := offer_put z ha hg (rest_few h.inv h.link j)
      rw [e] at hi hkd ⊢
      have hgv : goodV v := ⟨hg, ha.2.2.2.1⟩
      refine ⟨hi, hkd, h.down, fun o ho => ?_, fun o ho => ?_, fun i x hi hx hgx => ?_⟩
      · rcases List.mem_append.1 ho with ho | ho
        · exact h.link o (rest_mem.1 ho).1
        · simp at ho; subst ho; simp only; omega
      · rcases List.mem_append.1 ho with ho | ho
        · exact h.offs o (rest_mem.1 ho).1
        · simp at ho; subst ho; exact .inr ⟨j, hv, rfl, hgv⟩
      · by_cases hij : i = j
        · subst hij
          rw [hv] at hx
          injection hx with hx
          subst hx
          exact List.mem_append.2 (.inr (by simp))
        · exact List.mem_append.2 (.inl (rest_mem.2 ⟨h.has i x (by omega) hx hgx, by simp only; omega⟩))
    · have e := offer_drop z (none := false) ha (.inl (by omega))
      rw [e] at hi hkd ⊢
      refine ⟨hi, hkd, h.down, fun o ho => h.link o (rest_mem.1 ho).1, fun o ho => h.offs o (rest_mem.1 ho).1, fun i x hi hx hgx => ?_⟩
      have hij : i ≠ j := by
        rintro rfl
        rw [hv] at hx
        injection hx with hx
        subst hx
        exact hg hgx.1
      exact rest_mem.2 ⟨h.has i x (by omega) hx hgx, by simp only; omega⟩
  · have e : (offerZ z (j : Int) v false (now + k)).2 = z := by unfold offerZ; rw [if_pos ha]
    rw [e]
    refine ⟨h.inv, h.kind, h.down, h.link, h.offs, fun i x hi hx hgx => ?_⟩
    have hij : i ≠ j := by
      rintro rfl
      rw [hv] at hx
      injection hx with hx
      subst hx
      exact ha ⟨by omega, by omega, by have := hgx.1; omega, hgx.2, by unfold momB; omega⟩
    exact h.has i x (by omega) hx hgx
/-- Behind the tick of a round. -/
structure EndZ (now : Int) (vs : List Int) (k : Int) (z : ZtT) : Prop where
  inv : InvZ z
  kind : z.fixed = -1 ∧ z.leaf = false ∧ z.top = false
  down : z.down = true → z.taken = 0
  link : ∀ o ∈ z.L, o.link ≤ 31
  offs : ∀ o ∈ z.L, o.till ≤ now + 4 ∨ (∃ i : Nat, vs[i]? = some o.level ∧ o.link = i ∧ goodV o.level)
  best : 4 ≤ k → bestL z.L = bestV vs
  conv : 4 ≤ k → (z.down = false ∧ z.taken = bestV vs) ∨ (z.down = true ∧ z.till ≤ now + 7)
  till : z.till ≤ now + k + 3
  fin : 7 ≤ k → z.down = false ∧ z.taken = bestV vs
theorem EndZ.next {now k : Int} {vs : List Int} {z : ZtT} (h : EndZ now vs k z) : RndZ now vs (k + 1) 0 z := ⟨h.inv, h.kind, h.down, h.link, h.offs, fun i v hi => by omega⟩
theorem foldV_ge : ∀ (l : List Int) (n : Int), n ≤ l.foldl (fun n v => if goodV v then max n v else n) n
  | [], n => Int.le_refl n
  | x :: l, n => by
    rw [List.foldl_cons]
    have := foldV_ge l (if goodV x then max n x else n)
    split at this <;> rename_i q <;> simp only [q, if_true, if_false] <;> omega
theorem foldV_all : ∀ (l : List Int) (n : Int), ∀ v ∈ l, goodV v → v ≤ l.foldl (fun n v => if goodV v then max n v else n) n
  | [], n, v, h, _ => by cases h
  | x :: l, n, v, h, hg => by
    rw [List.foldl_cons]
    rcases List.mem_cons.1 h with rfl | h
    · have := foldV_ge l (if goodV v then max n v else n)
      rw [if_pos hg] at this ⊢
      omega
    · exact foldV_all l _ v h hg
theorem foldV_in : ∀ (l : List Int) (n : Int), l.foldl (fun n v => if goodV v then max n v else n) n = n ∨ ∃ v ∈ l, goodV v ∧ v = l.foldl (fun n v => if goodV v then max n v else n) n
  | [], n => .inl rfl
  | x :: l, n => by
    rw [List.foldl_cons]
    rcases foldV_in l (if goodV x then max n x else n) with h | ⟨v, hv, hg, h⟩
    · rw [h]
      by_cases q : goodV x
      · rw [if_pos q]
        by_cases r : x ≤ n
        · left; omega
        · right; exact ⟨x, by simp, q, by omega⟩
      · rw [if_neg q]; exact .inl rfl
    · exact .inr ⟨v, by simp [hv], hg, h⟩
theorem RndZ.tick {now k : Int} {vs : List Int} {z : ZtT} (h : RndZ now vs k vs.length z) (hn : 0 ≤ now ∧ now ≤ 549755813888) (hk : 0 ≤ k ∧ k ≤ 11) (ht : z.till ≤ now + k + 2 ∨ k = 0 ∧ z.till ≤ now + 3) (hc : 5 ≤ k → (z.down = false ∧ z.taken = bestV vs) ∨ (z.down = true ∧ z.till ≤ now + 7)) (hf : 8 ≤ k → z.down = false ∧ z.taken = bestV vs) : EndZ now vs k (tickZ z (now + k)).2 := by
  have hm : momB (now + k) := by unfold momB; omega
  have hi := tickZ_inv h.inv (now + k)
  have kd := tick_kind z (now + k)
  have hkd : (tickZ z (now + k)).2.fixed = -1 ∧ (tickZ z (now + k)).2.leaf = false ∧ (tickZ z (now + k)).2.top = false := ⟨kd.1.trans h.kind.1, kd.2.1.trans h.kind.2.1, kd.2.2.trans h.kind.2.2⟩
  rw [tick_is z hm] at hi hkd ⊢
  have hbest : 4 ≤ k → bestL (heldL z.L (now + k)) = bestV vs := by
    intro h4
    refine best_eq (foldV_ge vs 0) (fun o ho => ?_) ?_
    · have ho := held_mem.1 ho
      rcases h.offs o ho.1 with q | ⟨i, q1, q2, q3⟩
      · omega
      · exact foldV_all vs 0 _ (List.mem_of_getElem? q1) q3
    · rcases foldV_in vs 0 with q | ⟨v, hv, hg, q⟩
      · exact .inl q
      · obtain ⟨i, hi, rfl⟩ := List.mem_iff_getElem.1 hv
        exact .inr ⟨⟨i, vs[i], now + k + 4⟩, held_mem.2 ⟨h.has i _ hi (List.getElem?_eq_getElem hi) hg, by simp only; omega⟩, q⟩
  have q := takeZ_facts (taken := z.taken) (down := z.down) (till := z.till) (best := bestL (heldL z.L (now + k))) (now := now + k) h.down (best_ge0 _)
  have hB := best_ge0 (heldL z.L (now + k))
  refine ⟨hi, hkd, q.1, fun o ho => h.link o (held_mem.1 ho).1, fun o ho => h.offs o (held_mem.1 ho).1, hbest, fun h4 => ?_, ?_, fun h7 => ?_⟩
  · simp only
    rw [hbest h4] at hB ⊢
    cases hd : z.down
    · by_cases h1 : z.taken < bestV vs
      · rw [takeZ_up h1]; exact .inl ⟨rfl, rfl⟩
      · by_cases h2 : bestV vs < z.taken
        · rw [takeZ_fall h2]
          by_cases h5 : 5 ≤ k
          · rcases hc h5 with c | c
            · omega
            · rw [hd] at c; cases c.1
          · exact .inr ⟨rfl, by simp only; omega⟩
        · have e : z.taken = bestV vs := by omega
          rw [e, takeZ_same]; exact .inl ⟨rfl, rfl⟩
    · have e := h.down hd
      rw [e]
      by_cases h1 : z.till ≤ now + k
      · rw [takeZ_end (by omega) h1]; exact .inl ⟨rfl, rfl⟩
      · rw [takeZ_down (by omega) (by omega)]
        refine .inr ⟨rfl, ?_⟩
        simp only
        by_cases h5 : 5 ≤ k
        · rcases hc h5 with c | c
          · rw [hd] at c; cases c.1
          · exact c.2
        · omega
  · simp only
    rcases q.2 with q | q <;> (rw [q]; omega)
  · simp only
    rw [hbest (by omega)] at hB ⊢
    cases hd : z.down
    · rcases hc (by omega) with c | c
      · rw [c.2, takeZ_same]; exact ⟨rfl, rfl⟩
      · rw [hd] at c; cases c.1
    · rcases hc (by omega) with c | c
      · rw [hd] at c; cases c.1
      · have e := h.down hd
        rw [e, takeZ_end (by omega) (by omega)]; exact ⟨rfl, rfl⟩
theorem EndZ.level {now k : Int} {vs : List Int} {z : ZtT} (h : EndZ now vs k z) (hk : 7 ≤ k) : bestL z.L = bestV vs ∧ levelZ z = bestV vs - 1 := by
  refine ⟨h.best (by omega), ?_⟩
  unfold levelZ
  rw [h.kind.1, h.kind.2.1, h.kind.2.2, if_neg (by omega), if_neg (by decide), if_neg (by decide), (h.fin hk).2]
end Go.Proofs.Ytfdoldefdkijoaa
