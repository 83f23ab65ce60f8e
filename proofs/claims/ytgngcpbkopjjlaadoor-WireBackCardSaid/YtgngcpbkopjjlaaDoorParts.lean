/-
  PLAIN MATHEMATICS: the items of some bytes, one behind the other; they are inverse to the bytes of a record.
-/
import Derived.Test.YtgngcpbkopjjlaaDoorPTake
namespace Go.Proofs.YtgngcpbkopjjlaaDoor

theorem part_props {zs : List Int} (hb : ∀ x ∈ zs, 0 ≤ x ∧ x ≤ 255) {x : It} {k : Nat} (h : partS zs = some (x, k)) :
    0 < k ∧ k ≤ zs.length ∧ x.ok ∧ x.bs.length ≤ zs.length ∧ itemL x = zs.take k := by
  unfold partS at h
  rcases hs : scan 0 0 zs with _ | ⟨q, qs⟩
  · rw [hs] at h; cases h
  · rw [hs] at h
    simp only at h
    obtain ⟨q0, q1, q2, q3⟩ := scan_first0 hb hs
    have hqn := q.hn
    have wfi : ∀ n : Int, -9223372036854775808 ≤ n → n ≤ 9223372036854775807 → (Lit.int .i64 n).wf = true := fun n h0 h1 => by
      simp [Lit.wf, IntKind.min, IntKind.max, IntKind.signed, IntKind.bits]; omega
    have wfb : ∀ n : Int, 0 ≤ n ∧ n ≤ 255 → (Lit.int .u8 n).wf = true := fun n h => by
      simp [Lit.wf, IntKind.min, IntKind.max, IntKind.signed, IntKind.bits]; omega
    by_cases hm : q.n % 4 = 2 ∨ q.n % 4 = 3
    · rw [if_pos hm] at h
      injection h with h
      injection h with h1 h2
      subst h1 h2
      refine ⟨q0, q1, ⟨wfi _ (by simp only; omega) (by simp only; omega), wfi _ (by simp only; omega) (by simp only; omega), wfi _ (by simp) (by simp), by simp⟩, by simp, ?_⟩
      unfold itemL
      rw [q2, if_neg (by simp only; omega), if_neg (by simp only; omega), List.append_nil]
      congr 1
      simp only
      omega
    · rw [if_neg hm] at h
      rcases hs2 : scan 0 0 (zs.drop q.k) with _ | ⟨p, ps⟩
      · rw [hs2] at h; cases h
      · rw [hs2] at h
        simp only at h
        have hb2 : ∀ x ∈ zs.drop q.k, 0 ≤ x ∧ x ≤ 255 := fun x hx => hb x (List.mem_of_mem_drop hx)
        obtain ⟨p0, p1, p2, p3⟩ := scan_first0 hb2 hs2
        have hpn := p.hn
        rw [List.length_drop] at p1
        by_cases h0 : q.n % 4 = 0
        · rw [if_pos h0] at h
          injection h with h
          injection h with h1 h2
          subst h1 h2
          have hz := zag_range (u := (p.n : Int)) (by omega) (by omega)
          refine ⟨by omega, by omega, ⟨wfi _ (by simp) (by simp), wfi _ (by simp only; omega) (by simp only; omega), wfi _ hz.1 hz.2, by simp⟩, by simp, ?_⟩
          unfold itemL
          rw [if_pos rfl, List.take_add, q2, p2]
          simp only
          rw [zig_zag (by omega)]
          congr 2
          omega
        · rw [if_neg h0] at h
          by_cases hl : zs.length - q.k - p.k < p.n
          · rw [if_pos hl] at h; cases h
          · rw [if_neg hl] at h
            injection h with h
            injection h with h1 h2
            subst h1 h2
            have hbl : (((zs.drop q.k).drop p.k).take p.n).length = p.n := by rw [List.length_take, List.length_drop, List.length_drop]; omega
            refine ⟨by omega, by omega, ⟨wfi _ (by simp) (by simp), wfi _ (by simp only; omega) (by simp only; omega), wfi _ (by simp) (by simp), ?_⟩, by simp only; omega, ?_⟩
            · intro y hy
              exact wfb y (hb y (List.mem_of_mem_drop (List.mem_of_mem_drop (List.mem_of_mem_take hy))))
            · unfold itemL
              rw [if_neg (by simp), if_pos rfl, List.take_add, List.take_add, q2, p2]
              simp only
              rw [hbl, List.append_assoc, List.drop_drop]
              congr 2
              omega

/-- The items of some bytes. -/
def decS : Nat → List Int → Option (List It)
  | _, [] => some []
  | 0, _ :: _ => none
  | f + 1, z :: zs => match partS (z :: zs) with
    | none => none
    | some (x, k) => (decS f ((z :: zs).drop k)).map (x :: ·)
/-- The record of some bytes. -/
def decB (zs : List Int) : Option (List It) :=
  if 4096 < zs.length then none else match decS zs.length zs with
    | none => none
    | some l => if rightB l = true then some l else none

theorem decS_props : ∀ (f : Nat) (zs : List Int) (l : List It), (∀ x ∈ zs, 0 ≤ x ∧ x ≤ 255) → decS f zs = some l → encL l = zs ∧ (∀ x ∈ l, x.ok ∧ x.bs.length ≤ zs.length) ∧ l.length ≤ zs.length := by
  intro f
  induction f with
  | zero =>
    intro zs l hb h
    cases zs with
    | nil => simp only [decS, Option.some.injEq] at h; subst h; exact ⟨rfl, by simp, Nat.le_refl _⟩
    | cons z zs => cases h
  | succ f ih =>
    intro zs l hb h
    cases zs with
    | nil => simp only [decS, Option.some.injEq] at h; subst h; exact ⟨rfl, by simp, Nat.le_refl _⟩
    | cons z zs =>
      rw [decS] at h
      rcases hp : partS (z :: zs) with _ | ⟨x, k⟩
      · rw [hp] at h; cases h
      · rw [hp] at h
        simp only at h
        obtain ⟨m, hm, rfl⟩ := Option.map_eq_some_iff.1 h
        obtain ⟨k0, k1, k2, k3, k4⟩ := part_props hb hp
        obtain ⟨i1, i2, i3⟩ := ih _ m (fun x hx => hb x (List.mem_of_mem_drop hx)) hm
        rw [List.length_drop] at i2 i3
        refine ⟨?_, ?_, ?_⟩
        · have e : encL (x :: m) = itemL x ++ encL m := by simp [encL]
          rw [e, i1, k4, List.take_append_drop]
        · intro y hy
          rcases List.mem_cons.1 hy with rfl | hy
          · exact ⟨k2, k3⟩
          · have := i2 y hy
            exact ⟨this.1, by omega⟩
        · rw [List.length_cons (a := x)]
          omega

theorem part_item {x : It} (hs : shapeB x = true) (hok : x.ok) (hlen : x.bs.length < 9223372036854775808) (rest : List Int) : partS (itemL x ++ rest) = some (x, (itemL x).length) := by
  have bn := wf_i64 hok.2.2.1
  have hz := zig_range bn.1 bn.2
  obtain ⟨kd, id, n, bs⟩ := x
  simp only at bn hz
  rcases shape_kinds hs with ⟨k, i0, i1, d⟩ | ⟨k, i0, i1, d⟩ | ⟨k, i0, i1, d, d2⟩ | ⟨k, i0, d, d2⟩
  · simp only at k i0 i1 d
    subst k
    obtain rfl := List.eq_nil_of_length_eq_zero d
    have e : itemL ⟨1, id, n, []⟩ = putL (id * 4 + 1 - 1).toNat ++ putL (zigI n).toNat := by unfold itemL; rw [if_pos rfl]
    rw [e]
    unfold partS
    rw [List.append_assoc, scan_put0 (by omega)]
    simp only
    rw [Num.of_n (by omega), Num.of_k (putL_len10 (by omega)), if_neg (by omega), List.drop_left, scan_put0 (by omega)]
    simp only
    rw [if_pos (by omega), Num.of_n (by omega), Num.of_k (putL_len10 (by omega)), List.length_append]
    rw [show ((zigI n).toNat : Int) = zigI n by omega, zag_zig]
    congr 3
    omega
  · simp only at k i0 i1 d hlen
    subst k d
    have e : itemL ⟨2, id, 0, bs⟩ = putL (id * 4 + 2 - 1).toNat ++ (putL bs.length ++ bs) := by unfold itemL; rw [if_neg (by simp), if_pos rfl]
    rw [e]
    unfold partS
    rw [List.append_assoc, scan_put0 (by omega)]
    simp only
    rw [Num.of_n (by omega), Num.of_k (putL_len10 (by omega)), if_neg (by omega), List.drop_left, List.append_assoc, scan_put0 (by omega)]
    simp only
    rw [if_neg (by omega), Num.of_n (by omega), Num.of_k (putL_len10 (by omega)), if_neg (by simp only [List.length_append]; omega), List.drop_left, List.take_left]
    simp only [List.length_append]
    rw [show ((((id * 4 + 2 - 1).toNat / 4 : Nat)) : Int) = id by omega, Nat.add_assoc]
  · simp only at k i0 i1 d d2
    subst k d
    obtain rfl := List.eq_nil_of_length_eq_zero d2
    have e : itemL ⟨3, id, 0, []⟩ = putL (id * 4 + 3 - 1).toNat := by unfold itemL; rw [if_neg (by simp), if_neg (by simp), List.append_nil]
    rw [e]
    unfold partS
    rw [scan_put0 (by omega)]
    simp only
    rw [Num.of_n (by omega), Num.of_k (putL_len10 (by omega)), if_pos (by omega)]
    congr 3 <;> omega
  · simp only at k i0 d d2
    subst k i0 d
    obtain rfl := List.eq_nil_of_length_eq_zero d2
    have e : itemL ⟨4, 0, 0, []⟩ = putL 3 := by unfold itemL; rw [if_neg (by simp), if_neg (by simp), List.append_nil]; rfl
    rw [e]
    unfold partS
    rw [scan_put0 (by omega)]
    simp only
    rw [Num.of_n (by omega), Num.of_k (putL_len10 (by omega)), if_pos (by omega)]
    rfl

theorem itemL_pos (x : It) : 0 < (itemL x).length := by
  unfold itemL
  rw [List.length_append]
  have := putL_pos (x.id * 4 + x.kind - 1).toNat
  omega
theorem dec_enc : ∀ (l : List It), (∀ x ∈ l, shapeB x = true ∧ x.ok ∧ x.bs.length < 9223372036854775808) → ∀ f, (encL l).length ≤ f → decS f (encL l) = some l := by
  intro l
  induction l with
  | nil => intro _ f _; cases f <;> rfl
  | cons x l ih =>
    intro h f hf
    have e : encL (x :: l) = itemL x ++ encL l := by simp [encL]
    have hp := itemL_pos x
    have hx := h x (by simp)
    have hpart := part_item hx.1 hx.2.1 hx.2.2 (encL l)
    rw [e] at hf ⊢
    rw [List.length_append] at hf
    obtain ⟨f, rfl⟩ : ∃ g, f = g + 1 := ⟨f - 1, by omega⟩
    have hd : decS f (encL l) = some l := ih (fun y hy => h y (by simp [hy])) f (by omega)
    rcases hz : itemL x ++ encL l with _ | ⟨z, zs⟩
    · have := congrArg List.length hz
      rw [List.length_append, List.length_nil] at this
      omega
    · rw [hz] at hpart
      rw [decS, hpart]
      simp only
      rw [← hz, List.drop_left, hd]
      rfl
theorem decB_enc {l : List It} (hr : rightB l = true) (hok : ∀ x ∈ l, x.ok) (hbl : ∀ x ∈ l, x.bs.length ≤ 1000000) (hlen : ¬ 4096 < (encL l).length) : decB (encL l) = some l := by
  unfold decB
  rw [if_neg hlen, dec_enc l (fun x hx => ⟨right_shape l 0 hr x hx, hok x hx, by have := hbl x hx; omega⟩) _ (Nat.le_refl _)]
  simp only
  rw [if_pos hr]
theorem decB_props {zs : List Int} {l : List It} (hb : ∀ x ∈ zs, 0 ≤ x ∧ x ≤ 255) (h : decB zs = some l) : rightB l = true ∧ encL l = zs ∧ (∀ x ∈ l, x.ok ∧ x.bs.length ≤ 4096) ∧ l.length ≤ 4096 ∧ zs.length ≤ 4096 := by
  unfold decB at h
  by_cases hl : 4096 < zs.length
  · rw [if_pos hl] at h; cases h
  · rw [if_neg hl] at h
    rcases hd : decS zs.length zs with _ | m
    · rw [hd] at h; cases h
    · rw [hd] at h
      simp only at h
      by_cases hr : rightB m = true
      · rw [if_pos hr] at h
        injection h with h
        subst h
        obtain ⟨h1, h2, h3⟩ := decS_props _ zs m hb hd
        exact ⟨hr, h1, fun x hx => ⟨(h2 x hx).1, by have := (h2 x hx).2; omega⟩, by omega, by omega⟩
      · rw [if_neg hr] at h; cases h
end Go.Proofs.YtgngcpbkopjjlaaDoor
