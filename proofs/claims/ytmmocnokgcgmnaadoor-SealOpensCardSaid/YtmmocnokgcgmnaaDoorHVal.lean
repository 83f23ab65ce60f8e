/-
  NUMBERS OF MANY DIGITS of 2^16, the lowest first.
-/
import Derived.Test.YtmmocnokgcgmnaaDoorHArr
namespace Go.Proofs.YtmmocnokgcgmnaaDoor
def val : List Nat → Nat
  | [] => 0
  | d :: l => d + 65536 * val l
theorem val_set : ∀ (l : List Nat) (i x y : Nat), l[i]? = some y → val (l.set i x) + 65536 ^ i * y = val l + 65536 ^ i * x := by
  intro l
  induction l with
  | nil => intro i x y h; simp at h
  | cons d l ih =>
    intro i x y h
    cases i with
    | zero => simp at h; subst h; simp [val]; omega
    | succ i =>
      have h1 := ih i x y (by simpa using h)
      simp only [List.set_cons_succ, val, Nat.pow_succ]
      have e1 : 65536 ^ i * 65536 * y = 65536 * (65536 ^ i * y) := by rw [Nat.mul_comm (65536 ^ i), Nat.mul_assoc]
      have e2 : 65536 ^ i * 65536 * x = 65536 * (65536 ^ i * x) := by rw [Nat.mul_comm (65536 ^ i), Nat.mul_assoc]
      rw [e1, e2]
      omega
theorem val_ge : ∀ (l : List Nat) (i y : Nat), l[i]? = some y → 65536 ^ i * y ≤ val l := by
  intro l
  induction l with
  | nil => intro i y h; simp at h
  | cons d l ih =>
    intro i y h
    cases i with
    | zero => simp at h; subst h; simp [val]
    | succ i =>
      have h1 := ih i y (by simpa using h)
      have e1 : 65536 ^ (i + 1) * y = 65536 * (65536 ^ i * y) := by rw [Nat.pow_succ, Nat.mul_comm (65536 ^ i), Nat.mul_assoc]
      rw [e1]
      simp only [val]
      omega
theorem val_lt : ∀ (l : List Nat), (∀ d ∈ l, d < 65536) → val l < 65536 ^ l.length := by
  intro l
  induction l with
  | nil => intro _; simp [val]
  | cons d l ih =>
    intro h
    have h1 := ih fun x hx => h x (List.mem_cons_of_mem _ hx)
    have h2 := h d (List.mem_cons_self ..)
    simp only [val, List.length_cons, Nat.pow_succ]
    omega
theorem val_take (l : List Nat) (i y : Nat) (h : l[i]? = some y) : val (l.take (i + 1)) = val (l.take i) + 65536 ^ i * y := by
  induction l generalizing i with
  | nil => simp at h
  | cons d l ih =>
    cases i with
    | zero => simp at h; subst h; simp [val]
    | succ i =>
      have h1 := ih i (by simpa using h)
      simp only [List.take_succ_cons, val, h1, Nat.pow_succ]
      rw [Nat.mul_add, ← Nat.mul_assoc, Nat.mul_comm 65536 (65536 ^ i)]
      omega
theorem val_take_le (l : List Nat) (i : Nat) : val (l.take i) ≤ val l := by
  induction l generalizing i with
  | nil => simp [val]
  | cons d l ih =>
    cases i with
    | zero => simp [val]
    | succ i => have := ih i; simp only [List.take_succ_cons, val]; omega
theorem val_zeros (n : Nat) : val (List.replicate n 0) = 0 := by
  induction n with
  | zero => rfl
  | succ n ih => rw [List.replicate_succ, val, ih]
theorem val_carry {o : List Nat} {c d e : Nat} (hd : o[c]? = some d) (he : o[c + 1]? = some e) : val ((o.set (c + 1) (e + d / 65536)).set c (d % 65536)) = val o := by
  have h1 := val_set o (c + 1) (e + d / 65536) e he
  have h2 := val_set (o.set (c + 1) (e + d / 65536)) c (d % 65536) d (by rw [List.getElem?_set, if_neg (by omega)]; exact hd)
  obtain ⟨P, hP⟩ : ∃ P, 65536 ^ c = P := ⟨_, rfl⟩
  rw [Nat.pow_succ, hP, Nat.mul_add] at h1
  rw [hP] at h2
  have h3 : P * d = P * 65536 * (d / 65536) + P * (d % 65536) := by
    rw [Nat.mul_assoc, ← Nat.mul_add, Nat.div_add_mod]
  omega
theorem val_room {o : List Nat} {c d n : Nat} (hd : o[c]? = some d) (h1 : 65536 ≤ d) (hv : val o < 65536 ^ n) : c + 1 < n := by
  have h2 := val_ge o c d hd
  have h3 : 65536 ^ (c + 1) ≤ 65536 ^ c * d := by rw [Nat.pow_succ]; exact Nat.mul_le_mul_left _ h1
  have h4 : 65536 ^ (c + 1) < 65536 ^ n := by omega
  exact (Nat.pow_lt_pow_iff_right (by decide)).1 h4
/-- The product's part so far stays below. -/
theorem val_bound {a b : List Nat} (ha : ∀ d ∈ a, d < 65536) (hb : ∀ d ∈ b, d < 65536) {i x : Nat} (hx : a[i]? = some x) (k : Nat) : val (a.take i) * val b + 65536 ^ i * x * val (b.take k) < 65536 ^ (a.length + b.length) := by
  have h1 := val_take a i x hx
  have h2 := val_take_le a (i + 1)
  have h3 := val_take_le b k
  have h4 := val_lt a ha
  have h5 := val_lt b hb
  have h6 : val (a.take i) * val b + 65536 ^ i * x * val (b.take k) ≤ val (a.take (i + 1)) * val b := by
    rw [h1, Nat.add_mul]
    exact Nat.add_le_add_left (Nat.mul_le_mul_left _ h3) _
  have h7 : val (a.take (i + 1)) * val b ≤ val a * val b := Nat.mul_le_mul_right _ h2
  have h8 : val a * val b < 65536 ^ a.length * 65536 ^ b.length := by
    have hp : 0 < 65536 ^ a.length := Nat.pow_pos (by decide)
    exact Nat.lt_of_le_of_lt (Nat.mul_le_mul_right _ (Nat.le_of_lt h4)) ((Nat.mul_lt_mul_left hp).2 h5)
  rw [Nat.pow_add]
  omega
end Go.Proofs.YtmmocnokgcgmnaaDoor
