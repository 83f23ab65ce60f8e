/-
  ShaKeys: the walk of the law.
-/
import Derived.Test.YtikenabdgconeaaDoorHEq
import Derived.Test.YtikenabdgconeaaDoorHZeros
namespace Go.Proofs.YtikenabdgconeaaDoor
open Go.RowKit
theorem mac_zeros {key : List Nat} {n : Nat} (h : key.length + n ≤ 64) (b : List Nat) : macL (key ++ List.replicate n 0) b = macL key b := by
  have e : full (key ++ List.replicate n 0) = full key := by
    unfold full keyL
    rw [if_neg (by simp; omega), if_neg (by omega), List.append_assoc, List.length_append, List.length_replicate, List.replicate_append_replicate, show n + (64 - (key.length + n)) = 64 - key.length by omega]
  unfold macL
  rw [e]
/-- What is owned can be read, empty or not. -/
theorem own_rd0 {w : World} {base : Nat} {v : Value} {l : List Nat} {n : Nat} (h : w.ownsRow base 5 1 v n (u8s l)) (hn : l.length = n) : ∃ ad c, v = .slice ad n c ∧ n ≤ c ∧ RdN w.heap.size w ad l := by
  subst hn
  by_cases h0 : 0 < l.length
  · obtain ⟨g, c, rfl, h1, _, _, h4⟩ := own_rd h h0
    exact ⟨_, c, rfl, h1, h4⟩
  · obtain rfl : l = [] := List.eq_nil_of_length_eq_zero (by omega)
    rcases h.2 with ⟨rfl, _⟩ | ⟨g, cap, cur, rfl, _, _, h1, _⟩
    · exact ⟨none, 0, rfl, Nat.le_refl _, RdN.nil _ _ _⟩
    · exact ⟨_, cap, rfl, h1, RdN.nil _ _ _⟩
theorem own_empty (w : World) (base : Nat) (hb : base ≤ w.heap.size) : (w.alloc (.cells #[] 5)).ownsRow base 5 1 (.slice (some ⟨w.heap.size, 0, none⟩) 0 0) 0 [] :=
  ⟨rfl, .inr ⟨w.heap.size, 0, #[], rfl, hb, heap_alloc_new w _, Nat.le_refl _, Nat.zero_le _, rfl, rfl⟩⟩
set_option maxHeartbeats 1600000 in
set_option maxRecDepth 100000 in
theorem keys_walk (kA : Option Addr) (kc : Nat) (key : List Nat) (a : Option Addr) (cap : Nat) (b : List Nat) (n : Int) (hn : -9223372036854775808 ≤ n ∧ n ≤ 9223372036854775807) (w : World) (hk : InB w kA key.length kc key) (hb : InB w a b.length cap b) (hT : Tabs w) :
    Calls Tryd.prog 8 #[.slice kA key.length kc, .slice a b.length cap, .int .i64 n] w fun e w' => e = .returned (.bool true) ∧ Below w.heap.size w w' := by
  obtain ⟨_, hkc, hkm, hkb, hkr⟩ := hk
  obtain ⟨_, hbc, hbm, hbb, hbr⟩ := hb
  have haw := awake_any w hT
  have hkl : key.length ≤ 9223372036854775807 := by unfold maxLen at hkm; omega
  have hbl : b.length ≤ 9223372036854775807 := by unfold maxLen at hbm; omega
  have hnk : key.length ≤ 64 → -9223372036854775808 ≤ (64 : Int) - key.length ∧ (64 : Int) - key.length ≤ 9223372036854775807 := fun _ => by omega
  by_cases c1 : 64 < key.length
  · go_enter Tryd.func8, Tryd.ntmps8
    go_wp2_with (go_at_call 9; refine haw.mono ?_; rintro e w1 ⟨rfl, hb1⟩)
    go_ret
    exact ⟨rfl, hb1⟩
  by_cases c2 : 1000 < b.length
  · go_enter Tryd.func8, Tryd.ntmps8
    go_wp2_with (go_at_call 9; refine haw.mono ?_; rintro e w1 ⟨rfl, hb1⟩)
    go_ret
    exact ⟨rfl, hb1⟩
  by_cases c3 : n < 0
  · go_enter Tryd.func8, Tryd.ntmps8
    go_wp2_with (go_at_call 9; refine haw.mono ?_; rintro e w1 ⟨rfl, hb1⟩)
    go_ret
    exact ⟨rfl, hb1⟩
  by_cases c4 : 64 - (key.length : Int) < n
  · go_enter Tryd.func8, Tryd.ntmps8
    go_wp2_with (go_at_call 9; refine haw.mono ?_; rintro e w1 ⟨rfl, hb1⟩)
    go_ret
    exact ⟨rfl, hb1⟩
  obtain ⟨m, rfl⟩ : ∃ m : Nat, n = m := ⟨n.toNat, by omega⟩
  obtain ⟨sk, hsk⟩ := conv_rdN hkr rfl kc
  obtain ⟨sb, hsb⟩ := conv_rdN hbr rfl cap
  obtain ⟨i0, hi, hz0, hz1, hz2⟩ := info_parts Tryd.info5
  obtain ⟨R, hR⟩ : ∃ R, macL key b = R := ⟨_, rfl⟩
  have hRl : R.length = 32 := by rw [← hR]; rfl
  have hRb : ∀ x ∈ R, x < 256 := by rw [← hR]; exact outV_lt _
  have heq := fun W => eq24 hRl hRb W
  have hm1 := fun W (h1 : RdN W.heap.size W kA key) (h2 : RdN W.heap.size W a b) (h3 : Tabs W) => pmac_any kA kc key hkb hkc (by omega) a cap b hbb (by omega) W h1 h2 h3
  have hm2 := fun ad c (hc : key.length + m ≤ c) W (h1 : RdN W.heap.size W ad (key ++ List.replicate m 0)) (h2 : RdN W.heap.size W a b) (h3 : Tabs W) => pmac_any ad c (key ++ List.replicate m 0) (fun x hx => (List.mem_append.1 hx).elim (hkb x) (fun h => by rw [(List.mem_replicate.1 h).2]; decide)) (by simpa using hc) (by simp; omega) a cap b hbb (by omega) W h1 h2 h3
  rw [mac_zeros (by omega), hR, List.length_append, List.length_replicate] at hm2
  rw [hR] at hm1
  have hpos := hT.pos
  have HRL := Lib.hid hRl
  clear hR hRl hRb
  have T1 : True := trivial
  go_enter Tryd.func8, Tryd.ntmps8
  go_wp2_with (first
    | (go_at_call 9; refine haw.mono ?_; rintro e w1 ⟨rfl, hb1⟩; have k1 := hsk w1 (.inr hb1); have k2 := hsb w1 (.inr hb1); have HB1 := Lib.hid hb1; clear hb1)
    | (at_builtin; refine wpList_append_bytes (bs := key) (n₀ := w.heap.size) hi hz0 hz1 hz2 rfl _ _ rfl w.heap.size _ [] rfl (own_empty w1 w.heap.size HB1.out.size) rfl rfl (hkr.below (HB1.out.alloc HB1.out.size _) (Nat.le_refl _)) ?c1 ?c2 ?c3))
  case c1 => simp; omega
  case c2 => have := HB1.out.size; simp; omega
  intro v' w2 HO2 HB2
  have ho2 : w2.ownsRow w.heap.size 5 1 v' key.length (u8s key) := by simpa using HO2.out
  have B2 : Below w.heap.size w w2 := (HB1.out.alloc HB1.out.size _).trans HB2.out
  clear k1 k2
  go_wp2_with (at_builtin; refine wpList_append_zeros hi hz0 hz1 hz2 rfl _ _ rfl w.heap.size _ key rfl ho2 (m := m) rfl ?c1 B2.size ?_)
  case c1 => omega
  intro v3 w3 HO3 HB30
  have ho3 := HO3.out
  have B3 : Below w.heap.size w w3 := B2.trans HB30.out
  obtain ⟨ad, c, rfl, hc, hrd⟩ := own_rd0 ho3 (by simp)
  have hmm1 := hm1 w3 ((hkr.below B3 (Nat.le_refl _)).mono B3.size) ((hbr.below B3 (Nat.le_refl _)).mono B3.size) (hT.below B3 hpos)
  have HB3 := Lib.hid B3
  clear HO2 HB2 ho2 B2 ho3 HO3 HB30 B3 HB1 hm1
  go_wp2_with (first
    | (go_at_call 12; have tt := T1; clear T1; refine hmm1.mono ?_; rintro e w4 ⟨rfl, hb4⟩; have HB4 := Lib.hid hb4; clear hb4 tt)
    | (go_at_call 12; refine (hm2 ad c hc w4 ((hrd.below HB4.out (Nat.le_refl _)).mono HB4.out.size) ((hbr.below (HB3.out.trans (HB4.out.mono HB3.out.size)) (Nat.le_refl _)).mono (HB3.out.trans (HB4.out.mono HB3.out.size)).size) (hT.below (HB3.out.trans (HB4.out.mono HB3.out.size)) hpos)).mono ?_; rintro e w5 ⟨rfl, hb5⟩; have B5 := (HB3.out.trans (HB4.out.mono HB3.out.size)).trans (hb5.mono (HB3.out.trans (HB4.out.mono HB3.out.size)).size); have k5 := hsk w5 (.inr B5); have k6 := hsb w5 (.inr B5); have HB5 := Lib.hid B5; clear hb5 B5))
  go_ret
  exact ⟨rfl, HB5.out⟩
end Go.Proofs.YtikenabdgconeaaDoor
