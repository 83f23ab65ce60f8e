/-
  THE DOCUMENT's padding of the whole.
-/
import Derived.Test.YtmmocnokgcgmnaaDoorHZeros
import Derived.Test.YtmmocnokgcgmnaaDoorHPad
import Derived.Test.YtmmocnokgcgmnaaDoorHKeys
import Derived.Test.YtmmocnokgcgmnaaDoorHIter
namespace Go.Proofs.YtmmocnokgcgmnaaDoor
open Go.RowKit
theorem own_base {w : World} {base base' : Nat} {e : TypeId} {size n : Nat} {v : Value} {xs : List Value} (h : w.ownsRow base e size v n xs) (hb : base' ≤ base) : w.ownsRow base' e size v n xs :=
  ⟨h.1, h.2.imp id fun ⟨g, cap, cur, hv, hg, rest⟩ => ⟨g, cap, cur, hv, by omega, rest⟩⟩
set_option maxHeartbeats 1600000 in
set_option maxRecDepth 100000 in
theorem rpadded_any (a : Option Addr) (cap : Nat) (b : List Nat) (hlen : b.length ≤ 1000000) (w : World) (hr : RdN w.heap.size w a b) :
    Calls Tryd.prog 37 #[.slice a b.length cap] w fun e w' => (∃ g c, e = .returned (.slice (some ⟨g, 0, none⟩) (padL b b.length).length c) ∧ (padL b b.length).length ≤ c ∧ w.heap.size ≤ g ∧ RdN w'.heap.size w' (some ⟨g, 0, none⟩) (padL b b.length)) ∧ Below w.heap.size w w' := by
  obtain ⟨i0, hi, hz0, hz1, hz2⟩ := info_parts Tryd.info5
  have hadd : (b ++ [128]).length = b.length + 1 := by simp
  go_enter Tryd.func37, Tryd.ntmps37
  go_wp2_with (first
    | (at_builtin; refine wpList_append_bytes (bs := b) (n₀ := w.heap.size) hi hz0 hz1 hz2 rfl _ _ rfl w.heap.size _ [] rfl (own_empty w w.heap.size (Nat.le_refl _)) rfl rfl (hr.below ((Below.refl w.heap.size w).alloc (Nat.le_refl _) _) (Nat.le_refl _)) (by simp; omega) (by simp) ?_; intro v1 w1 HO1 HB1; have ho1 : w1.ownsRow w.heap.size 5 1 v1 b.length (u8s b) := (by simpa using HO1.out); have B1 : Below w.heap.size w w1 := ((Below.refl _ w).alloc (Nat.le_refl _) _).trans HB1.out; have hsz1 := B1.size; have HW1 := Lib.hid ho1; have HBB := Lib.hid B1; clear HO1 HB1 ho1 B1)
    | (at_builtin; refine wpList_append_bytes (bs := [128]) (n₀ := w1.heap.size + 1) hi hz0 hz1 hz2 rfl _ _ rfl w.heap.size _ b rfl (HW1.out.alloc _) rfl rfl (RdN.arr (Arr.new w1 5 (u8s [128])) (Nat.lt_succ_self _)) (by simp; omega) (by simp; omega) ?_; intro v2 w2 HO2 HB2))
  have B1 := HBB.out
  have B2 := Lib.hid ((B1.alloc B1.size (.cells #[.int .u8 128] 5)).trans HB2.out)
  have HO3 : Hid (w2.ownsRow w.heap.size 5 1 v2 (b.length + 1 + 0) (u8s ((b ++ [128]) ++ List.replicate 0 0))) := by simpa [Hid] using HO2.out
  clear B1 HO2 HB2
  go_wp2
  obtain ⟨Z, hZ⟩ : ∃ Z, padZ b.length = Z := ⟨_, rfl⟩
  have hZ1 : (b.length + 1 + Z) % 64 = 56 := by rw [← hZ]; unfold padZ; omega
  have hZ2 : ∀ k, k < Z → ¬ (b.length + 1 + k) % 64 = 56 := by rw [← hZ]; unfold padZ; omega
  have hZ3 : Z < 64 := by rw [← hZ]; unfold padZ; omega
  have hpad : padL b b.length = ((b ++ [128]) ++ List.replicate Z 0) ++ be (8 * b.length) := by rw [padL_eq, hZ]; simp
  have HPAD := Lib.hid hpad
  have hpl : (padL b b.length).length = b.length + 1 + Z + 8 := by rw [hpad, List.length_append, List.length_append, hadd, List.length_replicate]; rfl
  clear hZ hpad
  go_loopw [3] (fun v wr => ∃ k : Nat, k ≤ Z ∧ Hid (wr.ownsRow w.heap.size 5 1 v (b.length + 1 + k) (u8s ((b ++ [128]) ++ List.replicate k 0))) ∧ Hid (Below w.heap.size w wr)) (fun v _ => b.length + 1 + Z - lenV v)
  case atStart => exact ⟨0, by omega, HO3, B2⟩
  case round =>
    obtain ⟨k, hk, HO, HB⟩ := hrel
    clear HO3 B2
    have hlk : ((b ++ [128]) ++ List.replicate k 0).length = b.length + 1 + k := by rw [List.length_append, hadd, List.length_replicate]
    have ho := HO.out
    rw [← hlk] at ho
    obtain ⟨g, c, rfl, hc1, _, _, _⟩ := own_rd ho (by omega)
    rw [hlk] at ho hc1 ⊢
    have hsz := HB.out.size
    by_cases hlt : k < Z
    · have hne := hZ2 k hlt
      have hnei : ¬ (((b.length : Int) + 1 + (k : Int)) % 64 = 56) := by omega
      have HOK := Lib.hid ho
      clear ho
      go_wp2_with (at_builtin; refine wpList_append_bytes (bs := [0]) (n₀ := wr.heap.size + 1) hi hz0 hz1 hz2 rfl _ _ rfl w.heap.size _ ((b ++ [128]) ++ List.replicate k 0) rfl (by rw [hlk]; exact HOK.out.alloc _) rfl rfl (RdN.arr (Arr.new wr 5 (u8s [0])) (Nat.lt_succ_self _)) (by rw [hlk]; simp; omega) (by simp; omega) ?_; intro v2 w2 HO2 HB2)
      have e : ((b ++ [128]) ++ List.replicate k 0) ++ [0] = (b ++ [128]) ++ List.replicate (k + 1) 0 := by rw [List.replicate_succ', List.append_assoc (b ++ [128])]
      have e2 : b.length + (k + 1 + 1) = b.length + 1 + (k + 1) := by omega
      have HO2n : Hid (w2.ownsRow w.heap.size 5 1 v2 (b.length + 1 + (k + 1)) (u8s ((b ++ [128]) ++ List.replicate (k + 1) 0))) := by
        rw [← e, ← e2]
        have h := HO2.out
        simp at h ⊢
        exact h
      have hlk2 : ((b ++ [128]) ++ List.replicate (k + 1) 0).length = b.length + 1 + (k + 1) := by rw [List.length_append, hadd, List.length_replicate]
      have ho2 := HO2n.out
      rw [← hlk2] at ho2
      obtain ⟨g2, c2, rfl, _, _, _, _⟩ := own_rd ho2 (by omega)
      rw [hlk2] at HO2n ⊢
      clear ho2 HO2 e e2
      go_wp2
      go_roundw
      case rel =>
        refine ⟨k + 1, by omega, ?_, (HB.out.alloc hsz _).trans HB2.out⟩
        exact HO2n.out
      case measure => simp [lenV]; omega
    · obtain rfl : k = Z := by omega
      have hei : ((b.length : Int) + 1 + (k : Int)) % 64 = 56 := by omega
      obtain ⟨L, hL⟩ : ∃ L, (b ++ [128]) ++ List.replicate k 0 = L := ⟨_, rfl⟩
      rw [hL] at ho hlk
      have HPAD2 : Hid (Unit → padL b b.length = L ++ be (8 * b.length)) := fun _ => by rw [HPAD.out, hL]
      have HOL := Lib.hid ho
      clear ho HO HPAD hZ2
      go_wp2
      rw [hei]
      go_loopw [4, 5, 6] (fun nv tv iv wr => ∃ (j q : Nat), j ≤ 8 ∧ Hid (8 * b.length / 256 ^ j = q) ∧ q < 18446744073709551616 ∧ nv = .int .i64 q ∧ iv = .int .i64 j ∧ Hid (wr.ownsRow w.heap.size 5 1 tv j (u8s ((be (8 * b.length)).drop (8 - j)))) ∧ Hid (wr.ownsRow w.heap.size 5 1 (.slice (some ⟨g, 0, none⟩) (b.length + 1 + k) c) (b.length + 1 + k) (u8s L)) ∧ Hid (Below w.heap.size w wr)) (fun _ _ iv _ => 8 - (intOf iv).toNat)
      case atStart => exact ⟨0, 8 * b.length, by omega, by simp [Hid], by omega, by go_num, rfl, World.ownsRow_nil _ _ _ _, HOL, HB⟩
      case round =>
        obtain ⟨j, q, hj, hq, hql, rfl, rfl, HT, HG, HB5⟩ := hrel
        clear HOL HB
        by_cases hlt2 : j < 8
        · have hbe : (be (8 * b.length)).drop (8 - (j + 1)) = (q % 256) :: (be (8 * b.length)).drop (8 - j) := by
            rw [← hq.out]
            match j, hlt2 with
            | 0, _ => simp [be]
            | 1, _ => simp [be]
            | 2, _ => simp [be]
            | 3, _ => simp [be]
            | 4, _ => simp [be]
            | 5, _ => simp [be]
            | 6, _ => simp [be]
            | 7, _ => simp [be]
          have hq2 : Hid (8 * b.length / 256 ^ (j + 1) = q / 256) := by
            unfold Hid
            rw [Nat.pow_succ, ← Nat.div_div_eq_div_mul, hq.out]
          have hjl : ((be (8 * b.length)).drop (8 - j)).length = j := by rw [List.length_drop]; show 8 - (8 - j) = j; omega
          have ht := HT.out
          obtain ⟨ad, ct, rfl, hct, hrd⟩ := own_rd0 ht hjl
          have hsz5 := HB5.out.size
          have HBE := Lib.hid hbe
          clear hbe ht
          have hq8 : ((q % 256 : Nat) : Int) = (q : Int) % 256 := by omega
          have AX : Arr (wr.alloc (.cells #[.int .u8 ((q : Int) % 256)] 5)) wr.heap.size 5 (u8s [q % 256]) := by
            have h := Arr.new wr 5 (u8s [q % 256])
            simp only [u8s, List.map_cons, List.map_nil] at h ⊢
            rw [hq8] at h
            exact h
          have OX : (wr.alloc (.cells #[.int .u8 ((q : Int) % 256)] 5)).ownsRow wr.heap.size 5 1 (.slice (some ⟨wr.heap.size, 0, none⟩) 1 1) [q % 256].length (u8s [q % 256]) := by
            simp only [u8s, List.map_cons, List.map_nil, List.length_singleton]
            rw [hq8]
            exact own_one wr wr.heap.size (Nat.le_refl _) _
          go_wp2_with (at_builtin; refine wpList_append_bytes (bs := (be (8 * b.length)).drop (8 - j)) (n₀ := wr.heap.size) hi hz0 hz1 hz2 rfl _ _ rfl wr.heap.size _ [q % 256] rfl OX rfl hjl (hrd.below ((Below.refl wr.heap.size wr).alloc (Nat.le_refl _) _) (Nat.le_refl _)) (by rw [hjl]; simp; omega) (by simp) ?_; intro v2 w2 HO2 HB2)
          have hbx : Below wr.heap.size wr w2 := ((Below.refl wr.heap.size wr).alloc (Nat.le_refl _) _).trans HB2.out
          have HT2 : Hid (w2.ownsRow w.heap.size 5 1 v2 (j + 1) (u8s ((be (8 * b.length)).drop (8 - (j + 1))))) := by
            rw [HBE.out]
            have h := own_base HO2.out hsz5
            have e : ([q % 256] ++ (be (8 * b.length)).drop (8 - j)).length = j + 1 := by rw [List.length_append, hjl]; simp; omega
            simp only [List.length_cons, hjl, List.cons_append, List.nil_append] at h
            try rw [show 0 + 1 + j = j + 1 by omega] at h
            exact h
          have HG2 : Hid (w2.ownsRow w.heap.size 5 1 (.slice (some ⟨g, 0, none⟩) (b.length + 1 + k) c) (b.length + 1 + k) (u8s L)) := own_below HG.out hbx (fun x hx => by
            have := HG.out.lt x hx
            exact this.2)
          clear OX AX HO2 HB2
          go_wp2
          go_roundw
          case rel => exact ⟨j + 1, q / 256, by omega, hq2, by omega, by go_num, by go_num, HT2, HG2, HB5.out.trans (hbx.mono hsz5)⟩
          case measure => simp [intOf]; omega
        · obtain rfl : j = 8 := by omega
          have hd : (be (8 * b.length)).drop (8 - 8) = be (8 * b.length) := rfl
          rw [hd] at HT
          have hbl : (be (8 * b.length)).length = 8 := rfl
          obtain ⟨ad, ct, rfl, hct, hrd⟩ := own_rd0 HT.out hbl
          have hsz5 := HB5.out.size
          have hgl := HG.out
          rw [← hlk] at hgl
          go_wp2_with (at_builtin; refine wpList_append_bytes (bs := be (8 * b.length)) (n₀ := wr.heap.size) hi hz0 hz1 hz2 rfl _ _ rfl w.heap.size _ L (by rw [hlk]; rfl) hgl rfl hbl hrd (by rw [hlk, hbl]; omega) hsz5 ?_; intro v2 w2 HO2 HB2)
          go_wp2
          go_ret
          have hll : (L ++ be (8 * b.length)).length = b.length + 1 + k + 8 := by rw [List.length_append, hlk, hbl]
          have ho2 : w2.ownsRow w.heap.size 5 1 v2 (b.length + 1 + k + 8) (u8s (L ++ be (8 * b.length))) := by
            have h := HO2.out
            simp only [List.length_append, hlk, hbl] at h
            exact h
          rw [← hll] at ho2
          obtain ⟨g2, c2, rfl, h1, _, hbg, h4⟩ := own_rd ho2 (by omega)
          rw [hll] at h1
          refine ⟨⟨g2, c2, ?_, by rw [hpl]; exact h1, hbg, by rw [HPAD2.out ()]; exact h4⟩, HB5.out.trans HB2.out⟩
          rw [hpl, hll]
          rfl
end Go.Proofs.YtmmocnokgcgmnaaDoor
