/-
  THE DOCUMENT's sum by a key: two rows that grow side by side.
-/
import Derived.Test.YtmmocnokgcgmnaaDoorHKeys
import Derived.Test.YtmmocnokgcgmnaaDoorHBegin
namespace Go.Proofs.YtmmocnokgcgmnaaDoor
open Go.RowKit
/-- Bytes put behind bytes; besides, what the row's own block is not stays. -/
theorem wpList_append_grow {w : World} {ops : Array Oper} {rest : List Oper} {o : Oper} {a : Act} {Q : Exit → Act → World → Prop} {i0 : TypeInfo} (hi : Tryd.prog.info? 5 = some i0) (hz0 : i0.zero = some (.int .u8 0)) (hz1 : i0.size = 1) (hz2 : i0.bytes = 1) (hgd : o.guard = none) (s x : Operand)
    (ho : o.op = .call { callee := .builtin .append, args := #[s, x], argTypes := #[23, 23] }) (base : Nat) (v : Value) (l : List Nat) (hs : a.eval s = v) (hown : w.ownsRow base 5 1 v l.length (u8s l))
    {n₀ m c : Nat} {ad : Option Addr} {bs : List Nat} (hx : a.eval x = .slice ad m c) (hm : bs.length = m) (hr : RdN n₀ w ad bs) (hlen : l.length + bs.length ≤ 140737488355328) (hbase : base ≤ w.heap.size)
    (h : ∀ v' w', Hid (w'.ownsRow base 5 1 v' (l ++ bs).length (u8s (l ++ bs))) → Hid (w.grownBy w' v.ownBlock) → wpList Tryd.prog ops Q rest (a.put o.dst v') w') : wpList Tryd.prog ops Q (o :: rest) a w := by
  have go : ∀ ad', ad = some ad' → (∀ j u, (u8s bs)[j]? = some u → w.cell? (ad'.add j) = some u) → wpList Tryd.prog ops Q (o :: rest) a w := by
    rintro ad' rfl hn
    refine wpList_append_own _ hgd s x 23 ho base 5 i0 (.int .u8 0) 1 1 Tryd.underlying23 hi hz0 hz1 hz2 rfl (by decide) v _ _ hs hown ad' m c (u8s bs) hx (by rw [u8s_len, hm, Nat.mul_one]) hn u8s_mem (by unfold maxLen; omega) (by omega) hbase ?_
    intro v' w' h2 h3 _
    refine h v' w' ?_ h3
    unfold Hid
    rw [List.length_append, hm, u8s_append]
    exact h2
  by_cases h0 : bs = []
  · subst h0
    cases ad with
    | none =>
      refine wpList_plain hgd fun K hK => ?_
      subst hm
      have hrun := run_append_nil0 (P := Tryd.prog) (w := w) base 23 o.type 5 i0 1 Tryd.underlying23 hi hown c
      unfold Oper.wp
      simp only [List.length_nil] at hx
      simp [execOp, ho, resolve, invoke, builtin, hs, hx, hrun, Result.andThen]
      refine hK _ _ (h v w ?_ (World.grownBy.refl _ _))
      simpa [Hid] using hown
    | some ad' => exact go ad' rfl (fun j u hu => by simp [u8s] at hu)
  · obtain ⟨b, off, rfl, _, hc⟩ := hr (List.length_pos_iff.2 h0)
    refine go _ rfl fun j u hu => ?_
    have hj' : (bs[j]?).map (fun n : Nat => Value.int .u8 (n : Int)) = some u := by rw [← hu]; simp [u8s]
    cases hx2 : bs[j]? with
    | none => rw [hx2] at hj'; cases hj'
    | some y =>
      rw [hx2] at hj'
      cases hj'
      rw [show (⟨b, off, none⟩ : Addr).add j = ⟨b, off + j, none⟩ by unfold Addr.add; split <;> simp_all]
      exact hc j y hx2
theorem own_apart {w : World} {base base' : Nat} {v u : Value} {l m : List Nat} {x y : Nat} (h1 : w.ownsRow base 5 1 v l.length (u8s l)) (h2 : w.ownsRow base' 5 1 u m.length (u8s m)) (hx : l[0]? = some x) (hy : m[0]? = some y) (hne : x ≠ y) : v.ownBlock ≠ u.ownBlock := by
  intro e
  have l0 : 0 < l.length := (List.getElem?_eq_some_iff.1 hx).1
  have m0 : 0 < m.length := (List.getElem?_eq_some_iff.1 hy).1
  obtain ⟨g, c, rfl, _, _, _, r1⟩ := own_rd h1 l0
  obtain ⟨g2, c2, rfl, _, _, _, r2⟩ := own_rd h2 m0
  obtain rfl : g = g2 := by simpa [Value.ownBlock] using e
  obtain ⟨b, o, e1, _, c1⟩ := r1 l0
  obtain ⟨b', o', e2, _, c2⟩ := r2 m0
  injection e1 with e1; injection e1 with ea eb; subst ea eb
  injection e2 with e2; injection e2 with ea eb; subst ea eb
  have k1 := c1 0 x hx
  have k2 := c2 0 y hy
  rw [k1] at k2
  simp at k2
  omega
theorem mask_head {F : List Nat} {x : Nat} (hx : F[0]? = some x) (m : Nat) {k : Nat} (hk : 0 < k) : (maskL (F.take k) m)[0]? = some (x ^^^ m) := by
  rw [maskL, List.getElem?_map, List.getElem?_take, if_pos hk, hx]; rfl
theorem xor_apart (x : Nat) : x ^^^ 54 ≠ x ^^^ 92 := by
  intro e
  have h : x ^^^ (x ^^^ 54) = x ^^^ (x ^^^ 92) := by rw [e]
  rw [← Nat.xor_assoc, ← Nat.xor_assoc, Nat.xor_self, Nat.zero_xor, Nat.zero_xor] at h
  omega
theorem mask_take {F : List Nat} {k x : Nat} (hx : F[k]? = some x) (m : Nat) : maskL (F.take (k + 1)) m = maskL (F.take k) m ++ [x ^^^ m] := by
  rw [List.take_add_one, hx]; simp [maskL]
set_option maxHeartbeats 3200000 in
set_option maxRecDepth 100000 in
theorem rmac_any (kA : Option Addr) (kc : Nat) (key : List Nat) (hkb : ∀ x ∈ key, x < 256) (hkl : key.length ≤ 1000000) (a : Option Addr) (cap : Nat) (b : List Nat) (hb : ∀ x ∈ b, x < 256) (hlen : b.length ≤ 999900) (w : World) (hkr : RdN w.heap.size w kA key) (hr : RdN w.heap.size w a b) :
    Calls Tryd.prog 26 #[.slice kA key.length kc, .slice a b.length cap] w fun e w' => e = .returned (.agg (u8s (macL key b)).toArray) ∧ Below w.heap.size w w' := by
  obtain ⟨i0, hi, hz0, hz1, hz2⟩ := info_parts Tryd.info5
  have hfl := full_len key
  have hfb := full_lt hkb
  obtain ⟨F, hF⟩ : ∃ F, full key = F := ⟨_, rfl⟩
  obtain ⟨R, hR⟩ : ∃ R, macL key b = R := ⟨_, rfl⟩
  have hRl : R.length = 32 := by rw [← hR]; rfl
  have hmac : sumL (maskL F 92 ++ sumL (maskL F 54 ++ b)) = R := by rw [← hR, ← hF]; rfl
  rw [hF] at hfl hfb
  obtain ⟨T, hT⟩ : ∃ T, sumL (maskL F 54 ++ b) = T := ⟨_, rfl⟩
  have hT1l : T.length = 32 := by rw [← hT]; rfl
  have hTb : ∀ x ∈ T, x < 256 := by rw [← hT]; exact outV_lt _
  have hm54 : (maskL F 54).length = 64 := by rw [maskL, List.length_map, hfl]
  have hm92 : (maskL F 92).length = 64 := by rw [maskL, List.length_map, hfl]
  have hSum1 := fun g c (_ : 64 + b.length ≤ c) W (h : RdN (World.heap W).size W (some ⟨g, 0, none⟩) (maskL F 54 ++ b)) => rsum_any begin_ok (some ⟨g, 0, none⟩) c (maskL F 54 ++ b) (fun x hx => (List.mem_append.1 hx).elim (maskL_lt hfb (by decide) x) (hb x)) (by rw [List.length_append, hm54]; omega) W h
  have hSum2 := fun g c W (h : RdN (World.heap W).size W (some ⟨g, 0, none⟩) (maskL F 92 ++ T)) => rsum_any begin_ok (some ⟨g, 0, none⟩) c (maskL F 92 ++ T) (fun x hx => (List.mem_append.1 hx).elim (maskL_lt hfb (by decide) x) (hTb x)) (by rw [List.length_append, hm92, hT1l]; decide) W h
  rw [List.length_append, hm54, hT] at hSum1
  rw [List.length_append, hm92, hT1l, ← hT, hmac, hT, show 64 + 32 = 96 from rfl] at hSum2
  have hfx : ∀ k, k < 64 → ∃ x, F[k]? = some x ∧ x < 256 := fun k hk => ⟨_, List.getElem?_eq_getElem (by omega), hfb _ (List.getElem_mem _)⟩
  obtain ⟨x0, hF0, _⟩ := hfx 0 (by decide)
  obtain ⟨s, hs⟩ : ∃ s, w.heap.size = s := ⟨_, rfl⟩

  by_cases hlong : 64 < key.length
  · have hkk : keyL key = sumL key := by unfold keyL; rw [if_pos hlong]
    have hrs := fun W h => rsum_any begin_ok kA kc key hkb (by omega) W h
    obtain ⟨SK, hSK⟩ : ∃ SK, sumL key = SK := ⟨_, rfl⟩
    have hSl : SK.length = 32 := by rw [← hSK]; rfl
    rw [hSK] at hrs hkk
    have hfk : ∀ (k x : Nat), k < 32 → F[k]? = some x → SK[k]? = some x := fun k x hk hx => by
      rw [← hF, full, hkk, List.getElem?_append_left (by omega)] at hx; exact hx
    have hfz : ∀ (k x : Nat), ¬ k < 32 → F[k]? = some x → x = 0 := fun k x hk hx => by
      rw [← hF, full, hkk, List.getElem?_append_right (by omega), List.getElem?_replicate] at hx
      split at hx
      · exact (Option.some.inj hx).symm
      · cases hx
    rw [hR]
    clear hF hR hSK hkk hmac hT
    go_enter Tryd.func26, Tryd.ntmps26
    go_wp2_with (first
      | (go_at_call 32; refine (hrs _ ((hkr.below ((Below.refl w.heap.size w).alloc (Nat.le_refl _) _) (Nat.le_refl _)).mono (by simp))).mono ?_; rintro e w1 ⟨rfl, hb1⟩; have HB1 := Lib.hid hb1; clear hb1)
      | (refine wpList_store_arr rfl 50 (.tmp 5) (.tmp 15) rfl w1.heap.size rfl rfl (show Arr _ w1.heap.size 50 (u8s (List.replicate 32 0)) from Arr.new w1 50 (u8s (List.replicate 32 0))) Tryd.size50 (by rw [u8s_len, hSl]) rfl (u8s_one _) ?_; intro WN A2 B2 hsz2 O2; have HA2 := A2; have HB2 := B2; have HO2 := O2; clear A2 B2 O2))
    have BW1 : Below w.heap.size w w1 := ((Below.refl w.heap.size w).alloc (Nat.le_refl _) (.cells (u8s (List.replicate 32 0)).toArray 50)).trans (HB1.out.mono (by simp))
    have hs1 : w.heap.size + 1 ≤ w1.heap.size := by have := HB1.out.size; simpa using this
    have BWN : Below w.heap.size w WN := (BW1.alloc (by omega) _).trans (HB2.out.mono (by omega))
    have AZ1 : Arr w1 w.heap.size 50 (u8s (List.replicate 32 0)) := (Arr.new w 50 (u8s (List.replicate 32 0))).below HB1.out (by simp)
    have AZN : Arr WN w.heap.size 50 (u8s (List.replicate 32 0)) := (AZ1.alloc _).same HO2.out (by omega)
    have hsn0 := AZN.lt
    have HRD : Hid (RdN WN.heap.size WN (some ⟨w1.heap.size, 0, none⟩) SK) := RdN.arr HA2.out HA2.out.lt
    have HAR : Hid (RdN WN.heap.size WN a b) := (hr.below BWN (Nat.le_refl _)).mono BWN.size
    rw [hs] at BWN AZN hsn0
    have HAZ := Lib.hid AZN
    have HBW := Lib.hid BWN
    have HSN := Lib.hid hsn0
    have HLE := Lib.hid (Nat.le_of_lt hsn0)
    have HSZ0 := Lib.hid (Nat.le_refl s)
    obtain ⟨ad, had⟩ : ∃ ad, some (⟨w1.heap.size, 0, none⟩ : Addr) = ad := ⟨_, rfl⟩
    rw [had] at HRD
    try rw [had]
    try rw [hs]
    clear BW1 hs1 BWN AZ1 AZN hsn0 HB1 HA2 HB2 HO2 had hrs hkr hr hsz2
    obtain ⟨n, hn⟩ : ∃ n, WN.heap.size = n := ⟨_, rfl⟩
    have T1 : True := trivial
    rw [hn] at HRD HAR HSN HLE
    go_loopw [6, 7, 8] (fun vi vo iv wr => ∃ (vi' vo' : Value) (k : Nat), vi' = vi ∧ vo' = vo ∧ k ≤ 64 ∧ iv = .int .i64 k ∧ Hid (wr.ownsRow n 5 1 vi (maskL (F.take k) 54).length (u8s (maskL (F.take k) 54))) ∧ Hid (wr.ownsRow n 5 1 vo (maskL (F.take k) 92).length (u8s (maskL (F.take k) 92))) ∧ Hid (Below n WN wr) ∧ Hid (k = 0 → vi.ownBlock = none ∧ vo.ownBlock = none)) (fun _ _ iv _ => 64 - (intOf iv).toNat)
    case atStart => exact ⟨_, _, 0, rfl, rfl, by omega, rfl, World.ownsRow_nil _ _ _ _, World.ownsRow_nil _ _ _ _, by rw [← hn]; exact Below.refl _ _, fun _ => ⟨rfl, rfl⟩⟩
    case round =>
      obtain ⟨vi, vo, k, rfl, rfl, hk, rfl, HI, HO, HB, H0⟩ := hrel
      have hsn : n ≤ wr.heap.size := by rw [← hn]; exact HB.out.size
      have HSZ := Lib.hid hsn
      by_cases hlt : k < 64
      · obtain ⟨x, hx, hx8⟩ := hfx k hlt
        have hx54 : bits .xor .u8 (x : Int) 54 = ((x ^^^ 54 : Nat) : Int) := u8_xor_nat x 54 hx8 (by decide)
        have hx92 : bits .xor .u8 (x : Int) 92 = ((x ^^^ 92 : Nat) : Int) := u8_xor_nat x 92 hx8 (by decide)
        have N54 := Lib.hid (mask_take hx 54)
        have N92 := Lib.hid (mask_take hx 92)
        have hli : (maskL (F.take k) 54).length ≤ 64 := by simp [maskL]; omega
        have hlo : (maskL (F.take k) 92).length ≤ 64 := by simp [maskL]; omega
        have AP1 : Hid (vo.ownBlock = none ∨ vo.ownBlock ≠ vi.ownBlock) := by
          by_cases h0 : k = 0
          · exact .inl (H0.out h0).2
          · exact .inr (own_apart HO.out HI.out (mask_head hF0 92 (by omega)) (mask_head hF0 54 (by omega)) (Ne.symm (xor_apart _)))
        have AP2 : Hid (∀ (W2 : World) (v : Value), W2.ownsRow n 5 1 v (maskL (F.take k) 54 ++ [x ^^^ 54]).length (u8s (maskL (F.take k) 54 ++ [x ^^^ 54])) → W2.ownsRow n 5 1 vo (maskL (F.take k) 92).length (u8s (maskL (F.take k) 92)) → v.ownBlock = none ∨ v.ownBlock ≠ vo.ownBlock) := by
          intro W2 v h1 h2
          by_cases h0 : k = 0
          · rw [(H0.out h0).2]
            right
            rw [← N54.out] at h1
            obtain ⟨g, c, rfl, _⟩ := own_rd h1 (by rw [N54.out]; simp)
            simp [Value.ownBlock]
          · rw [← N54.out] at h1
            exact .inr (own_apart h1 h2 (mask_head hF0 54 (by omega)) (mask_head hF0 92 (by omega)) (xor_apart _))
        obtain ⟨LI, hLI⟩ : ∃ LI, maskL (F.take k) 54 = LI := ⟨_, rfl⟩
        obtain ⟨LO, hLO⟩ : ∃ LO, maskL (F.take k) 92 = LO := ⟨_, rfl⟩
        rw [hLI] at HI N54 AP2 hli
        rw [hLO] at HO N92 AP2 hlo
        clear hLI hLO H0
        by_cases hkk : k < 32
        · have hxk : SK[k]? = some x := hfk k x hkk hx
          obtain ⟨bb, off, hbe, hbb, hcc⟩ := HRD.out (by omega)
          have hco : wr.cell? ⟨bb, off + k, none⟩ = some (.int .u8 x) := (HB.out.cell (p := ⟨bb, off + k, none⟩) hbb).trans (hcc k x hxk)
          subst hbe
          clear hxk hbb hcc hx
          go_wp2_with (at_builtin; refine wpList_append_grow (bs := [x ^^^ 54]) (n₀ := wr.heap.size + 1) hi hz0 hz1 hz2 rfl _ _ rfl n _ LI rfl (HI.out.alloc _) rfl rfl ?a1 ?a2 ?a3 ?_)
          case a1 => exact RdN.arr (Arr.new wr 5 (u8s [x ^^^ 54])) (by omega)
          case a2 => simp only [List.length_singleton]; omega
          case a3 => simp; omega
          intro v1 w1 HI1 HG1
          replace HI1 : Hid (w1.ownsRow n 5 1 v1 (LI ++ [x ^^^ 54]).length (u8s (LI ++ [x ^^^ 54]))) := by simpa using HI1
          have HO1 : Hid (w1.ownsRow n 5 1 vo LO.length (u8s LO)) := (HO.out.alloc _).kept HG1.out AP1.out
          have hn1 : n ≤ w1.heap.size := by have := HG1.out.size; simp at this; omega
          have HB1 := Lib.hid ((HB.out.alloc hsn (.cells (u8s [x ^^^ 54]).toArray 5)).grown HG1.out (by simp; omega) (fun g hg => (HI.out.lt g hg).1))
          have AP3 : Hid (v1.ownBlock = none ∨ v1.ownBlock ≠ vo.ownBlock) := AP2.out w1 v1 HI1.out HO1.out
          clear HI HO HG1 AP1 AP2 HB
          go_wp2_with (at_builtin; refine wpList_append_grow (bs := [x ^^^ 92]) (n₀ := w1.heap.size + 1) hi hz0 hz1 hz2 rfl _ _ rfl n _ LO rfl (HO1.out.alloc _) rfl rfl ?b1 ?b2 ?b3 ?_)
          case b1 => exact RdN.arr (Arr.new w1 5 (u8s [x ^^^ 92])) (by omega)
          case b2 => simp only [List.length_singleton]; omega
          case b3 => simp; omega
          intro v2 w2 HO2 HG2
          replace HO2 : Hid (w2.ownsRow n 5 1 v2 (LO ++ [x ^^^ 92]).length (u8s (LO ++ [x ^^^ 92]))) := by simpa using HO2
          have HI2 : Hid (w2.ownsRow n 5 1 v1 (LI ++ [x ^^^ 54]).length (u8s (LI ++ [x ^^^ 54]))) := (HI1.out.alloc _).kept HG2.out AP3.out
          have HB2 := Lib.hid ((HB1.out.alloc hn1 (.cells (u8s [x ^^^ 92]).toArray 5)).grown HG2.out (by simp; omega) (fun g hg => (HO1.out.lt g hg).1))
          clear HI1 HO1 HG2 AP3 HB1
          go_wp2
          go_roundw
          case rel => exact ⟨_, _, k + 1, rfl, rfl, by omega, by go_num, by rw [N54.out]; exact HI2, by rw [N92.out]; exact HO2, HB2, fun h => absurd h (by omega)⟩
          case measure => simp [intOf]; omega
        · obtain rfl : x = 0 := hfz k x hkk hx
          have e54 : 0 ^^^ 54 = 54 := rfl
          have e92 : 0 ^^^ 92 = 92 := rfl
          rw [e54] at N54 AP2
          rw [e92] at N92
          clear hx54 hx92
          have hx54 : bits .xor .u8 (0 : Int) 54 = 54 := by decide
          have hx92 : bits .xor .u8 (0 : Int) 92 = 92 := by decide
          clear hx e54 e92
          go_wp2_with (at_builtin; refine wpList_append_grow (bs := [54]) (n₀ := wr.heap.size + 1) hi hz0 hz1 hz2 rfl _ _ rfl n _ LI rfl (HI.out.alloc _) rfl rfl ?a1 ?a2 ?a3 ?_)
          case a1 => exact RdN.arr (Arr.new wr 5 (u8s [54])) (by omega)
          case a2 => simp only [List.length_singleton]; omega
          case a3 => simp; omega
          intro v1 w1 HI1 HG1
          replace HI1 : Hid (w1.ownsRow n 5 1 v1 (LI ++ [54]).length (u8s (LI ++ [54]))) := by simpa using HI1
          have HO1 : Hid (w1.ownsRow n 5 1 vo LO.length (u8s LO)) := (HO.out.alloc _).kept HG1.out AP1.out
          have hn1 : n ≤ w1.heap.size := by have := HG1.out.size; simp at this; omega
          have HB1 := Lib.hid ((HB.out.alloc hsn (.cells (u8s [54]).toArray 5)).grown HG1.out (by simp; omega) (fun g hg => (HI.out.lt g hg).1))
          have AP3 : Hid (v1.ownBlock = none ∨ v1.ownBlock ≠ vo.ownBlock) := AP2.out w1 v1 HI1.out HO1.out
          clear HI HO HG1 AP1 AP2 HB
          go_wp2_with (at_builtin; refine wpList_append_grow (bs := [92]) (n₀ := w1.heap.size + 1) hi hz0 hz1 hz2 rfl _ _ rfl n _ LO rfl (HO1.out.alloc _) rfl rfl ?b1 ?b2 ?b3 ?_)
          case b1 => exact RdN.arr (Arr.new w1 5 (u8s [92])) (by omega)
          case b2 => simp only [List.length_singleton]; omega
          case b3 => simp; omega
          intro v2 w2 HO2 HG2
          replace HO2 : Hid (w2.ownsRow n 5 1 v2 (LO ++ [92]).length (u8s (LO ++ [92]))) := by simpa using HO2
          have HI2 : Hid (w2.ownsRow n 5 1 v1 (LI ++ [54]).length (u8s (LI ++ [54]))) := (HI1.out.alloc _).kept HG2.out AP3.out
          have HB2 := Lib.hid ((HB1.out.alloc hn1 (.cells (u8s [92]).toArray 5)).grown HG2.out (by simp; omega) (fun g hg => (HO1.out.lt g hg).1))
          clear HI1 HO1 HG2 AP3 HB1
          go_wp2
          go_roundw
          case rel => exact ⟨_, _, k + 1, rfl, rfl, by omega, by go_num, by rw [N54.out]; exact HI2, by rw [N92.out]; exact HO2, HB2, fun h => absurd h (by omega)⟩
          case measure => simp [intOf]; omega
      · obtain rfl : k = 64 := by omega
        have hft : F.take 64 = F := List.take_of_length_le (by omega)
        rw [hft] at HI HO
        have hml : (maskL F 54).length = 64 := by rw [maskL, List.length_map, hfl]
        have hml2 : (maskL F 92).length = 64 := by rw [maskL, List.length_map, hfl]
        have AP1 : Hid (vo.ownBlock = none ∨ vo.ownBlock ≠ vi.ownBlock) := .inr (own_apart HO.out HI.out (by rw [← hft]; exact mask_head hF0 92 (by omega)) (by rw [← hft]; exact mask_head hF0 54 (by omega)) (Ne.symm (xor_apart _)))
        have hrb := (HAR.out).below HB.out (Nat.le_refl _)
        go_wp2_with (at_builtin; refine wpList_append_grow (bs := b) (n₀ := n) hi hz0 hz1 hz2 rfl _ _ rfl n _ (maskL F 54) rfl HI.out rfl rfl hrb ?c2 hsn ?_)
        case c2 => rw [hml]; omega
        intro v1 w1 HO1 HG1
        have B1 := Lib.hid ((HB.out).grown HG1.out hsn (fun g hg => (HI.out.lt g hg).1))
        have HO2 := Lib.hid (HO.out.kept HG1.out AP1.out)
        have hll : (maskL F 54 ++ b).length = 64 + b.length := by rw [List.length_append, hml]
        replace HO1 : Hid (w1.ownsRow n 5 1 v1 (maskL F 54 ++ b).length (u8s (maskL F 54 ++ b))) := by rw [hll]; exact HO1
        obtain ⟨g1, c1, rfl, hc1, _, _, hr1⟩ := own_rd HO1.out (by rw [hll]; omega)
        rw [hll] at hc1 ⊢
        have hs1 := hSum1 g1 c1 hc1 w1 hr1
        have hsz1 : n ≤ w1.heap.size := by have := HG1.out.size; omega
        clear HI HO HO1 HG1 AP1 hrb hr1
        go_wp2_with (first
          | (go_at_call 32; refine hs1.mono ?_; rintro e w2 ⟨rfl, hb2⟩; have HB2 := Lib.hid hb2; clear hb2)
          | (refine wpList_store_arr rfl 50 (.tmp 10) (.tmp 42) rfl w2.heap.size rfl rfl (show Arr _ w2.heap.size 50 (u8s (List.replicate 32 0)) from Arr.new w2 50 (u8s (List.replicate 32 0))) Tryd.size50 (by rw [u8s_len, hT1l]) rfl (u8s_one _) ?_; intro W3 A3 B3 hsz3 O3; have h3 : Below w1.heap.size w1 W3 := (HB2.out.alloc HB2.out.size _).trans (B3.out.mono HB2.out.size); have HO3 := Lib.hid (own_below HO2.out h3 (fun g hg => (HO2.out.lt g hg).2)); have BN3 := Lib.hid (B1.out.trans (h3.mono hsz1)); have hrt : RdN W3.heap.size W3 (some ⟨w2.heap.size, 0, none⟩) T := RdN.arr A3.out A3.out.lt; have hn3 : n ≤ W3.heap.size := (by have := h3.size; omega); have hll2 : (maskL F 92 ++ T).length = 96 := (by rw [List.length_append, hml2, hT1l]); clear h3 B3 O3 hsz3 HB2 B1 HO2 hs1)
          | (at_builtin; refine wpList_append_bytes (bs := T) (n₀ := W3.heap.size) hi hz0 hz1 hz2 rfl _ _ rfl n _ (maskL F 92) rfl HO3.out rfl hT1l hrt ?c2 hn3 ?_))
        case c2 => rw [hml2, hT1l]; decide
        intro v4 w4 HO4 HB4
        replace HO4 : Hid (w4.ownsRow n 5 1 v4 (maskL F 92 ++ T).length (u8s (maskL F 92 ++ T))) := by rw [hll2]; exact HO4
        obtain ⟨g4, c4, rfl, hc4, _, _, hr4⟩ := own_rd HO4.out (by rw [hll2]; decide)
        rw [hll2] at hc4 ⊢
        have hs2 := hSum2 g4 c4 w4 hr4
        have BN4 := Lib.hid (BN3.out.trans HB4.out)
        have hn4 : n ≤ w4.heap.size := by have := HB4.out.size; omega
        clear HO4 hr4 BN3 HO3 hrt HB4
        go_wp2_with (first
          | (go_at_call 32; refine hs2.mono ?_; rintro e w5 ⟨rfl, hb5⟩; have BN5 := Lib.hid (BN4.out.trans (hb5.mono hn4)); clear hb5)
          | (refine wpList_store_arr rfl 50 (.tmp 4) (.tmp 46) rfl s rfl rfl (HAZ.out.below BN5.out HSN.out) Tryd.size50 (by rw [u8s_len, hRl]) (by rw [u8s_len, List.length_replicate]) (u8s_one _) ?_; intro W6 A6 B6 hsz6 O6))
        refine bodyPost_ret (results_arr rfl rfl A6.out Tryd.underlying50 rfl Tryd.size50 (by rw [u8s_len, hRl])) rfl ?_
        exact ⟨rfl, by rw [hs]; exact (HBW.out.trans (BN5.out.mono HLE.out)).trans (B6.out.mono HSZ0.out)⟩
  
  · have hkk : keyL key = key := by unfold keyL; rw [if_neg (by omega)]
    have hfk : ∀ (k x : Nat), k < key.length → F[k]? = some x → key[k]? = some x := fun k x hk hx => by
      rw [← hF, full, hkk, List.getElem?_append_left (by omega)] at hx; exact hx
    have hfz : ∀ (k x : Nat), ¬ k < key.length → F[k]? = some x → x = 0 := fun k x hk hx => by
      rw [← hF, full, hkk, List.getElem?_append_right (by omega), List.getElem?_replicate] at hx
      split at hx
      · exact (Option.some.inj hx).symm
      · cases hx
    rw [hR]
    clear hF hR hkk hmac hT
    have BWN := (Below.refl w.heap.size w).alloc (Nat.le_refl _) (.cells (u8s (List.replicate 32 0)).toArray 50)
    have AZN := Arr.new w 50 (u8s (List.replicate 32 0))
    obtain ⟨WN, hWN⟩ : ∃ WN, w.alloc (.cells (u8s (List.replicate 32 0)).toArray 50) = WN := ⟨_, rfl⟩
    have hWN2 : w.alloc (.cells #[.int .u8 0, .int .u8 0, .int .u8 0, .int .u8 0, .int .u8 0, .int .u8 0, .int .u8 0, .int .u8 0, .int .u8 0, .int .u8 0, .int .u8 0, .int .u8 0, .int .u8 0, .int .u8 0, .int .u8 0, .int .u8 0, .int .u8 0, .int .u8 0, .int .u8 0, .int .u8 0, .int .u8 0, .int .u8 0, .int .u8 0, .int .u8 0, .int .u8 0, .int .u8 0, .int .u8 0, .int .u8 0, .int .u8 0, .int .u8 0, .int .u8 0, .int .u8 0] 50) = WN := hWN
    rw [hWN] at BWN AZN
    have hsn0 := AZN.lt
    have HRD : Hid (RdN WN.heap.size WN kA key) := (hkr.below BWN (Nat.le_refl _)).mono BWN.size
    have HAR : Hid (RdN WN.heap.size WN a b) := (hr.below BWN (Nat.le_refl _)).mono BWN.size
    rw [hs] at BWN AZN hsn0
    have HAZ := Lib.hid AZN
    have HBW := Lib.hid BWN
    have HSN := Lib.hid hsn0
    have HLE := Lib.hid (Nat.le_of_lt hsn0)
    have HSZ0 := Lib.hid (Nat.le_refl s)
    clear hWN BWN AZN hsn0 hkr hr
    go_enter Tryd.func26, Tryd.ntmps26
    go_wp2
    try rw [hWN2]
    try rw [hs]
    clear hWN2
    obtain ⟨n, hn⟩ : ∃ n, WN.heap.size = n := ⟨_, rfl⟩
    have T1 : True := trivial
    rw [hn] at HRD HAR HSN HLE
    go_loopw [6, 7, 8] (fun vi vo iv wr => ∃ (vi' vo' : Value) (k : Nat), vi' = vi ∧ vo' = vo ∧ k ≤ 64 ∧ iv = .int .i64 k ∧ Hid (wr.ownsRow n 5 1 vi (maskL (F.take k) 54).length (u8s (maskL (F.take k) 54))) ∧ Hid (wr.ownsRow n 5 1 vo (maskL (F.take k) 92).length (u8s (maskL (F.take k) 92))) ∧ Hid (Below n WN wr) ∧ Hid (k = 0 → vi.ownBlock = none ∧ vo.ownBlock = none)) (fun _ _ iv _ => 64 - (intOf iv).toNat)
    case atStart => exact ⟨_, _, 0, rfl, rfl, by omega, rfl, World.ownsRow_nil _ _ _ _, World.ownsRow_nil _ _ _ _, by rw [← hn]; exact Below.refl _ _, fun _ => ⟨rfl, rfl⟩⟩
    case round =>
      obtain ⟨vi, vo, k, rfl, rfl, hk, rfl, HI, HO, HB, H0⟩ := hrel
      have hsn : n ≤ wr.heap.size := by rw [← hn]; exact HB.out.size
      have HSZ := Lib.hid hsn
      by_cases hlt : k < 64
      · obtain ⟨x, hx, hx8⟩ := hfx k hlt
        have hx54 : bits .xor .u8 (x : Int) 54 = ((x ^^^ 54 : Nat) : Int) := u8_xor_nat x 54 hx8 (by decide)
        have hx92 : bits .xor .u8 (x : Int) 92 = ((x ^^^ 92 : Nat) : Int) := u8_xor_nat x 92 hx8 (by decide)
        have N54 := Lib.hid (mask_take hx 54)
        have N92 := Lib.hid (mask_take hx 92)
        have hli : (maskL (F.take k) 54).length ≤ 64 := by simp [maskL]; omega
        have hlo : (maskL (F.take k) 92).length ≤ 64 := by simp [maskL]; omega
        have AP1 : Hid (vo.ownBlock = none ∨ vo.ownBlock ≠ vi.ownBlock) := by
          by_cases h0 : k = 0
          · exact .inl (H0.out h0).2
          · exact .inr (own_apart HO.out HI.out (mask_head hF0 92 (by omega)) (mask_head hF0 54 (by omega)) (Ne.symm (xor_apart _)))
        have AP2 : Hid (∀ (W2 : World) (v : Value), W2.ownsRow n 5 1 v (maskL (F.take k) 54 ++ [x ^^^ 54]).length (u8s (maskL (F.take k) 54 ++ [x ^^^ 54])) → W2.ownsRow n 5 1 vo (maskL (F.take k) 92).length (u8s (maskL (F.take k) 92)) → v.ownBlock = none ∨ v.ownBlock ≠ vo.ownBlock) := by
          intro W2 v h1 h2
          by_cases h0 : k = 0
          · rw [(H0.out h0).2]
            right
            rw [← N54.out] at h1
            obtain ⟨g, c, rfl, _⟩ := own_rd h1 (by rw [N54.out]; simp)
            simp [Value.ownBlock]
          · rw [← N54.out] at h1
            exact .inr (own_apart h1 h2 (mask_head hF0 54 (by omega)) (mask_head hF0 92 (by omega)) (xor_apart _))
        obtain ⟨LI, hLI⟩ : ∃ LI, maskL (F.take k) 54 = LI := ⟨_, rfl⟩
        obtain ⟨LO, hLO⟩ : ∃ LO, maskL (F.take k) 92 = LO := ⟨_, rfl⟩
        rw [hLI] at HI N54 AP2 hli
        rw [hLO] at HO N92 AP2 hlo
        clear hLI hLO H0
        by_cases hkk : k < key.length
        · have hxk : key[k]? = some x := hfk k x hkk hx
          obtain ⟨bb, off, hbe, hbb, hcc⟩ := HRD.out (by omega)
          have hco : wr.cell? ⟨bb, off + k, none⟩ = some (.int .u8 x) := (HB.out.cell (p := ⟨bb, off + k, none⟩) hbb).trans (hcc k x hxk)
          subst hbe
          clear hxk hbb hcc hx
          go_wp2_with (at_builtin; refine wpList_append_grow (bs := [x ^^^ 54]) (n₀ := wr.heap.size + 1) hi hz0 hz1 hz2 rfl _ _ rfl n _ LI rfl (HI.out.alloc _) rfl rfl ?a1 ?a2 ?a3 ?_)
          case a1 => exact RdN.arr (Arr.new wr 5 (u8s [x ^^^ 54])) (by omega)
          case a2 => simp only [List.length_singleton]; omega
          case a3 => simp; omega
          intro v1 w1 HI1 HG1
          replace HI1 : Hid (w1.ownsRow n 5 1 v1 (LI ++ [x ^^^ 54]).length (u8s (LI ++ [x ^^^ 54]))) := by simpa using HI1
          have HO1 : Hid (w1.ownsRow n 5 1 vo LO.length (u8s LO)) := (HO.out.alloc _).kept HG1.out AP1.out
          have hn1 : n ≤ w1.heap.size := by have := HG1.out.size; simp at this; omega
          have HB1 := Lib.hid ((HB.out.alloc hsn (.cells (u8s [x ^^^ 54]).toArray 5)).grown HG1.out (by simp; omega) (fun g hg => (HI.out.lt g hg).1))
          have AP3 : Hid (v1.ownBlock = none ∨ v1.ownBlock ≠ vo.ownBlock) := AP2.out w1 v1 HI1.out HO1.out
          clear HI HO HG1 AP1 AP2 HB
          go_wp2_with (at_builtin; refine wpList_append_grow (bs := [x ^^^ 92]) (n₀ := w1.heap.size + 1) hi hz0 hz1 hz2 rfl _ _ rfl n _ LO rfl (HO1.out.alloc _) rfl rfl ?b1 ?b2 ?b3 ?_)
          case b1 => exact RdN.arr (Arr.new w1 5 (u8s [x ^^^ 92])) (by omega)
          case b2 => simp only [List.length_singleton]; omega
          case b3 => simp; omega
          intro v2 w2 HO2 HG2
          replace HO2 : Hid (w2.ownsRow n 5 1 v2 (LO ++ [x ^^^ 92]).length (u8s (LO ++ [x ^^^ 92]))) := by simpa using HO2
          have HI2 : Hid (w2.ownsRow n 5 1 v1 (LI ++ [x ^^^ 54]).length (u8s (LI ++ [x ^^^ 54]))) := (HI1.out.alloc _).kept HG2.out AP3.out
          have HB2 := Lib.hid ((HB1.out.alloc hn1 (.cells (u8s [x ^^^ 92]).toArray 5)).grown HG2.out (by simp; omega) (fun g hg => (HO1.out.lt g hg).1))
          clear HI1 HO1 HG2 AP3 HB1
          go_wp2
          go_roundw
          case rel => exact ⟨_, _, k + 1, rfl, rfl, by omega, by go_num, by rw [N54.out]; exact HI2, by rw [N92.out]; exact HO2, HB2, fun h => absurd h (by omega)⟩
          case measure => simp [intOf]; omega
        · obtain rfl : x = 0 := hfz k x hkk hx
          have e54 : 0 ^^^ 54 = 54 := rfl
          have e92 : 0 ^^^ 92 = 92 := rfl
          rw [e54] at N54 AP2
          rw [e92] at N92
          clear hx54 hx92
          have hx54 : bits .xor .u8 (0 : Int) 54 = 54 := by decide
          have hx92 : bits .xor .u8 (0 : Int) 92 = 92 := by decide
          clear hx e54 e92
          go_wp2_with (at_builtin; refine wpList_append_grow (bs := [54]) (n₀ := wr.heap.size + 1) hi hz0 hz1 hz2 rfl _ _ rfl n _ LI rfl (HI.out.alloc _) rfl rfl ?a1 ?a2 ?a3 ?_)
          case a1 => exact RdN.arr (Arr.new wr 5 (u8s [54])) (by omega)
          case a2 => simp only [List.length_singleton]; omega
          case a3 => simp; omega
          intro v1 w1 HI1 HG1
          replace HI1 : Hid (w1.ownsRow n 5 1 v1 (LI ++ [54]).length (u8s (LI ++ [54]))) := by simpa using HI1
          have HO1 : Hid (w1.ownsRow n 5 1 vo LO.length (u8s LO)) := (HO.out.alloc _).kept HG1.out AP1.out
          have hn1 : n ≤ w1.heap.size := by have := HG1.out.size; simp at this; omega
          have HB1 := Lib.hid ((HB.out.alloc hsn (.cells (u8s [54]).toArray 5)).grown HG1.out (by simp; omega) (fun g hg => (HI.out.lt g hg).1))
          have AP3 : Hid (v1.ownBlock = none ∨ v1.ownBlock ≠ vo.ownBlock) := AP2.out w1 v1 HI1.out HO1.out
          clear HI HO HG1 AP1 AP2 HB
          go_wp2_with (at_builtin; refine wpList_append_grow (bs := [92]) (n₀ := w1.heap.size + 1) hi hz0 hz1 hz2 rfl _ _ rfl n _ LO rfl (HO1.out.alloc _) rfl rfl ?b1 ?b2 ?b3 ?_)
          case b1 => exact RdN.arr (Arr.new w1 5 (u8s [92])) (by omega)
          case b2 => simp only [List.length_singleton]; omega
          case b3 => simp; omega
          intro v2 w2 HO2 HG2
          replace HO2 : Hid (w2.ownsRow n 5 1 v2 (LO ++ [92]).length (u8s (LO ++ [92]))) := by simpa using HO2
          have HI2 : Hid (w2.ownsRow n 5 1 v1 (LI ++ [54]).length (u8s (LI ++ [54]))) := (HI1.out.alloc _).kept HG2.out AP3.out
          have HB2 := Lib.hid ((HB1.out.alloc hn1 (.cells (u8s [92]).toArray 5)).grown HG2.out (by simp; omega) (fun g hg => (HO1.out.lt g hg).1))
          clear HI1 HO1 HG2 AP3 HB1
          go_wp2
          go_roundw
          case rel => exact ⟨_, _, k + 1, rfl, rfl, by omega, by go_num, by rw [N54.out]; exact HI2, by rw [N92.out]; exact HO2, HB2, fun h => absurd h (by omega)⟩
          case measure => simp [intOf]; omega
      · obtain rfl : k = 64 := by omega
        have hft : F.take 64 = F := List.take_of_length_le (by omega)
        rw [hft] at HI HO
        have hml : (maskL F 54).length = 64 := by rw [maskL, List.length_map, hfl]
        have hml2 : (maskL F 92).length = 64 := by rw [maskL, List.length_map, hfl]
        have AP1 : Hid (vo.ownBlock = none ∨ vo.ownBlock ≠ vi.ownBlock) := .inr (own_apart HO.out HI.out (by rw [← hft]; exact mask_head hF0 92 (by omega)) (by rw [← hft]; exact mask_head hF0 54 (by omega)) (Ne.symm (xor_apart _)))
        have hrb := (HAR.out).below HB.out (Nat.le_refl _)
        go_wp2_with (at_builtin; refine wpList_append_grow (bs := b) (n₀ := n) hi hz0 hz1 hz2 rfl _ _ rfl n _ (maskL F 54) rfl HI.out rfl rfl hrb ?c2 hsn ?_)
        case c2 => rw [hml]; omega
        intro v1 w1 HO1 HG1
        have B1 := Lib.hid ((HB.out).grown HG1.out hsn (fun g hg => (HI.out.lt g hg).1))
        have HO2 := Lib.hid (HO.out.kept HG1.out AP1.out)
        have hll : (maskL F 54 ++ b).length = 64 + b.length := by rw [List.length_append, hml]
        replace HO1 : Hid (w1.ownsRow n 5 1 v1 (maskL F 54 ++ b).length (u8s (maskL F 54 ++ b))) := by rw [hll]; exact HO1
        obtain ⟨g1, c1, rfl, hc1, _, _, hr1⟩ := own_rd HO1.out (by rw [hll]; omega)
        rw [hll] at hc1 ⊢
        have hs1 := hSum1 g1 c1 hc1 w1 hr1
        have hsz1 : n ≤ w1.heap.size := by have := HG1.out.size; omega
        clear HI HO HO1 HG1 AP1 hrb hr1
        go_wp2_with (first
          | (go_at_call 32; refine hs1.mono ?_; rintro e w2 ⟨rfl, hb2⟩; have HB2 := Lib.hid hb2; clear hb2)
          | (refine wpList_store_arr rfl 50 (.tmp 10) (.tmp 42) rfl w2.heap.size rfl rfl (show Arr _ w2.heap.size 50 (u8s (List.replicate 32 0)) from Arr.new w2 50 (u8s (List.replicate 32 0))) Tryd.size50 (by rw [u8s_len, hT1l]) rfl (u8s_one _) ?_; intro W3 A3 B3 hsz3 O3; have h3 : Below w1.heap.size w1 W3 := (HB2.out.alloc HB2.out.size _).trans (B3.out.mono HB2.out.size); have HO3 := Lib.hid (own_below HO2.out h3 (fun g hg => (HO2.out.lt g hg).2)); have BN3 := Lib.hid (B1.out.trans (h3.mono hsz1)); have hrt : RdN W3.heap.size W3 (some ⟨w2.heap.size, 0, none⟩) T := RdN.arr A3.out A3.out.lt; have hn3 : n ≤ W3.heap.size := (by have := h3.size; omega); have hll2 : (maskL F 92 ++ T).length = 96 := (by rw [List.length_append, hml2, hT1l]); clear h3 B3 O3 hsz3 HB2 B1 HO2 hs1)
          | (at_builtin; refine wpList_append_bytes (bs := T) (n₀ := W3.heap.size) hi hz0 hz1 hz2 rfl _ _ rfl n _ (maskL F 92) rfl HO3.out rfl hT1l hrt ?c2 hn3 ?_))
        case c2 => rw [hml2, hT1l]; decide
        intro v4 w4 HO4 HB4
        replace HO4 : Hid (w4.ownsRow n 5 1 v4 (maskL F 92 ++ T).length (u8s (maskL F 92 ++ T))) := by rw [hll2]; exact HO4
        obtain ⟨g4, c4, rfl, hc4, _, _, hr4⟩ := own_rd HO4.out (by rw [hll2]; decide)
        rw [hll2] at hc4 ⊢
        have hs2 := hSum2 g4 c4 w4 hr4
        have BN4 := Lib.hid (BN3.out.trans HB4.out)
        have hn4 : n ≤ w4.heap.size := by have := HB4.out.size; omega
        clear HO4 hr4 BN3 HO3 hrt HB4
        go_wp2_with (first
          | (go_at_call 32; refine hs2.mono ?_; rintro e w5 ⟨rfl, hb5⟩; have BN5 := Lib.hid (BN4.out.trans (hb5.mono hn4)); clear hb5)
          | (refine wpList_store_arr rfl 50 (.tmp 4) (.tmp 46) rfl s rfl rfl (HAZ.out.below BN5.out HSN.out) Tryd.size50 (by rw [u8s_len, hRl]) (by rw [u8s_len, List.length_replicate]) (u8s_one _) ?_; intro W6 A6 B6 hsz6 O6))
        refine bodyPost_ret (results_arr rfl rfl A6.out Tryd.underlying50 rfl Tryd.size50 (by rw [u8s_len, hRl])) rfl ?_
        exact ⟨rfl, by rw [hs]; exact (HBW.out.trans (BN5.out.mono HLE.out)).trans (B6.out.mono HSZ0.out)⟩
  
end Go.Proofs.YtmmocnokgcgmnaaDoor
