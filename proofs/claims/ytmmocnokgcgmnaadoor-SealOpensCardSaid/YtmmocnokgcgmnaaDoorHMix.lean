/-
  THE PROGRAM's mixing of a block's words into H.
-/
import Derived.Test.YtmmocnokgcgmnaaDoorHArr
import Derived.WalkSmall
namespace Go.Proofs.YtmmocnokgcgmnaaDoor
open Go.RowKit
theorem Tryd.size60 : (Tryd.prog.info? 60).map (·.size) = some 8 := by kernel_rfl
theorem Tryd.size59 : (Tryd.prog.info? 59).map (·.size) = some 1 := by kernel_rfl
theorem Tryd.size64 : (Tryd.prog.info? 64).map (·.size) = some 64 := by kernel_rfl
theorem addV_get {s t : V8} {k y z : Nat} (hy : s.list[k]? = some y) (hz : t.list[k]? = some z) : (addV s t).list[k]? = some ((y + z) % 4294967296) := by
  match k, hy, hz with
  | 0, hy, hz => cases hy; cases hz; rfl
  | 1, hy, hz => cases hy; cases hz; rfl
  | 2, hy, hz => cases hy; cases hz; rfl
  | 3, hy, hz => cases hy; cases hz; rfl
  | 4, hy, hz => cases hy; cases hz; rfl
  | 5, hy, hz => cases hy; cases hz; rfl
  | 6, hy, hz => cases hy; cases hz; rfl
  | 7, hy, hz => cases hy; cases hz; rfl
set_option maxHeartbeats 3200000 in
set_option maxRecDepth 100000 in
theorem mixed_any (s : V8) (hs : s.ok) (ws : List Nat) (hwl : ws.length = 64) (hw : ∀ x ∈ ws, x < 4294967296) (w : World) (hT : Tabs w) :
    Calls Tryd.prog 34 #[.agg (u32s s.list).toArray, .agg (u32s ws).toArray] w fun e w' => e = .returned (.agg (u32s (mixV s tabK ws).list).toArray) ∧ Below w.heap.size w w' := by
  obtain ⟨R, hR⟩ : ∃ R, mixV s tabK ws = R := ⟨_, rfl⟩
  rw [hR]
  have HR : Hid (mixV s tabK ws = R) := hR
  clear hR
  go_enter Tryd.func34, Tryd.ntmps34
  have A0 := Lib.hid ((Arr.new w 60 (u32s s.list)).alloc (.cells (u32s ws).toArray 64))
  have A1 : Hid (Arr ((w.alloc (.cells (u32s s.list).toArray 60)).alloc (.cells (u32s ws).toArray 64)) (w.heap.size + 1) 64 (u32s ws)) := by simpa [Hid] using Arr.new (w.alloc (.cells (u32s s.list).toArray 60)) 64 (u32s ws)
  have A2 : ∀ (o o' : Obj) (vs : List Value), Arr (((w.alloc o).alloc o').alloc (.cells vs.toArray 60)) (w.heap.size + 1 + 1) 60 vs := fun o o' vs => by simpa using Arr.new ((w.alloc o).alloc o') 60 vs
  have A3 : ∀ (o o' o'' : Obj) (vs : List Value), Arr ((((w.alloc o).alloc o').alloc o'').alloc (.cells vs.toArray 60)) (w.heap.size + 1 + 1 + 1) 60 vs := fun o o' o'' vs => by simpa using Arr.new (((w.alloc o).alloc o').alloc o'') 60 vs
  have B3 : ∀ (o o' o'' o3 : Obj), Below w.heap.size w ((((w.alloc o).alloc o').alloc o'').alloc o3) := fun o o' o'' o3 => ((((Below.refl _ w).alloc (Nat.le_refl _) o).alloc (by simp) o').alloc (by simp; omega) o'').alloc (by simp; omega) o3
  go_wp2_with (first
    | (refine wpList_load_arr rfl 60 (.tmp 2) rfl w.heap.size rfl (A0.out.alloc _) Tryd.underlying60 rfl Tryd.size60 rfl ?_)
    | (refine wpList_store_arr rfl 60 (.tmp 5) (.tmp 21) rfl _ rfl rfl (A3 _ _ _ [.int .u32 0, .int .u32 0, .int .u32 0, .int .u32 0, .int .u32 0, .int .u32 0, .int .u32 0, .int .u32 0]) Tryd.size60 rfl rfl (u32s_one _) ?_; intro W1 AV HB1 hsz1 HO1)
    | (refine wpList_load_arr rfl 64 (.tmp 3) rfl (w.heap.size + 1) rfl (((A1.out.alloc _).alloc _).same HO1.out (by simp)) Tryd.underlying64 rfl Tryd.size64 (by rw [u32s_len, hwl]) ?_))
  have AH := Lib.hid (((A0.out.alloc _).alloc _).same HO1.out (by omega))
  have AR := Lib.hid (((A2 _ _ [.int .u32 0, .int .u32 0, .int .u32 0, .int .u32 0, .int .u32 0, .int .u32 0, .int .u32 0, .int .u32 0]).alloc _).same HO1.out (by omega))
  have BW := Lib.hid ((B3 _ _ _ _).trans (HB1.out.mono (by omega)))
  have hsz : W1.heap.size = w.heap.size + 4 := by simpa using hsz1
  have TW := Lib.hid (hT.below BW.out hT.pos)
  clear HB1 HO1 hsz1 A0 A1 A2 A3 B3 hT
  go_loopw [23] (fun iv wr => ∃ k : Nat, k ≤ 64 ∧ iv = .int .i64 k ∧ Hid (Arr wr (w.heap.size + 1 + 1 + 1) 60 (u32s (rnds s ((tabK.zip ws).take k)).list)) ∧ Hid (Below (w.heap.size + 3) W1 wr)) (fun iv _ => 64 - (intOf iv).toNat)
  case atStart => exact ⟨0, by omega, rfl, AV, Below.refl _ _⟩
  case round =>
    obtain ⟨k, hk, rfl, AK, BK⟩ := hrel
    clear AV
    by_cases hlt : k < 64
    · obtain ⟨x, hx⟩ : ∃ x, ws[k]? = some x := ⟨_, List.getElem?_eq_getElem (by omega)⟩
      obtain ⟨kk, hkk⟩ : ∃ x, tabK[k]? = some x := ⟨_, List.getElem?_eq_getElem (by rw [tabK_len]; omega)⟩
      have hxl := hw x (List.mem_of_getElem? hx)
      have hkl := tabK_lt kk (List.mem_of_getElem? hkk)
      have hz : rnds s ((tabK.zip ws).take (k + 1)) = rnd (rnds s ((tabK.zip ws).take k)) kk x := by
        have e : (tabK.zip ws)[k]? = some (kk, x) := by rw [List.getElem?_zip_eq_some]; exact ⟨hkk, hx⟩
        rw [List.take_add_one, e, Option.toList_some, rnds_snoc]
      have ht := rnds_ok hs ((tabK.zip ws).take k)
      obtain ⟨t, htt⟩ : ∃ t, rnds s ((tabK.zip ws).take k) = t := ⟨_, rfl⟩
      rw [htt] at AK hz ht
      obtain ⟨la, lb, lc, ld, le, lf, lg, lh⟩ := ht
      have c0 := AK.out.cell 0
      have c1 := AK.out.cell 1
      have c2 := AK.out.cell 2
      have c4 := AK.out.cell 4
      have c5 := AK.out.cell 5
      have c6 := AK.out.cell 6
      have c7 := AK.out.cell 7
      have ck := (TW.out.below BK.out (by have := TW.out.pos; omega)).k hkk
      simp only [u32s, V8.list, List.map_cons, List.map_nil, List.getElem?_cons_succ, List.getElem?_cons_zero] at c0 c1 c2 c4 c5 c6 c7
      have hix : (u32s ws).toArray[k]? = some (.int .u32 x) := by simpa using u32s_get hx
      have hrun := fun W => run_index_arr (P := Tryd.prog) Tryd.underlying64 Tryd.underlying59 Tryd.size59 hlt hix W
      have q1 := raw_bS1 le
      have q2 := raw_cho le lf lg
      have q3 := raw_addT t kk x
      have q4 := raw_bS0 la
      have q5 := raw_maj la lb lc
      have q6 := raw_addU t
      have R6 := fun W => right_any t.e 6 le (by decide) W
      have R11 := fun W => right_any t.e 11 le (by decide) W
      have R25 := fun W => right_any t.e 25 le (by decide) W
      have R2 := fun W => right_any t.a 2 la (by decide) W
      have R13 := fun W => right_any t.a 13 la (by decide) W
      have R22 := fun W => right_any t.a 22 la (by decide) W
      go_wp2
      go_quiet (fail)
      go_wp2_with (first
        | (go_at_call_of 41 (Value.int IntKind.i64 6); refine (R6 _).mono ?_; rintro e W ⟨rfl, m6, rfl⟩)
        | (go_at_call_of 41 (Value.int IntKind.i64 11); refine (R11 _).mono ?_; rintro e W ⟨rfl, m11, rfl⟩)
        | (go_at_call_of 41 (Value.int IntKind.i64 25); refine (R25 _).mono ?_; rintro e W ⟨rfl, m25, rfl⟩)
        | (go_at_call_of 41 (Value.int IntKind.i64 2); refine (R2 _).mono ?_; rintro e W ⟨rfl, m2, rfl⟩)
        | (go_at_call_of 41 (Value.int IntKind.i64 13); refine (R13 _).mono ?_; rintro e W ⟨rfl, m13, rfl⟩)
        | (go_at_call_of 41 (Value.int IntKind.i64 22); refine (R22 _).mono ?_; rintro e W ⟨rfl, m22, rfl⟩))
      have hcopy : ∀ m : Nat, (Builtin.copy_ #[72, 72] 3 #[.slice (some ⟨w.heap.size + 1 + 1 + 1, 1, none⟩) 7 7, .slice (some ⟨w.heap.size + 1 + 1 + 1, 0, none⟩) 7 8]).run Tryd.prog (wr.drewN m) = .ok (goInt 7) ((wr.drewN m).setRow (w.heap.size + 1 + 1 + 1) (u32s [t.a, t.a, t.b, t.c, t.d, t.e, t.f, t.g]).toArray) := by
        intro m
        have h := run_copy_row (P := Tryd.prog) (wr.drewN m) 72 72 3 59 (w.heap.size + 1 + 1 + 1) 1 7 7 ⟨w.heap.size + 1 + 1 + 1, 0, none⟩ 7 8 (u32s t.list).toArray 60 (u32s [t.a, t.b, t.c, t.d, t.e, t.f, t.g]) Tryd.underlying72 Tryd.size59 AK.out rfl ?_ (Nat.le_refl _) ?_
        · simpa [u32s, V8.list] using h
        · intro j v hj
          have e := AK.out.cell j
          have hj7 : j < 7 := by simpa [u32s] using (List.getElem?_eq_some_iff.1 hj).1
          have e2 : (u32s t.list)[j]? = some v := by
            rw [← hj]
            match j, hj7 with
            | 0, _ => rfl
            | 1, _ => rfl
            | 2, _ => rfl
            | 3, _ => rfl
            | 4, _ => rfl
            | 5, _ => rfl
            | 6, _ => rfl
          rw [← e2, ← e]
          show wr.cell? ((⟨w.heap.size + 1 + 1 + 1, 0, none⟩ : Addr).add j) = _
          rw [show (⟨w.heap.size + 1 + 1 + 1, 0, none⟩ : Addr).add j = ⟨w.heap.size + 1 + 1 + 1, j, none⟩ by unfold Addr.add; split <;> simp_all]
        · exact fun v hv => (Array.all_eq_true_iff_forall_mem.1 (u32s_one [t.a, t.b, t.c, t.d, t.e, t.f, t.g])) v (by simpa using hv)
      go_region
      have AV2 := Lib.hid ((show Arr (wr.drewN (nq + m6 + m11 + m25 + m2 + m13 + m22 + 1)) _ _ _ from AK.out).row (u32s [t.a, t.a, t.b, t.c, t.d, t.e, t.f, t.g]))
      have BK2 := Lib.hid (below_setRow (g := w.heap.size + 1 + 1 + 1) (show Below (w.heap.size + 3) W1 (wr.drewN (nq + m6 + m11 + m25 + m2 + m13 + m22 + 1)) from below_drewN BK.out _) (by omega) (u32s [t.a, t.a, t.b, t.c, t.d, t.e, t.f, t.g]).toArray)
      obtain ⟨W2, hW2⟩ : ∃ W2, ((wr.drewN (nq + m6 + m11 + m25 + m2 + m13 + m22 + 1)).setRow (w.heap.size + 1 + 1 + 1) (u32s [t.a, t.a, t.b, t.c, t.d, t.e, t.f, t.g]).toArray) = W2 := ⟨_, rfl⟩
      rw [hW2] at AV2 BK2 ⊢
      clear hW2 hcopy hrun hix AK BK ck R6 R11 R25 R2 R13 R22
      have d4 := AV2.out.cell 4
      have f4 := AV2.out.frozen 4
      have d0 := AV2.out.cell 0
      have f0 := AV2.out.frozen 0
      simp only [u32s, List.map_cons, List.map_nil, List.getElem?_cons_succ, List.getElem?_cons_zero] at d4 d0
      have q7 : (((t.d : Int) + (addT t kk x : Nat)) % 4294967296) = ((rnd t kk x).e : Nat) := by simp [rnd]
      have q8 : ((((addT t kk x : Nat) : Int) + (addU t : Nat)) % 4294967296) = ((rnd t kk x).a : Nat) := by simp [rnd]
      go_wp2
      go_roundw
      case rel =>
        refine ⟨k + 1, by omega, by go_num, ?_, ?_⟩
        · rw [hz]
          exact (AV2.out.set 4 _).set 0 _
        · exact Lib.hid ((BK2.out.setCell (p := ⟨w.heap.size + 1 + 1 + 1, 4, none⟩) (by simp) _).setCell (p := ⟨w.heap.size + 1 + 1 + 1, 0, none⟩) (by simp) _)
      case measure => simp [intOf]; omega
    · obtain rfl : k = 64 := by omega
      have hzl : (tabK.zip ws).take 64 = tabK.zip ws := List.take_of_length_le (by rw [List.length_zip, tabK_len, hwl]; decide)
      rw [hzl] at AK
      have ht := rnds_ok hs (tabK.zip ws)
      have hmx : mixV s tabK ws = addV s (rnds s (tabK.zip ws)) := rfl
      have HR2 : Hid (addV s (rnds s (tabK.zip ws)) = R) := hmx ▸ HR.out
      obtain ⟨t, htt⟩ : ∃ t, rnds s (tabK.zip ws) = t := ⟨_, rfl⟩
      rw [htt] at AK ht HR2
      clear hmx hzl htt HR
      have AH2 := Lib.hid (AH.out.below BK.out (by omega))
      have AR2 := Lib.hid (AR.out.below BK.out (by omega))
      have BW2 := Lib.hid (BW.out.trans (BK.out.mono (by omega)))
      clear AH AR BW TW
      go_wp2_with (first
        | (refine wpList_load_arr rfl 60 (.tmp 5) rfl _ rfl AK.out Tryd.underlying60 rfl Tryd.size60 rfl ?_))
      go_loopw [102] (fun iv wq => ∃ k : Nat, k ≤ 8 ∧ iv = .int .i64 k ∧ Hid (Arr wq w.heap.size 60 (u32s ((addV s t).list.take k ++ s.list.drop k))) ∧ Hid (Arr wq (w.heap.size + 1 + 1) 60 [.int .u32 0, .int .u32 0, .int .u32 0, .int .u32 0, .int .u32 0, .int .u32 0, .int .u32 0, .int .u32 0]) ∧ Hid (Below w.heap.size w wq)) (fun iv _ => 8 - (intOf iv).toNat)
      case atStart => exact ⟨0, by omega, rfl, AH2, AR2, BW2⟩
      case round =>
        obtain ⟨k, hk, rfl, AQ, AQR, BQ⟩ := hrel
        clear AH2 AR2 BW2
        by_cases hlt : k < 8
        · obtain ⟨y, hy⟩ : ∃ y, s.list[k]? = some y := ⟨_, List.getElem?_eq_getElem hlt⟩
          obtain ⟨z, hz⟩ : ∃ z, t.list[k]? = some z := ⟨_, List.getElem?_eq_getElem hlt⟩
          have hyz := addV_get hy hz
          have hix : (u32s t.list).toArray[k]? = some (.int .u32 z) := by simpa using u32s_get hz
          have hrun := fun W => run_index_arr (P := Tryd.prog) Tryd.underlying60 Tryd.underlying59 Tryd.size59 hlt hix W
          have ck : wr.cell? ⟨w.heap.size, k, none⟩ = some (.int .u32 y) := by
            rw [AQ.out.cell k]
            refine u32s_get ?_
            rw [List.getElem?_append_right (by simp; omega), List.getElem?_drop, ← hy]
            congr 1
            have : (addV s t).list.length = 8 := rfl
            simp [this]; omega
          have fk := AQ.out.frozen k
          go_wp2
          go_roundw
          case rel =>
            refine ⟨k + 1, by omega, by go_num, ?_, AQR.out.other (by omega) _ _, BQ.out.setCell (p := ⟨w.heap.size, k, none⟩) (by simp) _⟩
            have e := set_step (A := (addV s t).list) (B := s.list) rfl hyz
            have h := AQ.out.set k (.int .u32 ((y + z) % 4294967296 : Nat))
            unfold Hid
            rw [← e]
            simpa [u32s, List.map_set] using h
          case measure => simp [intOf]; omega
        · obtain rfl : k = 8 := by omega
          have hl8 : (addV s t).list.take 8 ++ s.list.drop 8 = (addV s t).list := rfl
          rw [hl8, HR2.out] at AQ
          go_wp2_with (first
            | (refine wpList_load_arr rfl 60 (.tmp 2) rfl _ rfl AQ.out Tryd.underlying60 rfl Tryd.size60 rfl ?_)
            | (refine wpList_store_arr rfl 60 (.tmp 4) (.tmp 113) rfl _ rfl rfl AQR.out Tryd.size60 rfl rfl (u32s_one _) ?_; intro W5 A5 B5 hsz5 HO5))
          refine bodyPost_ret (results_arr rfl rfl A5.out Tryd.underlying60 rfl Tryd.size60 rfl) rfl ?_
          exact ⟨rfl, BQ.out.trans (B5.out.mono (by omega))⟩
end Go.Proofs.YtmmocnokgcgmnaaDoor
