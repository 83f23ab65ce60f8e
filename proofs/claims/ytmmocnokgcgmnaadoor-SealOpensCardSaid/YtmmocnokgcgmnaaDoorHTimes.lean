/-
  THE DOCUMENT: two numbers of many digits, multiplied.
-/
import Derived.Test.YtmmocnokgcgmnaaDoorHVal
import Derived.Test.YtmmocnokgcgmnaaDoorHMake
namespace Go.Proofs.YtmmocnokgcgmnaaDoor
open Go.RowKit
def i64s (l : List Nat) : List Value := l.map fun n : Nat => Value.int .i64 (n : Int)
theorem i64s_len (l : List Nat) : (i64s l).length = l.length := by simp [i64s]
theorem i64s_get {l : List Nat} {i n : Nat} (h : l[i]? = some n) : (i64s l)[i]? = some (.int .i64 n) := by simp [i64s, h]
theorem i64s_set (l : List Nat) (i n : Nat) : i64s (l.set i n) = (i64s l).set i (.int .i64 n) := by simp [i64s, List.map_set]
theorem Tryd.info3 : (Tryd.prog.info? 3).map (fun i => (i.zero, i.size, i.bytes)) = some (some (.int .i64 0), 1, 8) := by kernel_rfl
theorem made_i64 (c : Nat) : madeCells (Value.int .i64 0).cells (c * 1) = (i64s (List.replicate c 0)).toArray := by
  apply Array.ext
  · simp [madeCells, i64s]
  · intro i h1 h2
    simp [madeCells, i64s, Value.cells, Nat.mod_one]
set_option maxHeartbeats 1600000 in
set_option maxRecDepth 100000 in
theorem times_any (ga ca gb cb : Nat) (a b : List Nat) (ha : ∀ d ∈ a, d < 65536) (hb : ∀ d ∈ b, d < 65536) (hla : a.length ≤ 10) (hlb : b.length ≤ 10) (w : World) (t1 t2 : TypeId) (ra rb : List Nat) (hA : Arr w ga t1 (i64s (a ++ ra))) (hB : Arr w gb t2 (i64s (b ++ rb))) :
    Calls Tryd.prog 45 #[.slice (some ⟨ga, 0, none⟩) a.length ca, .slice (some ⟨gb, 0, none⟩) b.length cb] w fun e w' => (∃ g o, e = .returned (.slice (some ⟨g, 0, none⟩) (a.length + b.length + 1) (a.length + b.length + 1)) ∧ w.heap.size ≤ g ∧ Arr w' g 3 (i64s o) ∧ o.length = a.length + b.length + 1 ∧ (∀ d ∈ o, d < 65536) ∧ val o = val a * val b) ∧ Below w.heap.size w w' := by
  obtain ⟨i0, hi, hz0, hz1, hz2⟩ := info_parts Tryd.info3
  obtain ⟨la, hl1⟩ : ∃ la, a.length = la := ⟨_, rfl⟩
  obtain ⟨lb, hl2⟩ : ∃ lb, b.length = lb := ⟨_, rfl⟩
  rw [hl1, hl2]
  have hmk : (Instr.makeSlice 75 (.int .i64 ((la : Int) + (lb : Int) + 1)) (.int .i64 ((la : Int) + (lb : Int) + 1))).run Tryd.prog w = .ok (.slice (some ⟨w.heap.size, 0, none⟩) (la + lb + 1) (la + lb + 1)) (w.alloc (.cells (i64s (List.replicate (la + lb + 1) 0)).toArray 3)) := by
    have h := run_make (P := Tryd.prog) w 75 3 i0 (.int .i64 0) Tryd.underlying75 hi hz0 .i64 .i64 ((la : Int) + (lb : Int) + 1) ((la : Int) + (lb : Int) + 1) (by omega) (by omega) (by rw [hz2]; omega) (by omega)
    rw [h, hz1, show ((la : Int) + (lb : Int) + 1).toNat = la + lb + 1 by omega, made_i64]
  have BW := Lib.hid ((Below.refl w.heap.size w).alloc (Nat.le_refl _) (.cells (i64s (List.replicate (la + lb + 1) 0)).toArray 3))
  have AO := Lib.hid (Arr.new w 3 (i64s (List.replicate (la + lb + 1) 0)))
  have hag := hA.lt
  have hbg := hB.lt
  go_enter Tryd.func45, Tryd.ntmps45
  go_wp2
  obtain ⟨W0, hW0⟩ : ∃ W0, w.alloc (.cells (i64s (List.replicate (la + lb + 1) 0)).toArray 3) = W0 := ⟨_, rfl⟩
  rw [hW0] at AO BW ⊢
  clear hmk hW0
  have HA := Lib.hid (hA.below BW.out hag)
  have HB := Lib.hid (hB.below BW.out hbg)
  go_loopw [6] (fun iv wr => ∃ (i : Nat) (o : List Nat), i ≤ la ∧ iv = .int .i64 i ∧ Hid (Arr wr w.heap.size 3 (i64s o)) ∧ o.length = la + lb + 1 ∧ Hid ((∀ d ∈ o, d < 65536) ∧ val o = val (a.take i) * val b) ∧ Hid (Below w.heap.size W0 wr)) (fun iv _ => la - (intOf iv).toNat)
  case atStart => exact ⟨0, _, by omega, rfl, AO, by simp, ⟨fun d hd => by rw [(List.mem_replicate.1 hd).2]; decide, by rw [val_zeros]; simp [val]⟩, Below.refl _ _⟩
  case round =>
    obtain ⟨i, o, hi6, rfl, HO, hol, HV, HBl⟩ := hrel
    clear AO
    by_cases hlt : i < la
    · obtain ⟨x, hx⟩ : ∃ x, a[i]? = some x := ⟨_, List.getElem?_eq_getElem (by omega)⟩
      have hx16 := ha x (List.mem_of_getElem? hx)
      have HX := Lib.hid hx
      clear hx
      go_wp2
      go_loopw [7] (fun kv wr => ∃ (k : Nat) (o : List Nat), k ≤ lb ∧ kv = .int .i64 k ∧ Hid (Arr wr w.heap.size 3 (i64s o)) ∧ o.length = la + lb + 1 ∧ Hid ((∀ d ∈ o, d < 65536) ∧ val o = val (a.take i) * val b + 65536 ^ i * x * val (b.take k)) ∧ Hid (Below w.heap.size W0 wr)) (fun kv _ => lb - (intOf kv).toNat)
      case atStart => exact ⟨0, o, by omega, rfl, HO, hol, ⟨HV.out.1, by rw [HV.out.2]; simp [val]⟩, HBl⟩
      case round =>
        obtain ⟨k, o, hk, rfl, HO, hol, HV, HBl⟩ := hrel
        by_cases hlt2 : k < lb
        · obtain ⟨y, hy⟩ : ∃ y, b[k]? = some y := ⟨_, List.getElem?_eq_getElem (by omega)⟩
          have hy16 := hb y (List.mem_of_getElem? hy)
          obtain ⟨z, hz⟩ : ∃ z, o[i + k]? = some z := ⟨_, List.getElem?_eq_getElem (by omega)⟩
          have hz16 := HV.out.1 z (List.mem_of_getElem? hz)
          have ca : wr.cell? ⟨ga, i, none⟩ = some (.int .i64 x) := by
            rw [(HA.out.below HBl.out (by omega)).cell]
            exact i64s_get (by rw [List.getElem?_append_left (by omega)]; exact HX.out)
          have cb' : wr.cell? ⟨gb, k, none⟩ = some (.int .i64 y) := by
            rw [(HB.out.below HBl.out (by omega)).cell]
            exact i64s_get (by rw [List.getElem?_append_left (by omega)]; exact hy)
          have co : wr.cell? ⟨w.heap.size, i + k, none⟩ = some (.int .i64 z) := by rw [HO.out.cell]; exact i64s_get hz
          have fo := HO.out.frozen (i + k)
          have hxy : x * y ≤ 65535 * 65535 := Nat.mul_le_mul (by omega) (by omega)
          obtain ⟨m, hm⟩ : ∃ m, x * y = m := ⟨_, rfl⟩
          have hmi : (x : Int) * (y : Int) = (m : Int) := by rw [← hm]; exact (Int.natCast_mul x y).symm
          rw [hm] at hxy
          have HM := Lib.hid hm
          obtain ⟨c, hc⟩ : ∃ c, i + k = c := ⟨_, rfl⟩
          have hci : (i : Int) + (k : Int) = (c : Int) := by omega
          rw [hc] at co fo hz
          have hcl : c < la + lb + 1 := by omega
          have HZ := Lib.hid hz
          have HY := Lib.hid hy
          clear hz hy hm
          go_wp2
          go_region
          go_wp2
          have hyk := HY.out
          have hvt := val_take b k y hyk
          have hVb := val_bound ha hb HX.out (k + 1)
          rw [hl1, hl2] at hVb
          have hv1 := val_set o c (z + m) z HZ.out
          have hV1 : Hid (val (o.set c (z + m)) = val (a.take i) * val b + 65536 ^ i * x * val (b.take (k + 1))) := by
            have e : 65536 ^ i * x * (65536 ^ k * y) = 65536 ^ c * m := by rw [Nat.mul_mul_mul_comm, ← Nat.pow_add, hc, HM.out]
            unfold Hid
            rw [hvt, Nat.mul_add, e]
            have h0 := HV.out.2
            rw [Nat.mul_add] at hv1
            omega
          have hD1 : Hid (∀ (j d : Nat), j ≠ c → (o.set c (z + m))[j]? = some d → d < 65536) := fun j d hne hd => by
            rw [List.getElem?_set, if_neg (Ne.symm hne)] at hd
            exact HV.out.1 d (List.mem_of_getElem? hd)
          have hC1 : Hid (∃ d, (o.set c (z + m))[c]? = some d ∧ d < 8589934592) := ⟨z + m, by rw [List.getElem?_set, if_pos rfl, if_pos (by omega)], by omega⟩
          have ev : ((z + m : Nat) : Int) = (z : Int) + (m : Int) := by omega
          have hO1 : Hid (Arr (wr.setCell ⟨w.heap.size, c, none⟩ (.int .i64 ((z : Int) + (m : Int)))) w.heap.size 3 (i64s (o.set c (z + m)))) := by
            unfold Hid
            rw [i64s_set, ev]
            exact HO.out.set c _
          have HBc := HBl.out.setCell (p := ⟨w.heap.size, c, none⟩) (Nat.le_refl _) (.int .i64 ((z : Int) + (m : Int)))
          obtain ⟨VV, hVV⟩ : ∃ VV, val (a.take i) * val b + 65536 ^ i * x * val (b.take (k + 1)) = VV := ⟨_, rfl⟩
          rw [hVV] at hV1 hVb
          have HVV := Lib.hid hVV
          have HVb := Lib.hid hVb
          clear hvt hVb hv1 hVV hyk
          go_loopw [8] (fun cv wr => ∃ (c : Nat) (o : List Nat), c < la + lb + 1 ∧ cv = .int .i64 c ∧ Hid (Arr wr w.heap.size 3 (i64s o)) ∧ o.length = la + lb + 1 ∧ Hid (∀ (j d : Nat), j ≠ c → o[j]? = some d → d < 65536) ∧ Hid (∃ d, o[c]? = some d ∧ d < 8589934592) ∧ Hid (val o = VV) ∧ Hid (Below w.heap.size W0 wr)) (fun cv _ => la + lb + 1 - (intOf cv).toNat)
          case atStart => exact ⟨c, o.set c (z + m), hcl, rfl, hO1, by simp [hol], hD1, hC1, hV1, HBc.drew⟩
          case round =>
            obtain ⟨c, o, hcl, rfl, HO, hol, HD, ⟨d, hd, hdl⟩, HVo, HBl⟩ := hrel
            clear hO1 hD1 hC1 hV1 HBc
            have cd : wr.cell? ⟨w.heap.size, c, none⟩ = some (.int .i64 d) := by rw [HO.out.cell]; exact i64s_get hd
            have fd := HO.out.frozen c
            have HDc := Lib.hid hd
            by_cases hge : 65536 ≤ d
            · have hroom := val_room hd hge (by rw [HVo.out]; exact HVb.out)
              obtain ⟨e, he⟩ : ∃ e, o[c + 1]? = some e := ⟨_, List.getElem?_eq_getElem (by omega)⟩
              have he16 := HD.out (c + 1) e (by omega) he
              have ce : wr.cell? ⟨w.heap.size, c + 1, none⟩ = some (.int .i64 e) := by rw [HO.out.cell]; exact i64s_get he
              have fe := HO.out.frozen (c + 1)
              have hvc := val_carry hd he
              have hdec := Lib.hid (And.intro hvc he)
              have hgi : (65536 : Int) ≤ (d : Int) := by omega
              have hdli : (d : Int) < 8589934592 := by omega
              have hei : (e : Int) < 65536 := by omega
              have hroom2 : (c : Int) + 1 < (la : Int) + (lb : Int) + 1 := by omega
              have HDL := Lib.hid hdl
              have HGE := Lib.hid hge
              have HE16 := Lib.hid he16
              have HROOM := Lib.hid hroom
              clear hd he hvc hdl hge he16 hroom hxy hz16 hx16 hy16
              go_wp2
              go_region
              go_wp2
              have hHE := HE16.out
              have hHD := HDL.out
              refine ⟨⟨c + 1, (o.set (c + 1) (e + d / 65536)).set c (d % 65536), by have := HROOM.out; omega, by go_num, ?_, by simp [hol], ?_, ?_, hdec.out.1.trans HVo.out, ((HBl.out.setCell (p := ⟨w.heap.size, c + 1, none⟩) (Nat.le_refl _) _).setCell (p := ⟨w.heap.size, c, none⟩) (Nat.le_refl _) _).drew⟩, by simp [intOf]; omega⟩
              · have e1 : ((e + d / 65536 : Nat) : Int) = (e : Int) + (d : Int) / 65536 := by omega
                have e2 : ((d % 65536 : Nat) : Int) = (d : Int) % 65536 := by omega
                unfold Hid
                rw [i64s_set, i64s_set, e1, e2]
                exact (show Arr (World.drew _) _ _ _ from (HO.out.set (c + 1) _).set c _)
              · intro j d' hne hj
                rw [List.getElem?_set] at hj
                by_cases hjc : c = j
                · subst hjc
                  rw [if_pos rfl, if_pos (by simp [hol]; omega)] at hj
                  cases hj
                  exact Nat.mod_lt _ (by decide)
                · rw [if_neg hjc, List.getElem?_set, if_neg (Ne.symm hne)] at hj
                  exact HD.out j d' (Ne.symm hjc) hj
              · refine ⟨e + d / 65536, ?_, by omega⟩
                have := HROOM.out
                rw [List.getElem?_set, if_neg (by omega), List.getElem?_set, if_pos rfl, if_pos (by rw [hol]; omega)]
            · have hdi : ¬ (65536 ≤ (d : Int)) := by omega
              clear hd
              go_wp2
              refine ⟨⟨k + 1, o, by omega, by go_num, HO, hol, ⟨fun d' hd' => ?_, by rw [HVo.out, HVV.out]⟩, HBl⟩, by simp [intOf]; omega⟩
              obtain ⟨j, hj⟩ := List.getElem?_of_mem hd'
              by_cases hjc : j = c
              · subst hjc
                rw [HDc.out] at hj
                cases hj
                omega
              · exact HD.out j d' hjc hj
        · obtain rfl : k = lb := by omega
          have hbt : b.take k = b := List.take_of_length_le (by omega)
          have hvt := val_take a i x HX.out
          have hV2 : Hid ((∀ d ∈ o, d < 65536) ∧ val o = val (a.take (i + 1)) * val b) := ⟨HV.out.1, by rw [HV.out.2, hbt, hvt, Nat.add_mul]⟩
          clear hvt
          go_wp2
          first
            | (go_roundw; case rel => exact ⟨i + 1, o, by omega, by go_num, HO, hol, hV2, HBl⟩; case measure => simp [intOf]; omega)
            | exact ⟨⟨i + 1, o, by omega, by go_num, HO, hol, hV2, HBl⟩, by simp [intOf]; omega⟩
    · obtain rfl : i = la := by omega
      have hat : a.take i = a := List.take_of_length_le (by omega)
      go_wp2
      go_ret
      exact ⟨⟨w.heap.size, o, rfl, Nat.le_refl _, HO.out, hol, HV.out.1, by rw [HV.out.2, hat]⟩, BW.out.trans HBl.out⟩
end Go.Proofs.YtmmocnokgcgmnaaDoor
