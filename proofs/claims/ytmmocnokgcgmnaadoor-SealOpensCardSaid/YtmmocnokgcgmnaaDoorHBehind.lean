/-
  THE PROGRAM: bytes behind the key's, each changed by a mask.
-/
import Derived.Test.YtmmocnokgcgmnaaDoorHAppend
import Derived.Test.YtmmocnokgcgmnaaDoorHSum
namespace Go.Proofs.YtmmocnokgcgmnaaDoor
open Go.RowKit
theorem Tryd.size57 : (Tryd.prog.info? 57).map (·.size) = some 64 := by kernel_rfl
set_option maxHeartbeats 1600000 in
set_option maxRecDepth 100000 in
theorem behind_any (key : List Nat) (hkl : key.length = 64) (hkb : ∀ x ∈ key, x < 256) (mk : Nat) (hmk : mk < 256) (a : Option Addr) (cap : Nat) (b : List Nat) (hlen : b.length ≤ 70368744177664) (w : World) (hr : RdN w.heap.size w a b) :
    Calls Tryd.prog 31 #[.agg (u8s key).toArray, .int .u8 mk, .slice a b.length cap] w fun e w' => (∃ g c, e = .returned (.slice (some ⟨g, 0, none⟩) (64 + b.length) c) ∧ 64 + b.length ≤ c ∧ RdN w'.heap.size w' (some ⟨g, 0, none⟩) (maskL key mk ++ b)) ∧ Below w.heap.size w w' := by
  obtain ⟨i0, hi, hz0, hz1, hz2⟩ := info_parts Tryd.info5
  have AK : ∀ o : Obj, Arr (w.alloc (.cells (u8s key).toArray 57)) w.heap.size 57 (u8s key) := fun _ => Arr.new w 57 (u8s key)
  obtain ⟨W1, hmake, hown, hgr⟩ := run_make_own (P := Tryd.prog) (w.alloc (.cells (u8s key).toArray 57)) w.heap.size 23 5 i0 (.int .u8 0) 1 Tryd.underlying23 hi hz0 hz1 .i64 .i64 (64 + b.length) (by rw [hz2]; omega) (by unfold maxLen; omega) (by simp)
  rw [show ((64 + b.length : Nat) : Int) = 64 + (b.length : Int) by omega] at hmake
  have BW1 : Below w.heap.size w W1 := ((Below.refl _ w).alloc (Nat.le_refl _) _).grown hgr (by simp) (fun k hk => by cases hk)
  have A1 : Arr W1 w.heap.size 57 (u8s key) := (hgr.block _ (by simp) (by simp)).trans (AK (.cells #[] 0))
  have HOW := Lib.hid hown
  have HB1 := Lib.hid BW1
  have HA1 := Lib.hid A1
  have hkx : ∀ k : Nat, k < 64 → ∃ x, key[k]? = some x ∧ x < 256 := fun k hk => ⟨_, List.getElem?_eq_getElem (by omega), hkb _ (List.getElem_mem _)⟩
  clear hown hgr BW1 A1 AK
  go_enter Tryd.func31, Tryd.ntmps31
  go_wp2_with (refine wpList_load_arr rfl 57 (.tmp 3) rfl w.heap.size rfl HA1.out Tryd.underlying57 rfl Tryd.size57 (by rw [u8s_len, hkl]) ?_)
  clear hmake
  go_loopw [7, 15] (fun v kv wr => ∃ k : Nat, k ≤ 64 ∧ kv = .int .i64 k ∧ Hid (wr.ownsRow w.heap.size 5 1 v ((maskL key mk).take k).length (u8s ((maskL key mk).take k))) ∧ Hid (Below w.heap.size w wr)) (fun _ kv _ => 64 - (intOf kv).toNat)
  case atStart => exact ⟨0, by omega, rfl, by simpa [Hid, u8s] using HOW.out, HB1⟩
  case round =>
    obtain ⟨k, hk, rfl, HO, HB⟩ := hrel
    clear HOW HB1 HA1
    by_cases hlt : k < 64
    · obtain ⟨x, hx, hx8⟩ := hkx k hlt
      have hix : (u8s key).toArray[k]? = some (.int .u8 x) := by simpa using u8s_get hx
      have hrun := fun W => run_index_arr (P := Tryd.prog) Tryd.underlying57 Tryd.underlying5 Tryd.size5 hlt hix W
      have hxor := u8_xor_nat x mk hx8 hmk
      have hnext : (maskL key mk).take (k + 1) = (maskL key mk).take k ++ [x ^^^ mk] := by
        rw [List.take_add_one, maskL, List.getElem?_map, hx]; rfl
      have hsz := HB.out.size
      have hkl2 : ((maskL key mk).take k).length ≤ 64 := by rw [List.length_take]; omega
      obtain ⟨l, hl⟩ : ∃ l, (maskL key mk).take k = l := ⟨_, rfl⟩
      rw [hl] at HO hnext hkl2
      have HN := Lib.hid hnext
      clear hix hx hl hkx hnext
      go_wp2_with (at_builtin; refine wpList_append_bytes (bs := [x ^^^ mk]) (n₀ := wr.heap.size + 1) hi hz0 hz1 hz2 rfl _ _ rfl w.heap.size _ l rfl (HO.out.alloc _) rfl rfl ?c1 ?c2 ?c3 ?c4)
      case c1 => exact RdN.arr (Arr.new wr 5 (u8s [x ^^^ mk])) (by omega)
      case c2 => simp only [List.length_singleton]; omega
      case c3 => simp; omega
      intro v' w1 HO1 HB1
      go_wp2
      go_roundw
      case rel => exact ⟨k + 1, by omega, by go_num, by rw [HN.out]; simpa using HO1, (HB.out.alloc hsz _).trans HB1.out⟩
      case measure => simp [intOf]; omega
    · obtain rfl : k = 64 := by omega
      have e64 : (maskL key mk).take 64 = maskL key mk := List.take_of_length_le (by simp [maskL, hkl])
      rw [e64] at HO
      have hml : (maskL key mk).length = 64 := by simp [maskL, hkl]
      have hsz := HB.out.size
      have hrb := hr.below HB.out (Nat.le_refl _)
      go_wp2_with (at_builtin; refine wpList_append_bytes (bs := b) (n₀ := w.heap.size) hi hz0 hz1 hz2 rfl _ _ rfl w.heap.size _ (maskL key mk) rfl HO.out rfl rfl hrb ?c2 hsz ?_)
      case c2 => rw [hml]; omega
      intro v' w1 HO1 HB1
      go_wp2
      go_ret
      have ho := HO1.out
      have hll : (maskL key mk ++ b).length = 64 + b.length := by rw [List.length_append, hml]
      rw [← hll] at ho
      obtain ⟨g, c, rfl, h1, _, _, h4⟩ := own_rd ho (by rw [List.length_append, hml]; omega)
      rw [List.length_append, hml] at h1
      refine ⟨⟨g, c, ?_, h1, h4⟩, HB.out.trans HB1.out⟩
      rw [List.length_append, hml]
      rfl
end Go.Proofs.YtmmocnokgcgmnaaDoor
