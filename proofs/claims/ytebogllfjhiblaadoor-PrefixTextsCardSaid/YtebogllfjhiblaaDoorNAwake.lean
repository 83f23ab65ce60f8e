/-
  PREFIXES: the first line of every law: two halves make a whole.
-/
import Derived.Test.YtebogllfjhiblaaDoorNText
namespace Go.Proofs.YtebogllfjhiblaaDoor
set_option linter.unusedVariables false
open Go.RowKit
theorem strL_toList (l : List UInt8) : (strL l).toList = l := by
  first | (rw [ByteArray.toList_data]; rfl) | (rw [toList_data]; rfl) | (rw [Lib.toList_data]; rfl)
theorem TabP.up {B C : Nat} {w : World} (h : TabP B w) (hb : B ≤ C) : TabP C w := fun w' h' => h w' (h'.mono hb)
theorem TabP.on {B : Nat} {w w1 : World} (h : TabP B w) (hb : Below B w w1) : TabP B w1 := Lib.TabBelow.on h hb
theorem sort_two : sortP [(176160768, 9), (167772160, 9)] = [(167772160, 9), (176160768, 9)] := by
  have h := ins_sorts #[((176160768 : Nat), (9 : Int)), (167772160, 9)]
  rw [show (#[((176160768 : Nat), (9 : Int)), (167772160, 9)] : Array (Nat × Int)).toList = [(176160768, 9), (167772160, 9)] from rfl] at h
  rw [← h]
  show (Sort.insOuter ltP 0 2 1 #[((176160768 : Nat), (9 : Int)), (167772160, 9)]).toList = _
  rw [insOuter_go _ _ _ _ _ (by decide), insOuter_stop _ _ _ _ _ (by decide)]
  decide +kernel
theorem join_two : joinP [(176160768, 9), (167772160, 9)] = [(167772160, 8)] := by
  unfold joinP joinR
  rw [show List.filter rightP [(176160768, 9), (167772160, 9)] = [(176160768, 9), (167772160, 9)] by decide +kernel, sort_two]
  decide +kernel
theorem text_ten : textP (167772160, 8) = [49, 48, 46, 48, 46, 48, 46, 48, 47, 56] := by decide +kernel
set_option maxHeartbeats 1600000 in
set_option maxRecDepth 100000 in
theorem awake6_any (w : World) (hT : TabP w.heap.size w) : Calls Tryd.prog 11 #[] w fun e w' => e = .returned (.bool true) ∧ Below w.heap.size w w' := by
  have hr : RdP (w.alloc (.cells #[.int .u32 176160768, .int .i64 9, .int .u32 167772160, .int .i64 9] 24)).heap.size (w.alloc (.cells #[.int .u32 176160768, .int .i64 9, .int .u32 167772160, .int .i64 9] 24)) (some ⟨w.heap.size, 0, none⟩) [(176160768, 9), (167772160, 9)] := fun _ =>
    ⟨w.heap.size, 0, rfl, by simp, fun j p hj => by
      match j, hj with
      | 0, hj => simp at hj; subst hj; exact ⟨by simp, by simp⟩
      | 1, hj => simp at hj; subst hj; exact ⟨by simp, by simp⟩
      | j + 2, hj => simp at hj⟩
  have hj := join_any (some ⟨w.heap.size, 0, none⟩) 2 [(176160768, 9), (167772160, 9)] (by decide) (by decide) (sort_few _ (by decide)) _ hr
  rw [join_two] at hj
  have hj : Calls Tryd.prog 27 #[.slice (some ⟨w.heap.size, 0, none⟩) 2 2] _ _ := hj
  have B1 := Lib.hid ((Below.refl w.heap.size w).alloc (Nat.le_refl _) (.cells #[.int .u32 176160768, .int .i64 9, .int .u32 167772160, .int .i64 9] 24))
  have HT := Lib.hid hT
  clear hr hT
  go_enter Tryd.func11, Tryd.ntmps11
  go_wp2_with (first
    | (go_at_call 27; refine hj.mono ?_; rintro e w1 ⟨⟨v1, rfl, ho⟩, hb1⟩; obtain ⟨A, c1, rfl⟩ := ho.shape (n := 1) rfl; obtain ⟨b, off, rfl, hbn, hc⟩ := ho.rd (by decide); have hc0 := hc 0 _ rfl; have k0 : w1.cell? ⟨b, off, none⟩ = some (.int .u32 167772160) := hc0.1; have k1 : w1.cell? ⟨b, off + 1, none⟩ = some (.int .i64 8) := hc0.2; clear hc0; have HB1 := Lib.hid (B1.out.trans (hb1.mono (by simp))); have htx : Calls Tryd.prog 14 #[.agg #[.int .u32 167772160, .int .i64 8]] w1 _ := text_any 167772160 (by decide) 8 w1 ((HT.out.on HB1.out).up HB1.out.size); rw [text_ten] at htx; clear hc ho hb1)
    | (go_at_call 14; refine htx.mono ?_; rintro e w2 ⟨rfl, hb2⟩; have HB2 := Lib.hid (HB1.out.trans (hb2.mono HB1.out.size)); clear hb2))
  go_ret
  refine ⟨?_, HB2.out⟩
  show Ending.returned (Value.bool ((strL [49, 48, 46, 48, 46, 48, 46, 48, 47, 56]).toList == [49, 48, 46, 48, 46, 48, 46, 48, 47, 56])) = _
  rw [strL_toList]
  rfl
end Go.Proofs.YtebogllfjhiblaaDoor
