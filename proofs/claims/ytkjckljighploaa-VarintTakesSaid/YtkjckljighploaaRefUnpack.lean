/-
  THE DOCUMENT s Unpack: it takes one number after the other and returns just the list that the program s Unpack returns, or ErrForm.
-/
import Derived.Test.YtkjckljighploaaRefTake
namespace Go.Proofs.Ytkjckljighploaa
open Go.RowKit

/-- A slice cut off at its front reads as the rest. -/
theorem Rd.drop {k : IntKind} {n₀ : Nat} {W : World} {b off : Nat} {zs : List Int} (h : Rd k n₀ W (some ⟨b, off, none⟩) zs) (j : Nat) : Rd k n₀ W (some ⟨b, off + j, none⟩) (zs.drop j) := fun hp => by
  rw [List.length_drop] at hp
  obtain ⟨b', off', e, hb, hc⟩ := h (by omega)
  injection e with e
  injection e with e1 e2
  subst e1 e2
  refine ⟨b, off + j, rfl, hb, fun i hi => ?_⟩
  rw [List.length_drop] at hi
  rw [List.getElem?_drop, Nat.add_assoc]
  exact hc (j + i) (by omega)

theorem rtake_len {a : Option Addr} {len : Nat} (cap : Nat) (zs : List Int) (hl : zs.length = len) (hlen : len ≤ 100000) (hcap : len ≤ cap) (hb : ∀ x ∈ zs, 0 ≤ x ∧ x ≤ 255) {w : World} (hr : Rd .u8 w.heap.size w a zs) {r1 r2 r3 : Int} (hres : takeS zs = (r1, r2, r3)) :
    Calls Try.prog 18 #[.slice a len cap] w fun e w' => e = .returned (.tuple #[.int .u64 r1, .int .i64 r2, .int .i64 r3]) ∧ Below w.heap.size w w' := by
  subst hl
  have h := rtake_any a cap zs hlen hcap hb w hr
  rw [hres] at h
  exact h

/-- The numbers with a sign, if their bytes are all there are; else none, and ErrForm. -/
def Unpacked (zs : List Int) (w : World) (e : Ending) (w' : World) : Prop :=
  (if used (scan 0 0 zs) = zs.length then ∃ v, e = .returned (.tuple #[v, .int .i64 0]) ∧ w'.ownsRow w.heap.size 3 1 v (zags (scan 0 0 zs)).length ((zags (scan 0 0 zs)).map (Value.int .i64)) else e = .returned (.tuple #[.slice none 0 0, .int .i64 2])) ∧ Below w.heap.size w w'

set_option maxHeartbeats 4000000 in
set_option maxRecDepth 100000 in
theorem runpack_any (a : Option Addr) (cap : Nat) (zs : List Int) (hlen : zs.length ≤ 2000) (hcap : zs.length ≤ cap) (hcm : cap ≤ 9223372036854775807) (hb : ∀ x ∈ zs, 0 ≤ x ∧ x ≤ 255) (w : World) (hr : Rd .u8 w.heap.size w a zs) :
    Calls Try.prog 20 #[.slice a zs.length cap] w (Unpacked zs w) := by
  obtain ⟨i0, hi, hz0, hz1, hz2⟩ := info_parts Try.info3
  have HR := Lib.hid hr
  clear hr
  go_enter Try.func20, Try.ntmps20
  go_wp2
  go_loopw [0, 4] (fun s v wr => ∃ (A : Option Addr) (c : Nat) (ys : List Int) (done : List Num), s = .slice A ys.length c ∧ ys.length ≤ c ∧ c ≤ 9223372036854775807 ∧ used done + ys.length = zs.length ∧ done.length ≤ used done ∧ Hid (scan 0 0 zs = done ++ scan 0 0 ys) ∧ Hid (∀ x ∈ ys, 0 ≤ x ∧ x ≤ 255) ∧
      Hid (Rd .u8 w.heap.size w A ys) ∧ wr.ownsRow w.heap.size 3 1 v done.length ((zags done).map (Value.int .i64)) ∧ Below w.heap.size w wr)
    (fun s _ _ => match s with | .slice _ n _ => n | _ => 0)
  case atStart => exact ⟨a, cap, zs, [], rfl, hcap, hcm, by simp [used], by simp [used], rfl, hb, HR, World.ownsRow_nil _ _ _ _, Below.refl _ _⟩
  case round =>
    obtain ⟨A, c, ys, done, rfl, hyc, hcc, hus, hdl, HS, HB, HRy, hown, hbel⟩ := hrel
    have HO := Lib.hid hown
    have HBe := Lib.hid hbel
    clear hown hbel
    by_cases h0 : 0 < ys.length
    · rcases hsc : scan 0 0 ys with _ | ⟨q, qs⟩
      · have hres : takeS ys = (0, 0, 2) := by unfold takeS; rw [hsc]
        have T1 := rtake_len c ys rfl (by omega) hyc HB.out ((HRy.out.below HBe.out).mono HBe.out.size) hres
        go_wp2_with (go_at_call 18; refine T1.mono ?_; rintro e W1 ⟨rfl, hb1⟩; have H1 := Lib.hid (HBe.out.trans (hb1.mono HBe.out.size)); clear hb1)
        go_ret2
        refine ⟨?_, H1.out⟩
        have hsd : scan 0 0 zs = done := by rw [HS.out, hsc, List.append_nil]
        rw [hsd, if_neg (by omega)]
        rfl
      · have hres : takeS ys = ((q.n : Int), (q.k : Int), 0) := by unfold takeS; rw [hsc]
        have T1 := rtake_len c ys rfl (by omega) hyc HB.out ((HRy.out.below HBe.out).mono HBe.out.size) hres
        obtain ⟨hq0, hql, hqt, hqs⟩ := scan_first0 HB.out hsc
        obtain ⟨b, off, rfl, hbb, hc⟩ := HRy.out h0
        have hzag := rzag_any q.n q.hn
        have HSC := Lib.hid hsc
        have hd20 : done.length ≤ 2000 := by omega
        clear hc hsc hqt
        go_wp2_with (first
          | (go_at_call 18; refine T1.mono ?_; rintro e W1 ⟨rfl, hb1⟩; have H1 := Lib.hid (HBe.out.trans (hb1.mono HBe.out.size)); have O1 := Lib.hid (own_below HO.out hb1 (fun k hk => (HO.out.lt k hk).2)); clear hb1)
          | (go_at_call 16; refine (hzag _).mono ?_; rintro e w' ⟨rfl, rfl⟩)
          | (at_builtin; refine wpList_append_own _ rfl _ _ 32 rfl w.heap.size 3 i0 (.int .i64 0) 1 8 Try.underlying32 hi hz0 hz1 hz2 rfl (by decide) _ _ _ rfl (O1.out.alloc _) ⟨_, 0, none⟩ 1 1 [.int .i64 (zagI q.n)] rfl rfl (cell_one_new _ _ _) (by simp [Value.oneCell']) (by unfold maxLen; omega) (by omega) (by have := H1.out.size; simp; omega) ?_; intro v2 W2 ho2 hg2 hn2; have H2 := Lib.hid ((H1.out.alloc H1.out.size _).grown hg2 (by have := H1.out.size; simp; omega) (fun k hk => (O1.out.lt k hk).1)); have O2 := Lib.hid ho2; clear ho2 hg2 hn2))
        go_roundw
        case rel =>
          refine ⟨if c = q.k then some ⟨b, off, none⟩ else some ⟨b, off + q.k, none⟩, c - q.k, ys.drop q.k, done ++ [q], by rw [List.length_drop], by rw [List.length_drop]; omega, by omega, by rw [used_snoc, List.length_drop]; omega, by rw [used_snoc, List.length_append]; simp; omega, ?_, fun x hx => HB.out x (List.mem_of_mem_drop hx), ?_, ?_, H2.out⟩
          · rw [Hid, HS.out, HSC.out, hqs]
            simp
          · by_cases hcq : c = q.k
            · intro hp
              rw [List.length_drop] at hp
              omega
            · rw [if_neg hcq]
              exact HRy.out.drop q.k
          · rw [zags_snoc]
            simpa using O2.out
        case measure =>
          show ys.length - q.k < ys.length
          omega
    · obtain rfl : ys = [] := List.eq_nil_of_length_eq_zero (by omega)
      have hsd : scan 0 0 zs = done := by rw [HS.out]; simp [scan]
      have HSD := Lib.hid hsd
      have HU := Lib.hid hus
      clear hsd hus
      go_wp2
      go_ret2
      refine ⟨?_, HBe.out⟩
      have hu := HU.out
      simp at hu
      rw [HSD.out, if_pos (by omega)]
      exact ⟨_, rfl, by rw [zags_len]; exact HO.out⟩
end Go.Proofs.Ytkjckljighploaa
