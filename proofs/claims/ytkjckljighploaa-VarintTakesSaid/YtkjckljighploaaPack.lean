/-
  THE PROGRAM s Pack: it returns the bytes of the numbers one behind the other ("packL"), in a row of its own, and leaves what was there as it was.
-/
import Derived.Test.YtkjckljighploaaAwake
namespace Go.Proofs.Ytkjckljighploaa
open Go.RowKit

/-- The bytes of the numbers, one behind the other. -/
def packL (l : List Int) : List Int := l.flatMap fun n => putL (zigI n).toNat

theorem packL_snoc (l : List Int) (n : Int) : packL (l ++ [n]) = packL l ++ putL (zigI n).toNat := by simp [packL]

/-- The numbers of a slice are ints. -/
def Ints64 (zs : List Int) : Prop := ∀ j : Nat, -9223372036854775808 ≤ zs[j]?.getD 0 ∧ zs[j]?.getD 0 ≤ 9223372036854775807

theorem putZ_len (n : Int) (h0 : -9223372036854775808 ≤ n) (h1 : n ≤ 9223372036854775807) : (putL (zigI n).toNat).length ≤ 10 := by
  have := zig_range h0 h1
  exact putL_len10 (by omega)

theorem packL_len : ∀ (k : Nat) (zs : List Int), Ints64 zs → (packL (zs.take k)).length ≤ 10 * k := by
  intro k
  induction k with
  | zero => intro zs _; simp [packL]
  | succ k ih =>
    intro zs h
    rw [List.take_add_one]
    have := ih zs h
    rcases hz : zs[k]? with _ | x
    · simp; omega
    · have h1 := h k
      rw [hz] at h1
      simp only [Option.getD_some] at h1
      have h2 := putZ_len x h1.1 h1.2
      simp only [Option.toList_some, packL_snoc, List.length_append]
      omega

theorem own_form {w : World} {base : Nat} {e : TypeId} {size : Nat} {v : Value} {n : Nat} {xs : List Value} (h : w.ownsRow base e size v n xs) : ∃ A cap, v = .slice A n cap ∧ n ≤ cap := by
  rcases h.2 with ⟨rfl, rfl⟩ | ⟨g, cap, cur, rfl, _, _, hc, _⟩
  · exact ⟨none, 0, rfl, Nat.le_refl _⟩
  · exact ⟨_, cap, rfl, hc⟩

set_option maxHeartbeats 1600000 in
set_option maxRecDepth 100000 in
theorem pack_any (a : Option Addr) (cap : Nat) (zs : List Int) (hlen : zs.length ≤ 1000) (hzs : Ints64 zs) (w : World) (hr : Rd .i64 w.heap.size w a zs) :
    Calls Try.prog 22 #[.slice a zs.length cap] w fun e w' => ∃ v, e = .returned v ∧ w'.ownsRow w.heap.size 5 1 v (packL zs).length ((packL zs).map (Value.int .u8)) ∧ Below w.heap.size w w' := by
  obtain ⟨i0, hi, hz0, hz1, hz2⟩ := info_parts Try.info5
  go_enter Try.func22, Try.ntmps22
  go_wp2
  go_loopw [3, 8] (fun v i wr => ∃ k : Nat, k ≤ zs.length ∧ i = .int .i64 k ∧ wr.ownsRow w.heap.size 5 1 v (packL (zs.take k)).length ((packL (zs.take k)).map (Value.int .u8)) ∧ Below w.heap.size w wr)
    (fun _ i _ => zs.length - (intOf i).toNat)
  case atStart => exact ⟨0, Nat.zero_le _, rfl, World.ownsRow_nil _ _ _ _, Below.refl _ _⟩
  case round =>
    obtain ⟨k, hk, rfl, hown, hbel⟩ := hrel
    by_cases hlt : k < zs.length
    · obtain ⟨b, off, rfl, hb, hc⟩ := hr (by omega)
      have hc1 := (hbel.cell (p := ⟨b, off + k, none⟩) hb).trans (hc k hlt)
      have hx := hzs k
      obtain ⟨x, hxe⟩ : ∃ x, zs[k]?.getD 0 = x := ⟨_, rfl⟩
      rw [hxe] at hc1 hx
      have hzr := zig_range hx.1 hx.2
      obtain ⟨u, hu, huz⟩ : ∃ u : Nat, u < 18446744073709551616 ∧ zigI x = u := ⟨(zigI x).toNat, by omega, by omega⟩
      have hnext : packL (zs.take (k + 1)) = packL (zs.take k) ++ putL u := by
        have e : zs.take (k + 1) = zs.take k ++ [x] := by
          rw [List.take_add_one, List.getElem?_eq_getElem hlt]
          rw [List.getElem?_eq_getElem hlt] at hxe
          simp at hxe
          simp [hxe]
        rw [e, packL_snoc, huz]; rfl
      have hpl := packL_len k zs hzs
      have hl10 := putL_len10 hu
      have HN := Lib.hid hnext
      have HO := Lib.hid hown
      have HB := Lib.hid hbel
      have hz := zig_any x hx.1 hx.2
      rw [huz] at hz
      clear hxe hnext hown hc hr hzr huz hzs
      obtain ⟨pre, hpre⟩ : ∃ pre, packL (zs.take k) = pre := ⟨_, rfl⟩
      rw [hpre] at HO HN hpl
      clear hpre
      go_wp2_with (first
        | (go_at_call 13; refine (hz _).mono ?_; rintro e w' ⟨rfl, rfl⟩)
        | (go_at_call 11; refine (put_any _ (by omega) _).mono ?_; rintro e w1 ⟨g, c1, rfl, ho, hb1⟩; have hs := hb1.size; have hs0 := HB.out.size; have H1 := Lib.hid (own_below HO.out hb1 (fun k hk => (HO.out.lt k hk).2)); have H2 := Lib.hid ho; have H3 := Lib.hid (HB.out.trans (hb1.mono HB.out.size)); clear ho hb1)
        | (at_builtin; refine wpList_append_own _ rfl _ _ 24 rfl w.heap.size 5 i0 (.int .u8 0) 1 1 Try.underlying24 hi hz0 hz1 hz2 rfl (by decide) _ _ _ rfl H1.out ⟨g, 0, none⟩ _ _ ((putL u).map (Value.int .u8)) rfl ?c0 ?c1 ?c2 ?c3 ?c4 ?c5 ?_))
      case c0 => simp
      case c1 => exact H2.out.cells rfl
      case c2 => intro x hx; obtain ⟨y, _, rfl⟩ := List.mem_map.1 hx; rfl
      case c3 => unfold maxLen; omega
      case c4 => omega
      case c5 => omega
      intro v' w2 hown' hgrow _
      have HF := Lib.hid hown'
      have HG := Lib.hid hgrow
      clear hown' hgrow
      go_wp2
      go_roundw
      case rel => exact ⟨k + 1, by omega, by go_num, by rw [HN.out]; simpa using HF.out, H3.out.grown HG.out (by omega) (fun j hj => (HO.out.lt j hj).1)⟩
      case measure => simp [intOf]; omega
    · obtain rfl : k = zs.length := by omega
      have HO := Lib.hid hown
      clear hown
      go_wp2
      go_ret
      exact ⟨_, rfl, by have := HO.out; rwa [List.take_of_length_le (Nat.le_refl _)] at this, hbel⟩
end Go.Proofs.Ytkjckljighploaa
