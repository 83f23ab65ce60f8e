/-
  ZtpSettles: the law's walk.
-/
import Derived.Test.YtfdoldefdkijoaaZLawP
import Derived.Test.YtfdoldefdkijoaaZSet
namespace Go.Proofs.Ytfdoldefdkijoaa
set_option linter.unusedSimpArgs false
set_option linter.unusedVariables false
open Go.ChangeMaps Go.MapKept Go.Maps Go.RowKit
section
variable {W0 W W' : World} {pb kb : Nat} {now : Int} {vs : List Int}
/-- What a round leaves besides. -/
def Side (now : Int) (vs : List Int) (k : Int) (z : ZtT) : Prop := (z.till ≤ now + k + 2 ∨ k = 0 ∧ z.till ≤ now + 3) ∧ (5 ≤ k → (z.down = false ∧ z.taken = bestV vs) ∨ (z.down = true ∧ z.till ≤ now + 7)) ∧ (8 ≤ k → z.down = false ∧ z.taken = bestV vs)
theorem Side.offer {k : Int} {z : ZtT} (h : Side now vs k z) (link level : Int) (none : Bool) (t : Int) : Side now vs k (offerZ z link level none t).2 := by
  have e : (offerZ z link level none t).2.till = z.till ∧ (offerZ z link level none t).2.down = z.down ∧ (offerZ z link level none t).2.taken = z.taken := by
    unfold offerZ
    split
    · exact ⟨rfl, rfl, rfl⟩
    · split
      · exact ⟨rfl, rfl, rfl⟩
      · split <;> exact ⟨rfl, rfl, rfl⟩
  unfold Side
  rw [e.1, e.2.1, e.2.2]
  exact h
theorem EndZ.side {k : Int} {z : ZtT} (h : EndZ now vs k z) : Side now vs (k + 1) z := ⟨.inl (by have := h.till; omega), fun q => h.conv (by omega), fun q => h.fin (by omega)⟩
/-- At a round's head. -/
def RelZ (now : Int) (vs : List Int) (k : Int) (z : ZtT) : Prop := RndZ now vs k 0 z ∧ Side now vs k z ∧ (12 ≤ k → bestL z.L = bestV vs ∧ levelZ z = bestV vs - 1)
theorem RelZ.start {z : ZtT} (h : PreZ now z) : RelZ now vs 0 z := ⟨RndZ.start h, ⟨.inr ⟨rfl, h.till⟩, fun q => by omega, fun q => by omega⟩, fun q => by omega⟩
theorem RelZ.tick {k : Int} {z : ZtT} (h : RndZ now vs k vs.length z) (hs : Side now vs k z) (hn : 0 ≤ now ∧ now ≤ 549755813888) (hk : 0 ≤ k ∧ k ≤ 11) : RelZ now vs (k + 1) (tickZ z (now + k)).2 := by
  have e := h.tick hn hk hs.1 hs.2.1 hs.2.2
  exact ⟨e.next, e.side, fun q => e.level (by omega)⟩
def PreL (W0 : World) (pb : Nat) (now : Int) (W : World) : Prop := ∃ z, LZ W0 pb z W ∧ PreZ now z
def RndL (W0 : World) (pb : Nat) (now : Int) (vs : List Int) (k : Int) (j : Nat) (W : World) : Prop := ∃ z, LZ W0 pb z W ∧ RndZ now vs k j z ∧ Side now vs k z
def RelL (W0 : World) (pb : Nat) (now : Int) (vs : List Int) (k : Int) (W : World) : Prop := ∃ z, LZ W0 pb z W ∧ RelZ now vs k z
theorem PreL.b (h : PreL W0 pb now W) : Below W0.heap.size W0 W := by obtain ⟨z, h, _⟩ := h; exact h.b
theorem RndL.b {k : Int} {j : Nat} (h : RndL W0 pb now vs k j W) : Below W0.heap.size W0 W := by obtain ⟨z, h, _⟩ := h; exact h.b
theorem RelL.b {k : Int} (h : RelL W0 pb now vs k W) : Below W0.heap.size W0 W := by obtain ⟨z, h, _⟩ := h; exact h.b
theorem PreL.below (h : PreL W0 pb now W) (q : Below W.heap.size W W') : PreL W0 pb now W' := by obtain ⟨z, h, p⟩ := h; exact ⟨z, h.below q, p⟩
theorem PreL.rel (h : PreL W0 pb now W) : RelL W0 pb now vs 0 W := by obtain ⟨z, h, p⟩ := h; exact ⟨z, h, RelZ.start p⟩
theorem RelL.rnd {k : Int} (h : RelL W0 pb now vs k W) : RndL W0 pb now vs k 0 W := by obtain ⟨z, h, p, q, _⟩ := h; exact ⟨z, h, p, q⟩
theorem pre_offer (h : PreL W0 pb now W) (link level : Int) (none : Bool) (t : Int) (ht : t ≤ now) (hl : link ≤ 31) : Calls Try.prog 12 #[.pointer (some ⟨pb, 0, Option.none⟩), .int .i64 link, .int .i64 level, .bool none, .int .i64 t] W fun e w' => ∃ c, e = .returned (.int .i64 c) ∧ PreL W0 pb now w' := by
  obtain ⟨z, h, p⟩ := h
  exact (poffer_law h link level none t).mono fun e w' ⟨he, hz, _⟩ => ⟨_, he, _, hz, p.offer link level none t ht hl⟩
theorem pre_tick (h : PreL W0 pb now W) (t : Int) (ht : t ≤ now) : Calls Try.prog 14 #[.pointer (some ⟨pb, 0, Option.none⟩), .int .i64 t] W fun e w' => ∃ c, e = .returned (.int .i64 c) ∧ PreL W0 pb now w' := by
  obtain ⟨z, h, p⟩ := h
  exact (ptick_law h t).mono fun e w' ⟨he, hz, _⟩ => ⟨_, he, _, hz, p.tick t ht⟩
theorem rnd_offer {k : Int} {j : Nat} (h : RndL W0 pb now vs k j W) (hn : 0 ≤ now ∧ now ≤ 549755813888) (hk : 0 ≤ k ∧ k ≤ 11) (hj : j < 30) {v : Int} (hv : vs[j]? = some v) : Calls Try.prog 12 #[.pointer (some ⟨pb, 0, none⟩), .int .i64 j, .int .i64 v, .bool false, .int .i64 (now + k)] W fun e w' => ∃ c, e = .returned (.int .i64 c) ∧ RndL W0 pb now vs k (j + 1) w' := by
  obtain ⟨z, h, p, q⟩ := h
  exact (poffer_law h (j : Int) v false (now + k)).mono fun e w' ⟨he, hz, _⟩ => ⟨_, he, _, hz, p.offer hn hk hj hv, q.offer _ _ _ _⟩
theorem rnd_tick {k : Int} (h : RndL W0 pb now vs k vs.length W) (hn : 0 ≤ now ∧ now ≤ 549755813888) (hk : 0 ≤ k ∧ k ≤ 11) : Calls Try.prog 14 #[.pointer (some ⟨pb, 0, none⟩), .int .i64 (now + k)] W fun e w' => ∃ c, e = .returned (.int .i64 c) ∧ RelL W0 pb now vs (k + 1) w' := by
  obtain ⟨z, h, p, q⟩ := h
  exact (ptick_law h (now + k)).mono fun e w' ⟨he, hz, _⟩ => ⟨_, he, _, hz, RelZ.tick p q hn hk⟩
theorem end_best (h : RelL W0 pb now vs 12 W) : Calls Try.prog 18 #[.pointer (some ⟨pb, 0, none⟩)] W fun e w' => e = .returned (.int .i64 (bestV vs)) ∧ RelL W0 pb now vs 12 w' := by
  obtain ⟨z, h, p⟩ := h
  have q := pbest_law h
  rw [(p.2.2 (by omega)).1] at q
  exact q.mono fun e w' ⟨he, hz, _⟩ => ⟨he, z, hz, p⟩
theorem end_level (h : RelL W0 pb now vs 12 W) : Calls Try.prog 16 #[.pointer (some ⟨pb, 0, none⟩)] W fun e w' => e = .returned (.int .i64 (bestV vs - 1)) ∧ w' = W := by
  obtain ⟨z, h, p⟩ := h
  have q := plevel_law h
  rw [(p.2.2 (by omega)).2] at q
  exact q
end
theorem bestV_next {l : List Int} {k : Nat} {v : Int} (h : l[k]? = some v) : bestV (l.take (k + 1)) = if goodV v then max (bestV (l.take k)) v else bestV (l.take k) := by
  unfold bestV
  rw [List.take_add_one, h, List.foldl_append]
  rfl
theorem bestV_in (l : List Int) : 0 ≤ bestV l ∧ bestV l ≤ 24 := by
  refine ⟨foldV_ge l 0, ?_⟩
  rcases foldV_in l 0 with h | ⟨v, _, hg, h⟩
  · unfold bestV; omega
  · have := hg.2; unfold bestV; omega
theorem and31 (x : Int) : bits .and .i64 x 31 ≤ 31 := by
  unfold bits
  simp only []
  have h : (BitVec.ofInt IntKind.i64.bits x &&& BitVec.ofInt IntKind.i64.bits 31).toNat ≤ 31 := by
    rw [BitVec.toNat_and]
    exact Nat.le_trans Nat.and_le_right (by decide)
  generalize (BitVec.ofInt IntKind.i64.bits x &&& BitVec.ofInt IntKind.i64.bits 31).toNat = n at *
  unfold IntKind.wrap
  simp [IntKind.bits, IntKind.signed]
  omega
theorem nums_at {w W : World} {a1 : Option Addr} {vs : List Int} {j : Nat} {v : Int} (h : RdN w.heap.size w a1 vs) (hj : vs[j]? = some v) (hb : Below w.heap.size w W) : ∃ b off, a1 = some ⟨b, off, none⟩ ∧ W.cell? ⟨b, off + j, none⟩ = some (.int .i64 v) := by
  obtain ⟨b, off, rfl, hc⟩ := RdR.at h hj hb
  have := hc 0 _ rfl
  rw [Nat.add_zero, Nat.mul_one] at this
  exact ⟨b, off, rfl, this⟩
set_option maxHeartbeats 6400000 in
set_option maxRecDepth 100000 in
theorem settle_ok (a : Option Addr) (cap : Nat) (l : List StepT) (hn : l.length ≤ cap ∧ cap ≤ maxLen ∧ ∀ s ∈ l, okStep s) (a1 : Option Addr) (cap1 : Nat) (vs : List Int) (hn1 : vs.length ≤ cap1 ∧ cap1 ≤ maxLen ∧ ∀ n ∈ vs, InI n) (hv30 : vs.length ≤ 30) (now : Int) (hnow : 0 ≤ now ∧ now ≤ 549755813888) (w : World) (hr : RdS w.heap.size w a l) (hr1 : RdN w.heap.size w a1 vs) : Calls Try.prog 4 #[.slice a l.length cap, .slice a1 vs.length cap1, .int .i64 now] w fun e w' => e = .returned (.bool true) ∧ Below w.heap.size w w' := by
  have hawk := awake_any w
  have hl : l.length ≤ 9223372036854775807 := by have := hn.1; have := hn.2.1; unfold maxLen at this; omega
  obtain ⟨len, hlen⟩ : ∃ len, l.length = len := ⟨_, rfl⟩
  obtain ⟨m, hm⟩ : ∃ m, vs.length = m := ⟨_, rfl⟩
  have HL := Lib.hid hlen
  have HM := Lib.hid hm
  have HR := Lib.hid hr
  have HR1 := Lib.hid hr1
  have HOK := Lib.hid hn.2.2
  have HNOW := Lib.hid hnow
  obtain ⟨g1, g2⟩ := hnow
  rw [hlen] at hl ⊢
  rw [hm] at hv30 ⊢
  have f1 : decide ((30 : Int) < (m : Int)) = false := decide_eq_false (by omega)
  have f2 : decide (now < 0) = false := decide_eq_false (by omega)
  have f3 : decide (549755813888 < now) = false := decide_eq_false (by omega)
  clear hn hn1 hr hr1 hlen hm
  go_enter Try.func4, Try.ntmps4
  go_wp2_with (first
    | (go_at_call 9; refine hawk.mono ?_; rintro e w1 ⟨rfl, hb1⟩; have HB1 := Lib.hid hb1; have hnew := pnew_own w1; clear hb1)
    | (go_at_call 10; refine hnew.mono ?_; rintro e w2 ⟨pb, rfl, hz⟩; have HP : Hid (PreL w1 pb now w2) := ⟨newN, hz, PreZ.new g1⟩; clear hz))
  go_loopw [10] (fun i wr => ∃ k : Nat, k ≤ len ∧ k ≤ 100 ∧ i = .int .i64 k ∧ Hid (PreL w1 pb now wr)) (fun i _ => len - (intOf i).toNat)
  case atStart => exact ⟨0, Nat.zero_le _, by omega, rfl, HP⟩
  case round =>
    obtain ⟨k, hk, hk2, rfl, HQ⟩ := hrel
    clear HP
    by_cases hlt : k < len ∧ k < 100
    · obtain ⟨hlt, h100⟩ := hlt
      obtain ⟨s, hs⟩ : ∃ s, l[k]? = some s := ⟨_, List.getElem?_eq_getElem (by have := HL.out; omega)⟩
      have hbw : Below w.heap.size w wr := HB1.out.trans (HQ.out.b.mono HB1.out.size)
      obtain ⟨bb, off, rfl, hc⟩ := RdR.at HR.out hs hbw
      have d0 := hc 0 _ rfl
      rw [Nat.add_zero] at d0
      have d1 := hc 1 _ rfl
      have d2 := hc 2 _ rfl
      have d3 := hc 3 _ rfl
      have d4 := hc 4 _ rfl
      have HS := Lib.hid (HOK.out s (List.mem_of_getElem? hs))
      have hbx := (Below.refl wr.heap.size wr).alloc (Nat.le_refl _) (.cells #[.int .i64 s.d, .int .i64 s.link, .int .i64 s.level, .int .i64 s.now, .bool s.none] 33)
      have DB := Lib.hid (HQ.out.below hbx)
      clear hc hs hbw hbx
      by_cases q1 : now < s.now
      · go_wp2
        go_roundw
        case rel => exact ⟨k + 1, by omega, by omega, by go_num, DB⟩
        case measure => simp [intOf]; omega
      · cases q : (s.d == 0)
        · by_cases q2 : 0 ≤ s.link
          · by_cases q3 : s.link < 100
            all_goals
              go_wp2_with (go_at_call 14; refine (pre_tick DB.out s.now (by omega)).mono ?_; rintro e w4 ⟨c4, rfl, hz4⟩; have HZ4 := Lib.hid hz4; clear hz4)
              go_roundw
            case rel => exact ⟨k + 1, by omega, by omega, by go_num, HZ4⟩
            case measure => simp [intOf]; omega
            case rel => exact ⟨k + 1, by omega, by omega, by go_num, HZ4⟩
            case measure => simp [intOf]; omega
          · go_wp2_with (go_at_call 14; refine (pre_tick DB.out s.now (by omega)).mono ?_; rintro e w4 ⟨c4, rfl, hz4⟩; have HZ4 := Lib.hid hz4; clear hz4)
            go_roundw
            case rel => exact ⟨k + 1, by omega, by omega, by go_num, HZ4⟩
            case measure => simp [intOf]; omega
        · by_cases q2 : 0 ≤ s.link
          · by_cases q3 : s.link < 100
            · by_cases q4 : 30 ≤ s.link
              · go_wp2
                go_roundw
                case rel => exact ⟨k + 1, by omega, by omega, by go_num, DB⟩
                case measure => simp [intOf]; omega
              · go_wp2_with (go_at_call 12; refine (pre_offer DB.out _ _ _ _ (by omega) (and31 _)).mono ?_; rintro e w4 ⟨c4, rfl, hz4⟩; have HZ4 := Lib.hid hz4; clear hz4)
                go_roundw
                case rel => exact ⟨k + 1, by omega, by omega, by go_num, HZ4⟩
                case measure => simp [intOf]; omega
            · go_wp2_with (go_at_call 12; refine (pre_offer DB.out _ _ _ _ (by omega) (and31 _)).mono ?_; rintro e w4 ⟨c4, rfl, hz4⟩; have HZ4 := Lib.hid hz4; clear hz4)
              go_roundw
              case rel => exact ⟨k + 1, by omega, by omega, by go_num, HZ4⟩
              case measure => simp [intOf]; omega
          · go_wp2_with (go_at_call 12; refine (pre_offer DB.out _ _ _ _ (by omega) (and31 _)).mono ?_; rintro e w4 ⟨c4, rfl, hz4⟩; have HZ4 := Lib.hid hz4; clear hz4)
            go_roundw
            case rel => exact ⟨k + 1, by omega, by omega, by go_num, HZ4⟩
            case measure => simp [intOf]; omega
    · obtain ⟨W0, rfl⟩ : ∃ W0, W0 = wr := ⟨_, rfl⟩
      have HB2 : Hid (Below w.heap.size w W0) := HB1.out.trans (HQ.out.b.mono HB1.out.size)
      by_cases hkl : len ≤ k
      · clear hlt hk
        go_wp2
        go_loopw [12, 13] (fun b i wr => ∃ j : Nat, j ≤ m ∧ b = .int .i64 (bestV (vs.take j)) ∧ i = .int .i64 j ∧ wr = W0) (fun _ i _ => m - (intOf i).toNat)
        case atStart => exact ⟨0, Nat.zero_le _, rfl, rfl, rfl⟩
        case round =>
          obtain ⟨j, hj, rfl, rfl, rfl⟩ := hrel
          obtain ⟨bv, hbv0⟩ : ∃ n, bestV (vs.take j) = n := ⟨_, rfl⟩
          have HBV := Lib.hid hbv0
          rw [hbv0]
          clear hbv0
          by_cases hjm : j < m
          · obtain ⟨v, hv⟩ : ∃ v, vs[j]? = some v := ⟨_, List.getElem?_eq_getElem (by have := HM.out; omega)⟩
            obtain ⟨b1, off1, rfl, y0⟩ := nums_at HR1.out hv HB2.out
            have hnx := bestV_next hv
            rw [HBV.out] at hnx
            have HNX := Lib.hid hnx
            clear hv hnx
            by_cases p1 : v < 1
            · have HN2 : Hid (bestV (vs.take (j + 1)) = bv) := by unfold Hid; rw [HNX.out, if_neg (fun q => by have := q.1; omega)]
              go_wp2
              go_roundw
              case rel => exact ⟨j + 1, by omega, by rw [HN2.out]; exact ⟨rfl, by simp⟩⟩
              case measure => simp [intOf]; omega
            · by_cases p2 : 24 < v
              · have HN2 : Hid (bestV (vs.take (j + 1)) = bv) := by unfold Hid; rw [HNX.out, if_neg (fun q => by have := q.2; omega)]
                go_wp2
                go_roundw
                case rel => exact ⟨j + 1, by omega, by rw [HN2.out]; exact ⟨rfl, by simp⟩⟩
                case measure => simp [intOf]; omega
              · by_cases p3 : bv < v
                · have HN2 : Hid (bestV (vs.take (j + 1)) = v) := by unfold Hid; rw [HNX.out, if_pos (show goodV v from ⟨by omega, by omega⟩)]; omega
                  go_wp2
                  go_roundw
                  case rel => exact ⟨j + 1, by omega, by rw [HN2.out]; exact ⟨rfl, by simp⟩⟩
                  case measure => simp [intOf]; omega
                · have HN2 : Hid (bestV (vs.take (j + 1)) = bv) := by unfold Hid; rw [HNX.out, if_pos (show goodV v from ⟨by omega, by omega⟩)]; omega
                  go_wp2
                  go_roundw
                  case rel => exact ⟨j + 1, by omega, by rw [HN2.out]; exact ⟨rfl, by simp⟩⟩
                  case measure => simp [intOf]; omega
          · obtain rfl : j = m := by omega
            have hbv := HBV.out
            rw [List.take_of_length_le (by rw [HM.out]; omega)] at hbv
            have HBW := Lib.hid hbv
            have b9 := bestV_in vs
            rw [hbv] at b9
            have b8 : -9223372036854775808 ≤ bv - 1 ∧ bv - 1 ≤ 9223372036854775807 := by omega
            have HRL : Hid (RelL w1 pb now vs ((0 : Nat) : Int) wr) := HQ.out.rel
            clear hbv HBV b9
            go_wp2
            go_loopw [14] (fun i wr => ∃ kk : Nat, kk ≤ 12 ∧ i = .int .i64 kk ∧ Hid (RelL w1 pb now vs kk wr)) (fun i _ => 12 - (intOf i).toNat)
            case atStart => exact ⟨0, by omega, rfl, HRL⟩
            case round =>
              obtain ⟨kk, hkk, rfl, HQ2⟩ := hrel
              obtain ⟨W3, rfl⟩ : ∃ W3, W3 = wr := ⟨_, rfl⟩
              by_cases hk12 : kk < 12
              · have hr0 := HQ2.out.rnd
                have f4 : decide ((kk : Int) < 12) = true := decide_eq_true (by omega)
                have HR0 := Lib.hid hr0
                have e9 : -9223372036854775808 ≤ now + (kk : Int) ∧ now + (kk : Int) ≤ 9223372036854775807 := by omega
                clear hr0
                go_wp2
                go_loopw [15] (fun i wr => ∃ jj : Nat, jj ≤ j ∧ i = .int .i64 jj ∧ Hid (RndL w1 pb now vs kk jj wr)) (fun i _ => j - (intOf i).toNat)
                case atStart => exact ⟨0, Nat.zero_le _, rfl, HR0⟩
                case round =>
                  obtain ⟨jj, hjj, rfl, HQ3⟩ := hrel
                  by_cases hjm : jj < j
                  · obtain ⟨v, hv⟩ : ∃ v, vs[jj]? = some v := ⟨_, List.getElem?_eq_getElem (by have := HM.out; omega)⟩
                    obtain ⟨b1, off1, rfl, y0⟩ := nums_at HR1.out hv (HB1.out.trans (HQ3.out.b.mono HB1.out.size))
                    have hof := rnd_offer HQ3.out HNOW.out (by omega) (by omega) hv
                    clear hv
                    go_wp2_with (go_at_call 12; refine hof.mono ?_; rintro e w4 ⟨c4, rfl, hz4⟩; have HZ4 := Lib.hid hz4; clear hz4)
                    go_roundw
                    case rel => exact ⟨jj + 1, by omega, by go_num, HZ4⟩
                    case measure => simp [intOf]; omega
                  · obtain rfl : jj = j := by omega
                    have h5 := HQ3.out
                    rw [← HM.out] at h5
                    have htk := rnd_tick h5 HNOW.out (by omega)
                    clear h5
                    go_wp2_with (go_at_call 14; refine htk.mono ?_; rintro e w4 ⟨c4, rfl, hz4⟩; have HZ4 := Lib.hid hz4; clear hz4)
                    go_roundw
                    case rel => exact ⟨kk + 1, by omega, by go_num, HZ4⟩
                    case measure => simp [intOf]; omega
              · obtain rfl : kk = 12 := by omega
                have hbs := end_best HQ2.out
                rw [HBW.out] at hbs
                go_wp2_with (first
                  | (go_at_call 18; refine hbs.mono ?_; rintro e w4 ⟨rfl, hz4⟩; have hlv := end_level hz4; rw [HBW.out] at hlv; have HF : Hid (Below w.heap.size w w4) := HB1.out.trans (hz4.b.mono HB1.out.size); clear hz4)
                  | (go_at_call 16; refine hlv.mono ?_; rintro e w5 ⟨rfl, hww⟩; have hww := hww.symm; subst hww))
                go_ret
                exact ⟨rfl, HF.out⟩
      · have hk100 : 100 ≤ k := by omega
        have hkl2 : k < len := by omega
        clear hkl hk2
        clear hlt hk
        go_wp2
        go_loopw [12, 13] (fun b i wr => ∃ j : Nat, j ≤ m ∧ b = .int .i64 (bestV (vs.take j)) ∧ i = .int .i64 j ∧ wr = W0) (fun _ i _ => m - (intOf i).toNat)
        case atStart => exact ⟨0, Nat.zero_le _, rfl, rfl, rfl⟩
        case round =>
          obtain ⟨j, hj, rfl, rfl, rfl⟩ := hrel
          obtain ⟨bv, hbv0⟩ : ∃ n, bestV (vs.take j) = n := ⟨_, rfl⟩
          have HBV := Lib.hid hbv0
          rw [hbv0]
          clear hbv0
          by_cases hjm : j < m
          · obtain ⟨v, hv⟩ : ∃ v, vs[j]? = some v := ⟨_, List.getElem?_eq_getElem (by have := HM.out; omega)⟩
            obtain ⟨b1, off1, rfl, y0⟩ := nums_at HR1.out hv HB2.out
            have hnx := bestV_next hv
            rw [HBV.out] at hnx
            have HNX := Lib.hid hnx
            clear hv hnx
            by_cases p1 : v < 1
            · have HN2 : Hid (bestV (vs.take (j + 1)) = bv) := by unfold Hid; rw [HNX.out, if_neg (fun q => by have := q.1; omega)]
              go_wp2
              go_roundw
              case rel => exact ⟨j + 1, by omega, by rw [HN2.out]; exact ⟨rfl, by simp⟩⟩
              case measure => simp [intOf]; omega
            · by_cases p2 : 24 < v
              · have HN2 : Hid (bestV (vs.take (j + 1)) = bv) := by unfold Hid; rw [HNX.out, if_neg (fun q => by have := q.2; omega)]
                go_wp2
                go_roundw
                case rel => exact ⟨j + 1, by omega, by rw [HN2.out]; exact ⟨rfl, by simp⟩⟩
                case measure => simp [intOf]; omega
              · by_cases p3 : bv < v
                · have HN2 : Hid (bestV (vs.take (j + 1)) = v) := by unfold Hid; rw [HNX.out, if_pos (show goodV v from ⟨by omega, by omega⟩)]; omega
                  go_wp2
                  go_roundw
                  case rel => exact ⟨j + 1, by omega, by rw [HN2.out]; exact ⟨rfl, by simp⟩⟩
                  case measure => simp [intOf]; omega
                · have HN2 : Hid (bestV (vs.take (j + 1)) = bv) := by unfold Hid; rw [HNX.out, if_pos (show goodV v from ⟨by omega, by omega⟩)]; omega
                  go_wp2
                  go_roundw
                  case rel => exact ⟨j + 1, by omega, by rw [HN2.out]; exact ⟨rfl, by simp⟩⟩
                  case measure => simp [intOf]; omega
          · obtain rfl : j = m := by omega
            have hbv := HBV.out
            rw [List.take_of_length_le (by rw [HM.out]; omega)] at hbv
            have HBW := Lib.hid hbv
            have b9 := bestV_in vs
            rw [hbv] at b9
            have b8 : -9223372036854775808 ≤ bv - 1 ∧ bv - 1 ≤ 9223372036854775807 := by omega
            have HRL : Hid (RelL w1 pb now vs ((0 : Nat) : Int) wr) := HQ.out.rel
            clear hbv HBV b9
            go_wp2
            go_loopw [14] (fun i wr => ∃ kk : Nat, kk ≤ 12 ∧ i = .int .i64 kk ∧ Hid (RelL w1 pb now vs kk wr)) (fun i _ => 12 - (intOf i).toNat)
            case atStart => exact ⟨0, by omega, rfl, HRL⟩
            case round =>
              obtain ⟨kk, hkk, rfl, HQ2⟩ := hrel
              obtain ⟨W3, rfl⟩ : ∃ W3, W3 = wr := ⟨_, rfl⟩
              by_cases hk12 : kk < 12
              · have hr0 := HQ2.out.rnd
                have f4 : decide ((kk : Int) < 12) = true := decide_eq_true (by omega)
                have HR0 := Lib.hid hr0
                have e9 : -9223372036854775808 ≤ now + (kk : Int) ∧ now + (kk : Int) ≤ 9223372036854775807 := by omega
                clear hr0
                go_wp2
                go_loopw [15] (fun i wr => ∃ jj : Nat, jj ≤ j ∧ i = .int .i64 jj ∧ Hid (RndL w1 pb now vs kk jj wr)) (fun i _ => j - (intOf i).toNat)
                case atStart => exact ⟨0, Nat.zero_le _, rfl, HR0⟩
                case round =>
                  obtain ⟨jj, hjj, rfl, HQ3⟩ := hrel
                  by_cases hjm : jj < j
                  · obtain ⟨v, hv⟩ : ∃ v, vs[jj]? = some v := ⟨_, List.getElem?_eq_getElem (by have := HM.out; omega)⟩
                    obtain ⟨b1, off1, rfl, y0⟩ := nums_at HR1.out hv (HB1.out.trans (HQ3.out.b.mono HB1.out.size))
                    have hof := rnd_offer HQ3.out HNOW.out (by omega) (by omega) hv
                    clear hv
                    go_wp2_with (go_at_call 12; refine hof.mono ?_; rintro e w4 ⟨c4, rfl, hz4⟩; have HZ4 := Lib.hid hz4; clear hz4)
                    go_roundw
                    case rel => exact ⟨jj + 1, by omega, by go_num, HZ4⟩
                    case measure => simp [intOf]; omega
                  · obtain rfl : jj = j := by omega
                    have h5 := HQ3.out
                    rw [← HM.out] at h5
                    have htk := rnd_tick h5 HNOW.out (by omega)
                    clear h5
                    go_wp2_with (go_at_call 14; refine htk.mono ?_; rintro e w4 ⟨c4, rfl, hz4⟩; have HZ4 := Lib.hid hz4; clear hz4)
                    go_roundw
                    case rel => exact ⟨kk + 1, by omega, by go_num, HZ4⟩
                    case measure => simp [intOf]; omega
              · obtain rfl : kk = 12 := by omega
                have hbs := end_best HQ2.out
                rw [HBW.out] at hbs
                go_wp2_with (first
                  | (go_at_call 18; refine hbs.mono ?_; rintro e w4 ⟨rfl, hz4⟩; have hlv := end_level hz4; rw [HBW.out] at hlv; have HF : Hid (Below w.heap.size w w4) := HB1.out.trans (hz4.b.mono HB1.out.size); clear hz4)
                  | (go_at_call 16; refine hlv.mono ?_; rintro e w5 ⟨rfl, hww⟩; have hww := hww.symm; subst hww))
                go_ret
                exact ⟨rfl, HF.out⟩
set_option maxHeartbeats 3200000 in
set_option maxRecDepth 100000 in
theorem settle_no (a : Option Addr) (len cap : Nat) (a1 : Option Addr) (m cap1 : Nat) (hm : m ≤ 9223372036854775807) (now : Int) (h : 30 < m ∨ now < 0 ∨ 549755813888 < now) (w : World) : Calls Try.prog 4 #[.slice a len cap, .slice a1 m cap1, .int .i64 now] w fun e w' => e = .returned (.bool true) ∧ Below w.heap.size w w' := by
  have hawk := awake_any w
  by_cases k0 : 30 < m
  · clear h
    go_enter Try.func4, Try.ntmps4
    go_wp2_with (first
      | (go_at_call 9; refine hawk.mono ?_; rintro e w1 ⟨rfl, hb1⟩; have HB1 := Lib.hid hb1; have hnew := pnew_own w1; clear hb1)
      | (go_at_call 10; refine hnew.mono ?_; rintro e w2 ⟨pb, rfl, hz⟩; have HZ := Lib.hid hz; clear hz))
    go_ret
    exact ⟨rfl, HB1.out.trans (HZ.out.b.mono HB1.out.size)⟩
  · by_cases k1 : now < 0
    · clear h
      go_enter Try.func4, Try.ntmps4
      go_wp2_with (first
        | (go_at_call 9; refine hawk.mono ?_; rintro e w1 ⟨rfl, hb1⟩; have HB1 := Lib.hid hb1; have hnew := pnew_own w1; clear hb1)
        | (go_at_call 10; refine hnew.mono ?_; rintro e w2 ⟨pb, rfl, hz⟩; have HZ := Lib.hid hz; clear hz))
      go_ret
      exact ⟨rfl, HB1.out.trans (HZ.out.b.mono HB1.out.size)⟩
    · have k2 : 549755813888 < now := by omega
      clear h
      go_enter Try.func4, Try.ntmps4
      go_wp2_with (first
        | (go_at_call 9; refine hawk.mono ?_; rintro e w1 ⟨rfl, hb1⟩; have HB1 := Lib.hid hb1; have hnew := pnew_own w1; clear hb1)
        | (go_at_call 10; refine hnew.mono ?_; rintro e w2 ⟨pb, rfl, hz⟩; have HZ := Lib.hid hz; clear hz))
      go_ret
      exact ⟨rfl, HB1.out.trans (HZ.out.b.mono HB1.out.size)⟩
theorem settle_walk (a : Option Addr) (cap : Nat) (l : List StepT) (hn : l.length ≤ cap ∧ cap ≤ maxLen ∧ ∀ s ∈ l, okStep s) (a1 : Option Addr) (cap1 : Nat) (vs : List Int) (hn1 : vs.length ≤ cap1 ∧ cap1 ≤ maxLen ∧ ∀ n ∈ vs, InI n) (now : Int) (_ : InI now) (w : World) (hr : RdS w.heap.size w a l) (hr1 : RdN w.heap.size w a1 vs) : Calls Try.prog 4 #[.slice a l.length cap, .slice a1 vs.length cap1, .int .i64 now] w fun e w' => e = .returned (.bool true) ∧ Below w.heap.size w w' := by
  by_cases h : vs.length ≤ 30 ∧ 0 ≤ now ∧ now ≤ 549755813888
  · exact settle_ok a cap l hn a1 cap1 vs hn1 h.1 now h.2 w hr hr1
  · exact settle_no a l.length cap a1 vs.length cap1 (by have := hn1.1; have := hn1.2.1; unfold maxLen at this; omega) now (by omega) w
end Go.Proofs.Ytfdoldefdkijoaa
