/-
  PROVED: for every uint64 u, every int n and every slice of bytes b the law VarintBack returns true: Put(u) is taken as u whatever stands behind, Zag is Zig's inverse and Zig Zag's, and what Take takes of b is Put of it. Conditions: none; every u, n, b (nil, empty, any capacity), every memory, schedule and order of evaluation.
-/
import Derived.Test.YtkjckljighploaaRowIn
import Derived.Test.YtkjckljighploaaRows
import Derived.Deep.RegionHeld
import Derived.Laws.AppendOwnNone
import Derived.WalkSmall
import Derived.Deep.QuietTactic
import Derived.BigQuiet
import Derived.WalkKit
import Derived.ProofKit
import Derived.OpenShut
import Derived.ShutString
import Derived.ChangeOld
import Derived.Below
namespace Go.Proofs.Ytkjckljighploaa.varintBack
open Go.ChangeShapes Go.WideShapes Go.ChangeAt Go.RowKit
open Go.ChangeMaps (open_string shut_string)
set_option linter.unusedVariables false

theorem own : ownKnob Try.prog.godebug = none := by kernel_rfl
theorem laidOut : laidOutB Try.prog = true := by kernel_rfl

theorem row_read {W : World} {base n1 n2 g c : Nat} {xs ys : List Int} (h : W.ownsRow base 5 1 (.slice (some ⟨g, 0, none⟩) (0 + n1 + n2) c) (0 + n1 + n2) ([] ++ xs.map (Value.int .u8) ++ ys.map (Value.int .u8))) : Rd .u8 W.heap.size W (some ⟨g, 0, none⟩) (xs ++ ys) :=
  Rd.of_own (n := 0 + n1 + n2) (cap := c) (base := base) (e := 5) (by rw [List.map_append]; exact h)
theorem row_read1 {W : World} {base n1 g c : Nat} {xs : List Int} (h : W.ownsRow base 5 1 (.slice (some ⟨g, 0, none⟩) n1 c) n1 ([] ++ xs.map (Value.int .u8))) : Rd .u8 W.heap.size W (some ⟨g, 0, none⟩) xs :=
  Rd.of_own (n := n1) (cap := c) (base := base) (e := 5) h
theorem take_put {u : Nat} (hu : u < 18446744073709551616) (zs : List Int) : takeS (putL u ++ zs) = ((u : Int), ((putL u).length : Int), 0) := by
  have l1 := putL_len10 hu
  unfold takeS
  rw [scan_put0 hu]
  simp only [Num.of_n hu, Num.of_k l1]
theorem one_int (k : IntKind) (l : List Int) : ∀ u ∈ l.map (Value.int k), u.oneCell' = true := by
  intro u hu
  obtain ⟨y, _, rfl⟩ := List.mem_map.1 hu
  rfl
theorem own_new (W : World) {B : Nat} {n c : Nat} (hB : B ≤ W.heap.size) : ∀ k, (Value.slice (some ⟨W.heap.size, 0, none⟩) n c).ownBlock = some k → B ≤ k := by
  intro k hk
  simp [Value.ownBlock] at hk
  omega

/-- What the four conversions of the law's third line answer. -/
structure Conv (u : Nat) (n : Int) (v : Nat) : Prop where
  y1 : ∀ w : World, Calls Try.prog 13 #[.int .i64 n] w fun e w' => e = .returned (.int .u64 v) ∧ w = w'
  y2 : ∀ w : World, Calls Try.prog 15 #[.int .u64 v] w fun e w' => e = .returned (.int .i64 n) ∧ w = w'
  y3 : ∀ w : World, Calls Try.prog 15 #[.int .u64 u] w fun e w' => e = .returned (.int .i64 (zagI u)) ∧ w = w'
  y4 : ∀ w : World, Calls Try.prog 13 #[.int .i64 (zagI u)] w fun e w' => e = .returned (.int .u64 u) ∧ w = w'
theorem conv_of {u : Nat} (hu : u < 18446744073709551616) {n : Int} (b1 : -9223372036854775808 ≤ n ∧ n ≤ 9223372036854775807) : ∃ v, Conv u n v := by
  obtain ⟨v, hv, hvz⟩ : ∃ v : Nat, v < 18446744073709551616 ∧ zigI n = v := by have := zig_range b1.1 b1.2; exact ⟨(zigI n).toNat, by omega, by omega⟩
  have hy1 := zig_any n b1.1 b1.2
  rw [hvz] at hy1
  have hy2 := zag_any v hv
  have hzv : zagI v = n := by rw [← hvz, zag_zig]
  rw [hzv] at hy2
  have hzr := zag_range (u := u) (by omega) (by omega)
  have hy4 := zig_any (zagI u) hzr.1 hzr.2
  rw [zig_zag (by omega)] at hy4
  exact ⟨v, hy1, hy2, zag_any u hu, hy4⟩

/-- The first bytes of a slice, as a string: those of the number that they are. -/
theorem conv_j {n₀ : Nat} {W : World} {a : Option Addr} {zs : List Int} {o j : Nat} (ht : zs.take j = putL o) (hl : (zs.take j).length = j) (h : Rd .u8 n₀ W a (zs.take j)) (cap : Nat) :
    (convert 24 9 (.slice a j cap)).run Try.prog W = .ok (.string (strOfNums (putL o))) W := by
  have := conv_rd h cap
  rwa [hl, ht] at this

theorem walk_big (u : Nat) (n : Int) (ad : Addr) (cap2 len : Nat) (w : World) (hbig : 2000 < len) (hlen : len ≤ 9223372036854775807) :
    Calls Try.prog 5 #[.int .u64 u, .int .i64 n, .slice (some ad) len cap2] w fun e w' => e = .returned (.bool true) ∧ Below w.heap.size w w' := by
  go_enter Try.func5, Try.ntmps5
  go_wp2_with (go_at_call 10; refine (awake_any _).mono ?_; rintro e W1 ⟨rfl, hb⟩; have hb' := Lib.hid hb; clear hb)
  go_ret
  exact ⟨rfl, hb'.out⟩

set_option maxHeartbeats 4000000 in
theorem walk_nil (u v : Nat) (n : Int) (w : World) (hu : u < 18446744073709551616) (cv : Conv u n v) :
    Calls Try.prog 5 #[.int .u64 u, .int .i64 n, .slice none 0 0] w fun e w' => e = .returned (.bool true) ∧ Below w.heap.size w w' := by
  have tnil : ∀ W : World, Calls Try.prog 17 #[.slice none 0 0] W fun e w' => e = .returned (.tuple #[.int .u64 0, .int .i64 0, .int .i64 2]) ∧ Below W.heap.size W w' := fun W => take_len 0 ([] : List Int) rfl (by decide) (by simp) (fun hp => absurd hp (by simp)) rfl
  have hput : takeS (putL u) = ((u : Int), ((putL u).length : Int), 0) := by have := take_put hu []; rwa [List.append_nil] at this
  have T0 : True := trivial
  have T1 : True := trivial
  have T2 : True := trivial
  have T3 : True := trivial
  have T4 : True := trivial
  obtain ⟨i0, hi, hz0, hz1, hz2⟩ := info_parts Try.info5
  have hl10 := putL_len10 hu
  have hl0 := putL_pos u
  go_enter Try.func5, Try.ntmps5
  go_wp2_with (first
    | (go_at_call 10; refine (awake_any _).mono ?_; rintro e W1 ⟨rfl, hb⟩; have hb' := Lib.hid hb; clear hb)
    | (go_at_call 11; have _t0 := T0; refine (put_any _ (by omega) _).mono ?_; rintro e W2 ⟨g, c, rfl, ho, hb2⟩; have H2 := Lib.hid (hb'.out.trans (hb2.mono hb'.out.size)); have O2 := Lib.hid ho; clear hb2 ho T0)
    | (at_builtin; have _t1 := T1; refine wpList_append_own _ rfl _ _ 24 rfl w.heap.size 5 i0 (.int .u8 0) 1 1 Try.underlying24 hi hz0 hz1 hz2 rfl (by decide) _ _ _ rfl (World.ownsRow_made W2 #[] 0 H2.out.size (Nat.zero_le _) rfl) ⟨g, 0, none⟩ (putL u).length c ((putL u).map (Value.int .u8)) rfl (by simp) ((O2.out.alloc _).cells rfl) (one_int _ _) (by unfold maxLen; omega) (by omega) (by have := H2.out.size; simp; omega) ?_; intro v3 W3 ho3 hg3 hn3; rw [Nat.zero_add] at ho3; obtain ⟨g3, c3, rfl, _, _⟩ := ho3.form (by omega); have H3 := Lib.hid ((H2.out.alloc H2.out.size _).grown hg3 (by have := H2.out.size; simp; omega) (own_new W2 H2.out.size)); have O3 := Lib.hid ho3; clear ho3 hg3 hn3 T1)
    | (at_builtin; have _t2 := T2; refine wpList_append_own_none rfl _ _ 24 rfl w.heap.size 5 i0 1 Try.underlying24 hi _ _ _ rfl O3.out rfl ?_; have R3 := Lib.hid (row_read1 O3.out); clear T2)
    | (go_at_call 17; have _t3 := T3; (with_reducible refine (take_len c3 (putL u) rfl (by omega) (putL_range u) R3.out hput).mono ?_); rintro e W5 ⟨rfl, hb5⟩; have H5 := Lib.hid (H3.out.trans (hb5.mono H3.out.size)); clear hb5 T3 R3)
    | (go_at_call 17; have _t4 := T4; (with_reducible refine (tnil _).mono ?_); rintro e W6 ⟨rfl, hb6⟩; have H6 := Lib.hid (H5.out.trans (hb6.mono H5.out.size)); clear hb6 T4)
    | (go_at_call 13; (with_reducible refine (cv.y1 _).mono ?_); rintro e w' ⟨rfl, rfl⟩)
    | (go_at_call 15; (with_reducible refine (cv.y2 _).mono ?_); rintro e w' ⟨rfl, rfl⟩)
    | (go_at_call 15; (with_reducible refine (cv.y3 _).mono ?_); rintro e w' ⟨rfl, rfl⟩)
    | (go_at_call 13; (with_reducible refine (cv.y4 _).mono ?_); rintro e w' ⟨rfl, rfl⟩))
  go_quiet (fail)
  go_wp2
  go_ret
  exact ⟨rfl, below_drewN H6.out _⟩

set_option maxHeartbeats 4000000 in
theorem walk_none (u v : Nat) (n : Int) (ad : Addr) (cap2 : Nat) (zs : List Int) (w : World) (hu : u < 18446744073709551616) (cv : Conv u n v) (hlc : zs.length ≤ cap2) (hcm : cap2 ≤ 9223372036854775807) (hbig : zs.length ≤ 2000)
    (hbz : ∀ x ∈ zs, 0 ≤ x ∧ x ≤ 255) (HR : Hid (Rd .u8 w.heap.size w (some ad) zs)) (hres : takeS zs = (0, 0, 2)) :
    Calls Try.prog 5 #[.int .u64 u, .int .i64 n, .slice (some ad) zs.length cap2] w fun e w' => e = .returned (.bool true) ∧ Below w.heap.size w w' := by
  have hbz2 : ∀ x ∈ putL u ++ zs, 0 ≤ x ∧ x ≤ 255 := fun x hx => (List.mem_append.1 hx).elim (putL_range u x) (hbz x)
  have T0 : True := trivial
  have T1 : True := trivial
  have T2 : True := trivial
  have T3 : True := trivial
  have T4 : True := trivial
  obtain ⟨i0, hi, hz0, hz1, hz2⟩ := info_parts Try.info5
  have hl10 := putL_len10 hu
  have hl0 := putL_pos u
  go_enter Try.func5, Try.ntmps5
  go_wp2_with (first
    | (go_at_call 10; refine (awake_any _).mono ?_; rintro e W1 ⟨rfl, hb⟩; have hb' := Lib.hid hb; clear hb)
    | (go_at_call 11; have _t0 := T0; refine (put_any _ (by omega) _).mono ?_; rintro e W2 ⟨g, c, rfl, ho, hb2⟩; have H2 := Lib.hid (hb'.out.trans (hb2.mono hb'.out.size)); have O2 := Lib.hid ho; clear hb2 ho T0)
    | (at_builtin; have _t1 := T1; refine wpList_append_own _ rfl _ _ 24 rfl w.heap.size 5 i0 (.int .u8 0) 1 1 Try.underlying24 hi hz0 hz1 hz2 rfl (by decide) _ _ _ rfl (World.ownsRow_made W2 #[] 0 H2.out.size (Nat.zero_le _) rfl) ⟨g, 0, none⟩ (putL u).length c ((putL u).map (Value.int .u8)) rfl (by simp) ((O2.out.alloc _).cells rfl) (one_int _ _) (by unfold maxLen; omega) (by omega) (by have := H2.out.size; simp; omega) ?_; intro v3 W3 ho3 hg3 hn3; have H3 := Lib.hid ((H2.out.alloc H2.out.size _).grown hg3 (by have := H2.out.size; simp; omega) (own_new W2 H2.out.size)); have O3 := Lib.hid ho3; clear ho3 hg3 hn3 T1)
    | (at_builtin; have _t2 := T2; refine wpList_append_own _ rfl _ _ 24 rfl w.heap.size 5 i0 (.int .u8 0) 1 1 Try.underlying24 hi hz0 hz1 hz2 rfl (by decide) _ _ _ rfl O3.out ad zs.length cap2 (zs.map (Value.int .u8)) rfl (by simp) (HR.out.below H3.out).news (one_int _ _) (by unfold maxLen; omega) (by omega) H3.out.size ?_; intro v4 W4 ho4 hg4 hn4; obtain ⟨g4, c4, rfl, _, _⟩ := ho4.form (by omega); have H4 := Lib.hid (H3.out.grown hg4 H3.out.size (fun k hk => (O3.out.lt k hk).1)); have R4 := Lib.hid (row_read ho4); clear ho4 hg4 hn4 T2)
    | (go_at_call 17; have _t3 := T3; (with_reducible refine (take_len c4 (putL u ++ zs) (List.length_append ..) (by omega) hbz2 R4.out (take_put hu zs)).mono ?_); rintro e W5 ⟨rfl, hb5⟩; have H5 := Lib.hid (H4.out.trans (hb5.mono H4.out.size)); clear hb5 T3 R4)
    | (go_at_call 17; have _t4 := T4; (with_reducible refine (take_len cap2 zs rfl (by omega) hbz ((HR.out.below H5.out).mono H5.out.size) hres).mono ?_); rintro e W6 ⟨rfl, hb6⟩; have H6 := Lib.hid (H5.out.trans (hb6.mono H5.out.size)); clear hb6 T4)
    | (go_at_call 13; (with_reducible refine (cv.y1 _).mono ?_); rintro e w' ⟨rfl, rfl⟩)
    | (go_at_call 15; (with_reducible refine (cv.y2 _).mono ?_); rintro e w' ⟨rfl, rfl⟩)
    | (go_at_call 15; (with_reducible refine (cv.y3 _).mono ?_); rintro e w' ⟨rfl, rfl⟩)
    | (go_at_call 13; (with_reducible refine (cv.y4 _).mono ?_); rintro e w' ⟨rfl, rfl⟩))
  go_quiet (fail)
  go_wp2
  go_ret
  exact ⟨rfl, below_drewN H6.out _⟩

set_option maxHeartbeats 8000000 in
theorem walk_num (u v : Nat) (n : Int) (ad : Addr) (cap2 : Nat) (zs : List Int) (w : World) (hu : u < 18446744073709551616) (cv : Conv u n v) (hlc : zs.length ≤ cap2) (hcm : cap2 ≤ 9223372036854775807) (hbig : zs.length ≤ 2000)
    (hbz : ∀ x ∈ zs, 0 ≤ x ∧ x ≤ 255) (HR : Hid (Rd .u8 w.heap.size w (some ad) zs)) (o j : Nat) (ho64 : o < 18446744073709551616) (hj0 : 0 < j) (hjl : j ≤ zs.length) (htake : zs.take j = putL o) (hres : takeS zs = ((o : Int), (j : Int), 0)) :
    Calls Try.prog 5 #[.int .u64 u, .int .i64 n, .slice (some ad) zs.length cap2] w fun e w' => e = .returned (.bool true) ∧ Below w.heap.size w w' := by
  have hbz2 : ∀ x ∈ putL u ++ zs, 0 ≤ x ∧ x ≤ 255 := fun x hx => (List.mem_append.1 hx).elim (putL_range u x) (hbz x)
  have T0 : True := trivial
  have T1 : True := trivial
  have T2 : True := trivial
  have T3 : True := trivial
  have T4 : True := trivial
  obtain ⟨i0, hi, hz0, hz1, hz2⟩ := info_parts Try.info5
  have hl10 := putL_len10 hu
  have hl0 := putL_pos u
  have htl : (zs.take j).length = j := by rw [List.length_take]; omega
  have HT := Lib.hid htake
  have hjc : (j : Int) ≤ (cap2 : Int) := by omega
  clear htake
  go_enter Try.func5, Try.ntmps5
  go_wp2_with (first
    | (go_at_call 10; refine (awake_any _).mono ?_; rintro e W1 ⟨rfl, hb⟩; have hb' := Lib.hid hb; clear hb)
    | (go_at_call 11; have _t0 := T0; refine (put_any _ (by omega) _).mono ?_; rintro e W2 ⟨g, c, rfl, ho, hb2⟩; have H2 := Lib.hid (hb'.out.trans (hb2.mono hb'.out.size)); have O2 := Lib.hid ho; clear hb2 ho T0)
    | (at_builtin; have _t1 := T1; refine wpList_append_own _ rfl _ _ 24 rfl w.heap.size 5 i0 (.int .u8 0) 1 1 Try.underlying24 hi hz0 hz1 hz2 rfl (by decide) _ _ _ rfl (World.ownsRow_made W2 #[] 0 H2.out.size (Nat.zero_le _) rfl) ⟨g, 0, none⟩ (putL u).length c ((putL u).map (Value.int .u8)) rfl (by simp) ((O2.out.alloc _).cells rfl) (one_int _ _) (by unfold maxLen; omega) (by omega) (by have := H2.out.size; simp; omega) ?_; intro v3 W3 ho3 hg3 hn3; have H3 := Lib.hid ((H2.out.alloc H2.out.size _).grown hg3 (by have := H2.out.size; simp; omega) (own_new W2 H2.out.size)); have O3 := Lib.hid ho3; clear ho3 hg3 hn3 T1)
    | (at_builtin; have _t2 := T2; refine wpList_append_own _ rfl _ _ 24 rfl w.heap.size 5 i0 (.int .u8 0) 1 1 Try.underlying24 hi hz0 hz1 hz2 rfl (by decide) _ _ _ rfl O3.out ad zs.length cap2 (zs.map (Value.int .u8)) rfl (by simp) (HR.out.below H3.out).news (one_int _ _) (by unfold maxLen; omega) (by omega) H3.out.size ?_; intro v4 W4 ho4 hg4 hn4; obtain ⟨g4, c4, rfl, _, _⟩ := ho4.form (by omega); have H4 := Lib.hid (H3.out.grown hg4 H3.out.size (fun k hk => (O3.out.lt k hk).1)); have R4 := Lib.hid (row_read ho4); clear ho4 hg4 hn4 T2)
    | (go_at_call 17; have _t3 := T3; (with_reducible refine (take_len c4 (putL u ++ zs) (List.length_append ..) (by omega) hbz2 R4.out (take_put hu zs)).mono ?_); rintro e W5 ⟨rfl, hb5⟩; have H5 := Lib.hid (H4.out.trans (hb5.mono H4.out.size)); clear hb5 T3 R4)
    | (go_at_call 17; have _t4 := T4; (with_reducible refine (take_len cap2 zs rfl (by omega) hbz ((HR.out.below H5.out).mono H5.out.size) hres).mono ?_); rintro e W6 ⟨rfl, hb6⟩; have H6 := Lib.hid (H5.out.trans (hb6.mono H5.out.size)); clear hb6 T4)
    | (go_at_call 13; (with_reducible refine (cv.y1 _).mono ?_); rintro e w' ⟨rfl, rfl⟩)
    | (go_at_call 15; (with_reducible refine (cv.y2 _).mono ?_); rintro e w' ⟨rfl, rfl⟩)
    | (go_at_call 15; (with_reducible refine (cv.y3 _).mono ?_); rintro e w' ⟨rfl, rfl⟩)
    | (go_at_call 13; (with_reducible refine (cv.y4 _).mono ?_); rintro e w' ⟨rfl, rfl⟩))
  have hcv0 := conv_j HT.out htl ((HR.out.below H6.out.drew).take j) cap2
  first
  | (go_region_held (fun _ => True) (trivial)
    (first
      | (go_at_call 11; refine (put_any _ (by omega) _).mono ?_; rintro e W7 ⟨g7, c7, rfl, ho7, hb7⟩; have hcv1 := conv_rd (Rd.of_own ho7) c7; have hcv2 := conv_j HT.out htl (((HR.out.below H6.out.drew).take j).below (hb7.mono H6.out.size)) cap2; have H7 := Lib.hid (H6.out.drew.trans (hb7.mono H6.out.size)); clear hb7 ho7)))
  | fail
  all_goals go_wp2
  all_goals go_ret
  all_goals exact ⟨rfl, H7.out⟩


theorem walk (a0 : Int) (a1 : Int) (a2 : Option Addr) (len2 cap2 : Nat) (z2 : List Int) (w : World) (w0 : (Lit.int .u64 a0).wf = true) (w1 : (Lit.int .i64 a1).wf = true) (w2 : IsRow .u8 w a2 len2 cap2 z2) :
    Calls Try.prog 5 #[.int .u64 a0, .int .i64 a1, .slice a2 len2 cap2] w fun e w' => e = .returned (.bool true) ∧ Below w.heap.size w w' := by
  have b0 : 0 ≤ a0 ∧ a0 ≤ 18446744073709551615 := by simpa [Lit.wf, IntKind.min, IntKind.max, IntKind.signed, IntKind.bits] using w0
  have b1 := wf_i64 w1
  obtain ⟨u, rfl⟩ : ∃ u : Nat, a0 = u := ⟨a0.toNat, by omega⟩
  have hu : u < 18446744073709551616 := by omega
  obtain ⟨v, cv⟩ := conv_of hu b1
  obtain ⟨zs, hl, hlc, hcm, hrd, hwf⟩ := w2.read
  have hbz : ∀ x ∈ zs, 0 ≤ x ∧ x ≤ 255 := fun x hx => wf_u8 (hwf x hx)
  rcases w2 with ⟨rfl, rfl, rfl, _⟩ | ⟨ad, rfl, _⟩
  · exact walk_nil u v a1 w hu cv
  · subst hl
    unfold maxLen at hcm
    rcases Nat.lt_or_ge 2000 zs.length with hbig | hbig
    · exact walk_big u a1 ad cap2 zs.length w hbig (by omega)
    · rcases hsc : scan 0 0 zs with _ | ⟨q, qs⟩
      · exact walk_none u v a1 ad cap2 zs w hu cv hlc (by omega) hbig hbz hrd (by unfold takeS; rw [hsc])
      · obtain ⟨hq0, hql, hqt, _⟩ := scan_first0 hbz hsc
        exact walk_num u v a1 ad cap2 zs w hu cv hlc (by omega) hbig hbz hrd q.n q.k q.hn hq0 hql hqt (by unfold takeS; rw [hsc])


set_option maxRecDepth 100000 in
theorem lifted (os : Os) (started : os.Started) (H : Type) (enc : TypeId × Value → H) :
    ReturnsInHanded {} Try.checked os 5 .any (Rows.varintBackSpec.pre6 enc Try.prog Try.f5 Rows.varintBackRow.domain false) (Rows.varintBackSpec.post enc Try.prog Try.f5 false true false false) := by
  refine returnsInHanded_of_change (C := Try.checked) own started (by kernel_rfl) Try.func5
    (ChangeSpec.witness6 (enc := enc) (C := Try.checked) false ⟨#[], #[.int .u64 0, .int .i64 0, .slice none 0 0], []⟩ 8 (by kernel_rfl) (by kernel_rfl) (by kernel_rfl) (by kernel_rfl)) ?_
  intro W base args ds gs before hval0 hW hcnd _
  have hval : ∀ (j : Nat) t v, Try.f5.params[j]? = some t → args[j]? = some v → Value.okWide Try.prog W .any base t v := hval0
  have hW' := hW
  obtain ⟨p, q, hA0, hV, rfl, hfz, hnd⟩ := hW
  have hA : DataW.TrodAll enc Try.prog W 0 (fun _ => true) true Try.f5.params.toList args.toList ds p := hA0
  rw [Try.params5] at hA hval
  obtain ⟨v0, vs0, d0, ds0, p0, q0, hargs, rfl, rfl, h0, r0⟩ := trodAll_cons hA
  obtain ⟨v1, vs1, d1, ds1, p1, q1, rfl, rfl, rfl, h1, r1⟩ := trodAll_cons r0
  obtain ⟨v2, vs2, d2, ds2, p2, q2, rfl, rfl, rfl, h2, r2⟩ := trodAll_cons r1
  obtain ⟨rfl, rfl, rfl⟩ := trodAll_nil r2
  obtain rfl : args = #[v0, v1, v2] := by cases args; simp_all
  obtain ⟨rfl, rfl⟩ := trodVars_none hV
  obtain ⟨a0, rfl, rfl, rfl, w0⟩ := open_int Try.underlying22 (hval 0 22 v0 rfl rfl) h0
  obtain ⟨a1, rfl, rfl, rfl, w1⟩ := open_int Try.underlying3 (hval 1 3 v1 rfl rfl) h1
  obtain ⟨a2, len2, cap2, rfl⟩ := okWide_slice Try.underlying24 (hval 2 24 v2 rfl rfl)
  have k2 := h2
  have lt2 : ∀ x ∈ p2, x.block < W.heap.size := by obtain ⟨m, hm⟩ := k2; exact DataW.trod_lt m _ _ _ hm
  obtain ⟨z2, w2⟩ : ∃ zs, IsRow .u8 W a2 len2 cap2 zs := by
    obtain ⟨fuel, hf⟩ := h2
    rcases open_ints Try.underlying24 Try.underlying5 (by kernel_rfl) hf with ⟨hcs, _⟩ | ⟨x, l, c, zs, hcs, _, hl, hm, hz, _, hcell, hwz⟩
    · simp [Value.cells] at hcs
      obtain ⟨rfl, rfl, rfl⟩ := hcs
      exact ⟨[], .inl ⟨rfl, rfl, rfl, rfl⟩⟩
    · simp [Value.cells] at hcs
      obtain ⟨rfl, rfl, rfl⟩ := hcs
      exact ⟨zs, .inr ⟨_, rfl, hl, hm, by simpa using hz, hcell, hwz⟩⟩
  clear hA0 hval0
  refine (walk a0 a1 a2 len2 cap2 z2 W w0 w1 w2).mono fun e W' ⟨he, bel⟩ => ?_
  subst he
  exact ⟨_, rfl, _, _, _, [], _, [], hW', trodAll_mk1 (shut_bool Try.underlying4 _), (trodAll_cons_mk (shut_int Try.underlying22 w0) (trodAll_cons_mk (shut_int Try.underlying3 w1) (trodAll_cons_mk (Below.trod laidOut (by kernel_rfl) (of_decide_eq_true (by kernel_rfl)) k2 bel lt2) trodAll_mk0))), rfl, bel.frame _, fun h => by cases h⟩

theorem over : Rows.varintBackRow.holds Try.pinned (OpenSpec.ofChange Rows.varintBackSpec) :=
  OpenClaim.holds_of_wide 5 Try.f5 rfl rfl rfl rfl rfl rfl rfl ⟨rfl, rfl, rfl, rfl, rfl⟩ rfl rfl rfl rfl rfl (by kernel_rfl) Try.func5 (by kernel_rfl)
    (of_decide_eq_true (by kernel_rfl)) (by unfold Func.isWrapper; first | (rw [if_pos (by decide +kernel)]; kernel_rfl) | (rw [if_neg (by decide +kernel)]; exact ⟨rfl, rfl⟩))
    (fun os started H enc _ => lifted os started H enc)

theorem proved : Rows.VarintBackSaid := over
#print axioms proved
end Go.Proofs.Ytkjckljighploaa.varintBack
