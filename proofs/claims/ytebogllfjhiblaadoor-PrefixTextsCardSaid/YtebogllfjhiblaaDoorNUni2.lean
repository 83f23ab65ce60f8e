/-
  PREFIXES: the two halves of a larger one: what the program answers.
-/
import Derived.Test.YtebogllfjhiblaaDoorNUnion
namespace Go.Proofs.YtebogllfjhiblaaDoor
set_option linter.unusedVariables false
open Go.RowKit
/-- Where union stands behind its boxes. -/
theorem union_start (w : World) (a b c d : Value) : ∀ w1, Below (((w.alloc (.cells #[a, b] 24)).alloc (.cells #[c, d] 24)).alloc (.cells #[.int .u32 0, .int .i64 0] 24)).heap.size (((w.alloc (.cells #[a, b] 24)).alloc (.cells #[c, d] 24)).alloc (.cells #[.int .u32 0, .int .i64 0] 24)) w1 →
    Bx w1 w.heap.size a b ∧ Bx w1 (w.heap.size + 1) c d ∧ Bx w1 (w.heap.size + 1 + 1) (.int .u32 0) (.int .i64 0) ∧ Below w.heap.size w w1 ∧ w.heap.size + 3 ≤ w1.heap.size := by
  intro w1 hb
  have b0 := ((Bx.new w a b).alloc (.cells #[c, d] 24)).alloc (.cells #[.int .u32 0, .int .i64 0] 24)
  have b1 := (Bx.new (w.alloc (.cells #[a, b] 24)) c d).alloc (.cells #[.int .u32 0, .int .i64 0] 24)
  have b2 := Bx.new ((w.alloc (.cells #[a, b] 24)).alloc (.cells #[c, d] 24)) (.int .u32 0) (.int .i64 0)
  have k0 := b0.keep hb b0.lt
  have k1 := b1.keep hb b1.lt
  have k2 := b2.keep hb b2.lt
  have hs := hb.size
  simp only [World.size_alloc] at k1 k2
  exact ⟨k0, k1, k2, boxes2.trans (hb.mono (by simp; omega)), by simpa [Nat.add_assoc] using hs⟩
theorem union_end {w w1 : World} (h : Below w.heap.size w w1) (x y : Value) (o : Obj) : Below w.heap.size w (((w1.setCell ⟨w.heap.size + 1 + 1, 0, none⟩ x).setCell ⟨w.heap.size + 1 + 1, 1, none⟩ y).alloc o) :=
  (((h.setCell (p := ⟨w.heap.size + 1 + 1, 0, none⟩) (by show w.heap.size ≤ w.heap.size + 1 + 1; omega) x).setCell (p := ⟨w.heap.size + 1 + 1, 1, none⟩) (by show w.heap.size ≤ w.heap.size + 1 + 1; omega) y)).alloc (by have := h.size; simpa using this) o
set_option maxHeartbeats 1600000 in
set_option maxRecDepth 100000 in
theorem union_a (n : Nat) (hn : n < 4294967296) (b : Int) (h0 : 0 ≤ b) (h1 : b ≤ 32) (m : Nat) (hm : m < 4294967296) (c : Int) (h : rightB (b - 1) = false) (w : World) :
    Calls Tryd.prog 49 #[.agg #[.int .u32 n, .int .i64 b], .agg #[.int .u32 m, .int .i64 c]] w fun e w' => e = .returned (.tuple #[.agg #[.int .u32 0, .int .i64 0], .bool false]) ∧ Below w.heap.size w w' := by
  have hc := cut_no n (b - 1) h
  clear h
  go_enter Tryd.func49, Tryd.ntmps49
  go_wp2_with (first
    | (go_at_call 18; refine (hc _).mono ?_; rintro e w1 ⟨rfl, hb1⟩; have st := union_start w (.int .u32 n) (.int .i64 b) (.int .u32 m) (.int .i64 c) _ hb1; obtain ⟨c00, c01, _, _⟩ := st.1.cells; obtain ⟨c10, c11, _, _⟩ := st.2.1.cells; obtain ⟨c20, c21, f20, f21⟩ := st.2.2.1.cells; have z2 : w.heap.size + 1 + 1 < w1.heap.size := (by have := st.2.2.2.2; omega); have z1 : w.heap.size + 1 < w1.heap.size := (by omega); have z0 : w.heap.size < w1.heap.size := (by omega); have ST := Lib.hid st; clear hb1 st))
  exact bodyPost_ret (results_bx rfl rfl ((ST.out.2.2.1.set _ _).alloc _)) rfl ⟨rfl, union_end ST.out.2.2.2.1 _ _ _⟩
set_option maxHeartbeats 1600000 in
set_option maxRecDepth 100000 in
theorem union_b (n : Nat) (hn : n < 4294967296) (b : Int) (h0 : 0 ≤ b) (h1 : b ≤ 32) (m : Nat) (hm : m < 4294967296) (c : Int) (h : rightB (b - 1) = true) (hne : (n = m ∧ b = c) ∨ ¬ b = c) (w : World) :
    Calls Tryd.prog 49 #[.agg #[.int .u32 n, .int .i64 b], .agg #[.int .u32 m, .int .i64 c]] w fun e w' => e = .returned (.tuple #[.agg #[.int .u32 0, .int .i64 0], .bool false]) ∧ Below w.heap.size w w' := by
  have hc := cut_ok n hn (b - 1) h
  generalize (cutP n (b - 1)).1 = K at *
  clear h
  rcases hne with ⟨rfl, rfl⟩ | hne
  · go_enter Tryd.func49, Tryd.ntmps49
    go_wp2_with (first
      | (go_at_call 18; refine (hc _).mono ?_; rintro e w1 ⟨rfl, hb1⟩; have st := union_start w (.int .u32 n) (.int .i64 b) (.int .u32 n) (.int .i64 b) _ hb1; obtain ⟨c00, c01, _, _⟩ := st.1.cells; obtain ⟨c10, c11, _, _⟩ := st.2.1.cells; obtain ⟨c20, c21, f20, f21⟩ := st.2.2.1.cells; have z2 : w.heap.size + 1 + 1 < w1.heap.size := (by have := st.2.2.2.2; omega); have z1 : w.heap.size + 1 < w1.heap.size := (by omega); have z0 : w.heap.size < w1.heap.size := (by omega); have ST := Lib.hid st; clear hb1 st))
    exact bodyPost_ret (results_bx rfl rfl ((ST.out.2.2.1.set _ _).alloc _)) rfl ⟨rfl, union_end ST.out.2.2.2.1 _ _ _⟩

  · go_enter Tryd.func49, Tryd.ntmps49
    go_wp2_with (first
      | (go_at_call 18; refine (hc _).mono ?_; rintro e w1 ⟨rfl, hb1⟩; have st := union_start w (.int .u32 n) (.int .i64 b) (.int .u32 m) (.int .i64 c) _ hb1; obtain ⟨c00, c01, _, _⟩ := st.1.cells; obtain ⟨c10, c11, _, _⟩ := st.2.1.cells; obtain ⟨c20, c21, f20, f21⟩ := st.2.2.1.cells; have z2 : w.heap.size + 1 + 1 < w1.heap.size := (by have := st.2.2.2.2; omega); have z1 : w.heap.size + 1 < w1.heap.size := (by omega); have z0 : w.heap.size < w1.heap.size := (by omega); have ST := Lib.hid st; clear hb1 st))
    all_goals exact bodyPost_ret (results_bx rfl rfl ((ST.out.2.2.1.set _ _).alloc _)) rfl ⟨rfl, union_end ST.out.2.2.2.1 _ _ _⟩
set_option maxHeartbeats 1600000 in
set_option maxRecDepth 100000 in
theorem union_c (n : Nat) (hn : n < 4294967296) (b : Int) (h0 : 0 ≤ b) (h1 : b ≤ 32) (m : Nat) (hm : m < 4294967296) (c : Int) (h : rightB (b - 1) = true) (hbc : b = c) (hne : ¬ n = m) (hv : coversP (cutP n (b - 1)) (m, c) = false) (w : World) :
    Calls Tryd.prog 49 #[.agg #[.int .u32 n, .int .i64 b], .agg #[.int .u32 m, .int .i64 c]] w fun e w' => e = .returned (.tuple #[.agg #[.int .u32 0, .int .i64 0], .bool false]) ∧ Below w.heap.size w w' := by
  subst hbc
  have hc := cut_ok n hn (b - 1) h
  have hcv := covers_any (cutP n (b - 1)).1 (cutP_lt hn _) (b - 1) m hm b
  rw [show ((cutP n (b - 1)).1, b - 1) = cutP n (b - 1) from rfl, hv] at hcv
  generalize (cutP n (b - 1)).1 = K at *
  clear h hv
  go_enter Tryd.func49, Tryd.ntmps49
  go_wp2_with (first
    | (go_at_call 18; refine (hc _).mono ?_; rintro e w1 ⟨rfl, hb1⟩; have st := union_start w (.int .u32 n) (.int .i64 b) (.int .u32 m) (.int .i64 b) _ hb1; obtain ⟨c00, c01, _, _⟩ := st.1.cells; obtain ⟨c10, c11, _, _⟩ := st.2.1.cells; obtain ⟨c20, c21, f20, f21⟩ := st.2.2.1.cells; have z2 : w.heap.size + 1 + 1 < w1.heap.size := (by have := st.2.2.2.2; omega); have z1 : w.heap.size + 1 < w1.heap.size := (by omega); have z0 : w.heap.size < w1.heap.size := (by omega); have ST := Lib.hid st; clear hb1 st)
    | (go_at_call 22; refine (hcv _).mono ?_; rintro e w2 ⟨rfl, hb2⟩; have k2 := ((ST.out.2.2.1.alloc (.cells #[.int .u32 K, .int .i64 (b - 1)] 24)).keep hb2 (by simp; omega)); have kn := (Bx.new w1 (.int .u32 K) (.int .i64 (b - 1))).keep hb2 (by simp); obtain ⟨e20, e21, g20, g21⟩ := k2.cells; obtain ⟨en0, en1, _, _⟩ := kn.cells; have BX2 := Lib.hid k2; have HB2 := Lib.hid ((ST.out.2.2.2.1.alloc (by omega) (.cells #[.int .u32 K, .int .i64 (b - 1)] 24)).trans (hb2.mono (by simp; omega))); clear hb2 k2 kn))
  exact bodyPost_ret (results_bx rfl rfl (BX2.out.set _ _)) rfl ⟨rfl, (HB2.out.setCell (p := ⟨w.heap.size + 1 + 1, 0, none⟩) (by show w.heap.size ≤ w.heap.size + 1 + 1; omega) _).setCell (p := ⟨w.heap.size + 1 + 1, 1, none⟩) (by show w.heap.size ≤ w.heap.size + 1 + 1; omega) _⟩
set_option maxHeartbeats 1600000 in
set_option maxRecDepth 100000 in
theorem union_d (n : Nat) (hn : n < 4294967296) (b : Int) (h0 : 0 ≤ b) (h1 : b ≤ 32) (m : Nat) (hm : m < 4294967296) (c : Int) (h : rightB (b - 1) = true) (hbc : b = c) (hne : ¬ n = m) (hv : coversP (cutP n (b - 1)) (m, c) = true) (w : World) :
    Calls Tryd.prog 49 #[.agg #[.int .u32 n, .int .i64 b], .agg #[.int .u32 m, .int .i64 c]] w fun e w' => e = .returned (.tuple #[.agg #[.int .u32 (cutP n (b - 1)).1, .int .i64 (b - 1)], .bool true]) ∧ Below w.heap.size w w' := by
  subst hbc
  have hc := cut_ok n hn (b - 1) h
  have hcv := covers_any (cutP n (b - 1)).1 (cutP_lt hn _) (b - 1) m hm b
  rw [show ((cutP n (b - 1)).1, b - 1) = cutP n (b - 1) from rfl, hv] at hcv
  generalize (cutP n (b - 1)).1 = K at *
  clear h hv
  go_enter Tryd.func49, Tryd.ntmps49
  go_wp2_with (first
    | (go_at_call 18; refine (hc _).mono ?_; rintro e w1 ⟨rfl, hb1⟩; have st := union_start w (.int .u32 n) (.int .i64 b) (.int .u32 m) (.int .i64 b) _ hb1; obtain ⟨c00, c01, _, _⟩ := st.1.cells; obtain ⟨c10, c11, _, _⟩ := st.2.1.cells; obtain ⟨c20, c21, f20, f21⟩ := st.2.2.1.cells; have z2 : w.heap.size + 1 + 1 < w1.heap.size := (by have := st.2.2.2.2; omega); have z1 : w.heap.size + 1 < w1.heap.size := (by omega); have z0 : w.heap.size < w1.heap.size := (by omega); have ST := Lib.hid st; clear hb1 st)
    | (go_at_call 22; refine (hcv _).mono ?_; rintro e w2 ⟨rfl, hb2⟩; have k2 := ((ST.out.2.2.1.alloc (.cells #[.int .u32 K, .int .i64 (b - 1)] 24)).keep hb2 (by simp; omega)); have kn := (Bx.new w1 (.int .u32 K) (.int .i64 (b - 1))).keep hb2 (by simp); obtain ⟨e20, e21, g20, g21⟩ := k2.cells; obtain ⟨en0, en1, _, _⟩ := kn.cells; have BX2 := Lib.hid k2; have HB2 := Lib.hid ((ST.out.2.2.2.1.alloc (by omega) (.cells #[.int .u32 K, .int .i64 (b - 1)] 24)).trans (hb2.mono (by simp; omega))); clear hb2 k2 kn))
  exact bodyPost_ret (results_bx rfl rfl (BX2.out.set _ _)) rfl ⟨rfl, (HB2.out.setCell (p := ⟨w.heap.size + 1 + 1, 0, none⟩) (by show w.heap.size ≤ w.heap.size + 1 + 1; omega) _).setCell (p := ⟨w.heap.size + 1 + 1, 1, none⟩) (by show w.heap.size ≤ w.heap.size + 1 + 1; omega) _⟩
theorem bits_of {b : Int} (h : rightB b = true) : 0 ≤ b ∧ b ≤ 32 := by unfold rightB at h; exact of_decide_eq_true h
theorem union_no (n : Nat) (hn : n < 4294967296) (b : Int) (hb : rightB b = true) (m : Nat) (hm : m < 4294967296) (c : Int) (h : unionP (n, b) (m, c) = none) (w : World) :
    Calls Tryd.prog 49 #[.agg #[.int .u32 n, .int .i64 b], .agg #[.int .u32 m, .int .i64 c]] w fun e w' => e = .returned (.tuple #[.agg #[.int .u32 0, .int .i64 0], .bool false]) ∧ Below w.heap.size w w' := by
  have h01 := bits_of hb
  unfold unionP at h
  by_cases h1 : rightB (b - 1) = true
  · by_cases hbc : b = c
    · by_cases hnm : n = m
      · exact union_b n hn b h01.1 h01.2 m hm c h1 (.inl ⟨hnm, hbc⟩) w
      · cases hv : coversP (cutP n (b - 1)) (m, c)
        · exact union_c n hn b h01.1 h01.2 m hm c h1 hbc hnm hv w
        · rw [if_pos ⟨h1, fun e => hnm (by injection e), hbc, hv⟩] at h
          cases h
    · exact union_b n hn b h01.1 h01.2 m hm c h1 (.inr hbc) w
  · exact union_a n hn b h01.1 h01.2 m hm c (by simpa using h1) w
theorem union_yes (n : Nat) (hn : n < 4294967296) (b : Int) (hb : rightB b = true) (m : Nat) (hm : m < 4294967296) (c : Int) (k : Nat) (d : Int) (h : unionP (n, b) (m, c) = some (k, d)) (w : World) :
    Calls Tryd.prog 49 #[.agg #[.int .u32 n, .int .i64 b], .agg #[.int .u32 m, .int .i64 c]] w fun e w' => e = .returned (.tuple #[.agg #[.int .u32 k, .int .i64 d], .bool true]) ∧ Below w.heap.size w w' := by
  have h01 := bits_of hb
  unfold unionP at h
  split at h
  · rename_i hh
    obtain ⟨h1, hne, hbc, hv⟩ := hh
    have e : cutP n (b - 1) = (k, d) := by injection h
    have e1 : (cutP n (b - 1)).1 = k := by rw [e]
    have e2 : b - 1 = d := by have := congrArg Prod.snd e; exact this
    subst e1 e2
    exact union_d n hn b h01.1 h01.2 m hm c h1 hbc (fun e => hne (by rw [e, show b = c from hbc])) hv w
  · cases h
theorem unionP_ok {p q r : Nat × Int} (hp : p.1 < 4294967296) (h : unionP p q = some r) : r.1 < 4294967296 ∧ rightB r.2 = true := by
  unfold unionP at h
  split at h
  · rename_i hh
    injection h with h
    subst h
    exact ⟨cutP_lt hp _, hh.1⟩
  · cases h
end Go.Proofs.YtebogllfjhiblaaDoor
