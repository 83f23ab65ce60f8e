/-
  TiedbAges: the walk.
-/
import Derived.Test.YtpaifkfpgoojiaaVAwk
namespace Go.Proofs.Ytpaifkfpgoojiaa.ti
set_option linter.unusedSimpArgs false
set_option linter.unusedVariables false
open Go.RowKit
theorem put_one {t : TiV} {now : Int} (h : rightV t = true) (hm : momD now) : putD 3 [] t now = (1, 0, [enD t now]) := by
  unfold putD
  rw [if_neg (fun q => q ⟨h, hm⟩), show findD [] t.hd.id = none from rfl]
  rfl
theorem put_bad {t : TiV} {now : Int} (h : rightV t = false) : putD 3 [] t now = (0, 1, []) := by
  unfold putD
  rw [if_pos (fun q => by rw [h] at q; cases q.1)]
theorem find_one (t : TiV) (now : Int) : findD [enD t now] t.hd.id = some (enD t now) := by
  unfold findD enD EnT.id
  simp
theorem get_yes {t : TiV} {now later : Int} (h : momD (now + later)) (q : later < t.hd.life) : getD [enD t now] t.hd.id (now + later) = (toldD (enD t now) (now + later), true) := by
  rw [findD_got (find_one t now), if_pos ⟨h, by unfold enD; dsimp only; omega⟩]
theorem get_no {t : TiV} {now later : Int} (q : ¬ later < t.hd.life) : getD [enD t now] t.hd.id (now + later) = (TiV.nil, false) := by
  rw [findD_got (find_one t now), if_neg (fun z => by have := z.2; unfold enD at this; dsimp only at this; omega)]
theorem age_yes {t : TiV} {now later : Int} (h : momD (now + later)) (q : later < t.hd.life) : ageD [enD t now] (now + later) = ([], [enD t now]) := by
  unfold ageD overD keptD
  rw [if_pos h]
  have : decide ((enD t now).exp ≤ now + later) = false := decide_eq_false (by unfold enD; dsimp only; omega)
  simp [this]
theorem age_no {t : TiV} {now later : Int} (h : momD (now + later)) (q : ¬ later < t.hd.life) : ageD [enD t now] (now + later) = ([t.hd.id], []) := by
  unfold ageD overD keptD
  rw [if_pos h]
  have : decide ((enD t now).exp ≤ now + later) = true := decide_eq_true (by unfold enD; dsimp only; omega)
  simp [this]
  rfl
set_option maxHeartbeats 3200000 in
set_option maxRecDepth 100000 in
theorem ages_long (t : TiV) (s : Sl2) (now later : Int) (w : World) (hin : In2 w t s) (hlong : 100 < t.es.length ∨ 100 < t.rs.length) : Calls Try.prog 5 #[aggV t s, .int .i64 now, .int .i64 later] w fun e w' => e = .returned (.bool true) ∧ Below w.heap.size w w' := by
  have hd : decide (100 < t.es.length ∨ 100 < t.rs.length) = true := decide_eq_true hlong
  clear hlong
  have hw := awake_any
  have hn := fun W => dnew_any 3 (by omega) W
  have hlo := long_any 0 0 t s
  have HA0 : Hid (Arr (w.alloc (.cells #[.int .i64 t.hd.id.d, .int .i64 t.hd.id.o, .int .i64 t.hd.id.k, .int .i64 t.hd.id.n, .int .i64 t.hd.seq, .int .i64 t.hd.life, .int .i64 t.level, .bool t.over, .slice s.ea t.es.length s.ec, .slice s.ra t.rs.length s.rc] 39)) w.heap.size 39 [.int .i64 t.hd.id.d, .int .i64 t.hd.id.o, .int .i64 t.hd.id.k, .int .i64 t.hd.id.n, .int .i64 t.hd.seq, .int .i64 t.hd.life, .int .i64 t.level, .bool t.over, .slice s.ea t.es.length s.ec, .slice s.ra t.rs.length s.rc]) := Arr.new w _ _
  have HB0 : Hid (Below w.heap.size w (w.alloc (.cells #[.int .i64 t.hd.id.d, .int .i64 t.hd.id.o, .int .i64 t.hd.id.k, .int .i64 t.hd.id.n, .int .i64 t.hd.seq, .int .i64 t.hd.life, .int .i64 t.level, .bool t.over, .slice s.ea t.es.length s.ec, .slice s.ra t.rs.length s.rc] 39))) := (Below.refl _ _).alloc (Nat.le_refl _) _
  have HS0 : Hid (w.heap.size < (w.alloc (.cells #[.int .i64 t.hd.id.d, .int .i64 t.hd.id.o, .int .i64 t.hd.id.k, .int .i64 t.hd.id.n, .int .i64 t.hd.seq, .int .i64 t.hd.life, .int .i64 t.level, .bool t.over, .slice s.ea t.es.length s.ec, .slice s.ra t.rs.length s.rc] 39)).heap.size) := by unfold Hid; simp
  have HI := Lib.hid hin
  clear hin
  unfold aggV
  go_enter Try.func5, Try.ntmps5
  go_wp2_with (first
    | (go_at_call 6; refine (hw _).mono ?_; rintro e w1 ⟨rfl, hb⟩; have HA := Lib.hid (HA0.out.below hb HS0.out); have HB := Lib.hid (HB0.out.trans (hb.mono (Nat.le_of_lt HS0.out))); have HS := Lib.hid (Nat.lt_of_lt_of_le HS0.out hb.size); clear hb)
    | (go_at_call 7; refine (hn _).mono ?_; rintro e w2 ⟨rfl, hp, hb⟩; have HA9 := HA; have HB9 := HB; have HS9 := HS; clear HA HB HS; have HA := Lib.hid (HA9.out.below hb HS9.out); have HB := Lib.hid (HB9.out.trans (hb.mono (Nat.le_of_lt HS9.out))); have HS := Lib.hid (Nat.lt_of_lt_of_le HS9.out hb.size); have HP := Lib.hid hp; have c0 : w2.cell? ⟨w.heap.size, 0, none⟩ = some (.int .i64 t.hd.id.d) := HA.out.cell 0; have c1 : w2.cell? ⟨w.heap.size, 1, none⟩ = some (.int .i64 t.hd.id.o) := HA.out.cell 1; have c2 : w2.cell? ⟨w.heap.size, 2, none⟩ = some (.int .i64 t.hd.id.k) := HA.out.cell 2; have c3 : w2.cell? ⟨w.heap.size, 3, none⟩ = some (.int .i64 t.hd.id.n) := HA.out.cell 3; have c4 : w2.cell? ⟨w.heap.size, 4, none⟩ = some (.int .i64 t.hd.seq) := HA.out.cell 4; have c5 : w2.cell? ⟨w.heap.size, 5, none⟩ = some (.int .i64 t.hd.life) := HA.out.cell 5; have c6 : w2.cell? ⟨w.heap.size, 6, none⟩ = some (.int .i64 t.level) := HA.out.cell 6; have c7 : w2.cell? ⟨w.heap.size, 7, none⟩ = some (.bool t.over) := HA.out.cell 7; have c8 : w2.cell? ⟨w.heap.size, 8, none⟩ = some (.slice s.ea t.es.length s.ec) := HA.out.cell 8; have c9 : w2.cell? ⟨w.heap.size, 9, none⟩ = some (.slice s.ra t.rs.length s.rc) := HA.out.cell 9; clear HA9 HB9 HS9 hb hp)
    | (go_at_call 9; refine (hlo _).mono ?_; rw [hd]; rintro e w3 ⟨rfl, hb⟩; have HA9 := HA; have HB9 := HB; have HS9 := HS; clear HA HB HS; have HA := Lib.hid (HA9.out.below hb HS9.out); have HB := Lib.hid (HB9.out.trans (hb.mono (Nat.le_of_lt HS9.out))); have HS := Lib.hid (Nat.lt_of_lt_of_le HS9.out hb.size); have HP9 := HP; clear HP; have HP := Lib.hid (HP9.out.below hb); clear c0 c1 c2 c3 c4 c5 c6 c7 c8 c9; have c0 : w3.cell? ⟨w.heap.size, 0, none⟩ = some (.int .i64 t.hd.id.d) := HA.out.cell 0; have c1 : w3.cell? ⟨w.heap.size, 1, none⟩ = some (.int .i64 t.hd.id.o) := HA.out.cell 1; have c2 : w3.cell? ⟨w.heap.size, 2, none⟩ = some (.int .i64 t.hd.id.k) := HA.out.cell 2; have c3 : w3.cell? ⟨w.heap.size, 3, none⟩ = some (.int .i64 t.hd.id.n) := HA.out.cell 3; have c4 : w3.cell? ⟨w.heap.size, 4, none⟩ = some (.int .i64 t.hd.seq) := HA.out.cell 4; have c5 : w3.cell? ⟨w.heap.size, 5, none⟩ = some (.int .i64 t.hd.life) := HA.out.cell 5; have c6 : w3.cell? ⟨w.heap.size, 6, none⟩ = some (.int .i64 t.level) := HA.out.cell 6; have c7 : w3.cell? ⟨w.heap.size, 7, none⟩ = some (.bool t.over) := HA.out.cell 7; have c8 : w3.cell? ⟨w.heap.size, 8, none⟩ = some (.slice s.ea t.es.length s.ec) := HA.out.cell 8; have c9 : w3.cell? ⟨w.heap.size, 9, none⟩ = some (.slice s.ra t.rs.length s.rc) := HA.out.cell 9; clear HA9 HB9 HS9 HP9 hb))
  go_ret
  exact ⟨rfl, HB.out⟩
set_option maxHeartbeats 3200000 in
set_option maxRecDepth 100000 in
theorem ages_b1 (t : TiV) (s : Sl2) (now later : Int) (w : World) (hin : In2 w t s) (hlong : ¬ (100 < t.es.length ∨ 100 < t.rs.length)) (h1 : now < 0) : Calls Try.prog 5 #[aggV t s, .int .i64 now, .int .i64 later] w fun e w' => e = .returned (.bool true) ∧ Below w.heap.size w w' := by
  have hd : decide (100 < t.es.length ∨ 100 < t.rs.length) = false := decide_eq_false hlong
  clear hlong
  have hw := awake_any
  have hn := fun W => dnew_any 3 (by omega) W
  have hlo := long_any 0 0 t s
  have HA0 : Hid (Arr (w.alloc (.cells #[.int .i64 t.hd.id.d, .int .i64 t.hd.id.o, .int .i64 t.hd.id.k, .int .i64 t.hd.id.n, .int .i64 t.hd.seq, .int .i64 t.hd.life, .int .i64 t.level, .bool t.over, .slice s.ea t.es.length s.ec, .slice s.ra t.rs.length s.rc] 39)) w.heap.size 39 [.int .i64 t.hd.id.d, .int .i64 t.hd.id.o, .int .i64 t.hd.id.k, .int .i64 t.hd.id.n, .int .i64 t.hd.seq, .int .i64 t.hd.life, .int .i64 t.level, .bool t.over, .slice s.ea t.es.length s.ec, .slice s.ra t.rs.length s.rc]) := Arr.new w _ _
  have HB0 : Hid (Below w.heap.size w (w.alloc (.cells #[.int .i64 t.hd.id.d, .int .i64 t.hd.id.o, .int .i64 t.hd.id.k, .int .i64 t.hd.id.n, .int .i64 t.hd.seq, .int .i64 t.hd.life, .int .i64 t.level, .bool t.over, .slice s.ea t.es.length s.ec, .slice s.ra t.rs.length s.rc] 39))) := (Below.refl _ _).alloc (Nat.le_refl _) _
  have HS0 : Hid (w.heap.size < (w.alloc (.cells #[.int .i64 t.hd.id.d, .int .i64 t.hd.id.o, .int .i64 t.hd.id.k, .int .i64 t.hd.id.n, .int .i64 t.hd.seq, .int .i64 t.hd.life, .int .i64 t.level, .bool t.over, .slice s.ea t.es.length s.ec, .slice s.ra t.rs.length s.rc] 39)).heap.size) := by unfold Hid; simp
  have HI := Lib.hid hin
  clear hin
  unfold aggV
  go_enter Try.func5, Try.ntmps5
  go_wp2_with (first
    | (go_at_call 6; refine (hw _).mono ?_; rintro e w1 ⟨rfl, hb⟩; have HA := Lib.hid (HA0.out.below hb HS0.out); have HB := Lib.hid (HB0.out.trans (hb.mono (Nat.le_of_lt HS0.out))); have HS := Lib.hid (Nat.lt_of_lt_of_le HS0.out hb.size); clear hb)
    | (go_at_call 7; refine (hn _).mono ?_; rintro e w2 ⟨rfl, hp, hb⟩; have HA9 := HA; have HB9 := HB; have HS9 := HS; clear HA HB HS; have HA := Lib.hid (HA9.out.below hb HS9.out); have HB := Lib.hid (HB9.out.trans (hb.mono (Nat.le_of_lt HS9.out))); have HS := Lib.hid (Nat.lt_of_lt_of_le HS9.out hb.size); have HP := Lib.hid hp; have c0 : w2.cell? ⟨w.heap.size, 0, none⟩ = some (.int .i64 t.hd.id.d) := HA.out.cell 0; have c1 : w2.cell? ⟨w.heap.size, 1, none⟩ = some (.int .i64 t.hd.id.o) := HA.out.cell 1; have c2 : w2.cell? ⟨w.heap.size, 2, none⟩ = some (.int .i64 t.hd.id.k) := HA.out.cell 2; have c3 : w2.cell? ⟨w.heap.size, 3, none⟩ = some (.int .i64 t.hd.id.n) := HA.out.cell 3; have c4 : w2.cell? ⟨w.heap.size, 4, none⟩ = some (.int .i64 t.hd.seq) := HA.out.cell 4; have c5 : w2.cell? ⟨w.heap.size, 5, none⟩ = some (.int .i64 t.hd.life) := HA.out.cell 5; have c6 : w2.cell? ⟨w.heap.size, 6, none⟩ = some (.int .i64 t.level) := HA.out.cell 6; have c7 : w2.cell? ⟨w.heap.size, 7, none⟩ = some (.bool t.over) := HA.out.cell 7; have c8 : w2.cell? ⟨w.heap.size, 8, none⟩ = some (.slice s.ea t.es.length s.ec) := HA.out.cell 8; have c9 : w2.cell? ⟨w.heap.size, 9, none⟩ = some (.slice s.ra t.rs.length s.rc) := HA.out.cell 9; clear HA9 HB9 HS9 hb hp)
    | (go_at_call 9; refine (hlo _).mono ?_; rw [hd]; rintro e w3 ⟨rfl, hb⟩; have HA9 := HA; have HB9 := HB; have HS9 := HS; clear HA HB HS; have HA := Lib.hid (HA9.out.below hb HS9.out); have HB := Lib.hid (HB9.out.trans (hb.mono (Nat.le_of_lt HS9.out))); have HS := Lib.hid (Nat.lt_of_lt_of_le HS9.out hb.size); have HP9 := HP; clear HP; have HP := Lib.hid (HP9.out.below hb); clear c0 c1 c2 c3 c4 c5 c6 c7 c8 c9; have c0 : w3.cell? ⟨w.heap.size, 0, none⟩ = some (.int .i64 t.hd.id.d) := HA.out.cell 0; have c1 : w3.cell? ⟨w.heap.size, 1, none⟩ = some (.int .i64 t.hd.id.o) := HA.out.cell 1; have c2 : w3.cell? ⟨w.heap.size, 2, none⟩ = some (.int .i64 t.hd.id.k) := HA.out.cell 2; have c3 : w3.cell? ⟨w.heap.size, 3, none⟩ = some (.int .i64 t.hd.id.n) := HA.out.cell 3; have c4 : w3.cell? ⟨w.heap.size, 4, none⟩ = some (.int .i64 t.hd.seq) := HA.out.cell 4; have c5 : w3.cell? ⟨w.heap.size, 5, none⟩ = some (.int .i64 t.hd.life) := HA.out.cell 5; have c6 : w3.cell? ⟨w.heap.size, 6, none⟩ = some (.int .i64 t.level) := HA.out.cell 6; have c7 : w3.cell? ⟨w.heap.size, 7, none⟩ = some (.bool t.over) := HA.out.cell 7; have c8 : w3.cell? ⟨w.heap.size, 8, none⟩ = some (.slice s.ea t.es.length s.ec) := HA.out.cell 8; have c9 : w3.cell? ⟨w.heap.size, 9, none⟩ = some (.slice s.ra t.rs.length s.rc) := HA.out.cell 9; clear HA9 HB9 HS9 HP9 hb))
  go_ret
  exact ⟨rfl, HB.out⟩
set_option maxHeartbeats 3200000 in
set_option maxRecDepth 100000 in
theorem ages_b2 (t : TiV) (s : Sl2) (now later : Int) (w : World) (hin : In2 w t s) (hlong : ¬ (100 < t.es.length ∨ 100 < t.rs.length)) (h1 : 0 ≤ now) (h2 : later < 0) : Calls Try.prog 5 #[aggV t s, .int .i64 now, .int .i64 later] w fun e w' => e = .returned (.bool true) ∧ Below w.heap.size w w' := by
  have hd : decide (100 < t.es.length ∨ 100 < t.rs.length) = false := decide_eq_false hlong
  clear hlong
  have g1 : ¬ now < 0 := by omega
  have hw := awake_any
  have hn := fun W => dnew_any 3 (by omega) W
  have hlo := long_any 0 0 t s
  have HA0 : Hid (Arr (w.alloc (.cells #[.int .i64 t.hd.id.d, .int .i64 t.hd.id.o, .int .i64 t.hd.id.k, .int .i64 t.hd.id.n, .int .i64 t.hd.seq, .int .i64 t.hd.life, .int .i64 t.level, .bool t.over, .slice s.ea t.es.length s.ec, .slice s.ra t.rs.length s.rc] 39)) w.heap.size 39 [.int .i64 t.hd.id.d, .int .i64 t.hd.id.o, .int .i64 t.hd.id.k, .int .i64 t.hd.id.n, .int .i64 t.hd.seq, .int .i64 t.hd.life, .int .i64 t.level, .bool t.over, .slice s.ea t.es.length s.ec, .slice s.ra t.rs.length s.rc]) := Arr.new w _ _
  have HB0 : Hid (Below w.heap.size w (w.alloc (.cells #[.int .i64 t.hd.id.d, .int .i64 t.hd.id.o, .int .i64 t.hd.id.k, .int .i64 t.hd.id.n, .int .i64 t.hd.seq, .int .i64 t.hd.life, .int .i64 t.level, .bool t.over, .slice s.ea t.es.length s.ec, .slice s.ra t.rs.length s.rc] 39))) := (Below.refl _ _).alloc (Nat.le_refl _) _
  have HS0 : Hid (w.heap.size < (w.alloc (.cells #[.int .i64 t.hd.id.d, .int .i64 t.hd.id.o, .int .i64 t.hd.id.k, .int .i64 t.hd.id.n, .int .i64 t.hd.seq, .int .i64 t.hd.life, .int .i64 t.level, .bool t.over, .slice s.ea t.es.length s.ec, .slice s.ra t.rs.length s.rc] 39)).heap.size) := by unfold Hid; simp
  have HI := Lib.hid hin
  clear hin
  unfold aggV
  go_enter Try.func5, Try.ntmps5
  go_wp2_with (first
    | (go_at_call 6; refine (hw _).mono ?_; rintro e w1 ⟨rfl, hb⟩; have HA := Lib.hid (HA0.out.below hb HS0.out); have HB := Lib.hid (HB0.out.trans (hb.mono (Nat.le_of_lt HS0.out))); have HS := Lib.hid (Nat.lt_of_lt_of_le HS0.out hb.size); clear hb)
    | (go_at_call 7; refine (hn _).mono ?_; rintro e w2 ⟨rfl, hp, hb⟩; have HA9 := HA; have HB9 := HB; have HS9 := HS; clear HA HB HS; have HA := Lib.hid (HA9.out.below hb HS9.out); have HB := Lib.hid (HB9.out.trans (hb.mono (Nat.le_of_lt HS9.out))); have HS := Lib.hid (Nat.lt_of_lt_of_le HS9.out hb.size); have HP := Lib.hid hp; have c0 : w2.cell? ⟨w.heap.size, 0, none⟩ = some (.int .i64 t.hd.id.d) := HA.out.cell 0; have c1 : w2.cell? ⟨w.heap.size, 1, none⟩ = some (.int .i64 t.hd.id.o) := HA.out.cell 1; have c2 : w2.cell? ⟨w.heap.size, 2, none⟩ = some (.int .i64 t.hd.id.k) := HA.out.cell 2; have c3 : w2.cell? ⟨w.heap.size, 3, none⟩ = some (.int .i64 t.hd.id.n) := HA.out.cell 3; have c4 : w2.cell? ⟨w.heap.size, 4, none⟩ = some (.int .i64 t.hd.seq) := HA.out.cell 4; have c5 : w2.cell? ⟨w.heap.size, 5, none⟩ = some (.int .i64 t.hd.life) := HA.out.cell 5; have c6 : w2.cell? ⟨w.heap.size, 6, none⟩ = some (.int .i64 t.level) := HA.out.cell 6; have c7 : w2.cell? ⟨w.heap.size, 7, none⟩ = some (.bool t.over) := HA.out.cell 7; have c8 : w2.cell? ⟨w.heap.size, 8, none⟩ = some (.slice s.ea t.es.length s.ec) := HA.out.cell 8; have c9 : w2.cell? ⟨w.heap.size, 9, none⟩ = some (.slice s.ra t.rs.length s.rc) := HA.out.cell 9; clear HA9 HB9 HS9 hb hp)
    | (go_at_call 9; refine (hlo _).mono ?_; rw [hd]; rintro e w3 ⟨rfl, hb⟩; have HA9 := HA; have HB9 := HB; have HS9 := HS; clear HA HB HS; have HA := Lib.hid (HA9.out.below hb HS9.out); have HB := Lib.hid (HB9.out.trans (hb.mono (Nat.le_of_lt HS9.out))); have HS := Lib.hid (Nat.lt_of_lt_of_le HS9.out hb.size); have HP9 := HP; clear HP; have HP := Lib.hid (HP9.out.below hb); clear c0 c1 c2 c3 c4 c5 c6 c7 c8 c9; have c0 : w3.cell? ⟨w.heap.size, 0, none⟩ = some (.int .i64 t.hd.id.d) := HA.out.cell 0; have c1 : w3.cell? ⟨w.heap.size, 1, none⟩ = some (.int .i64 t.hd.id.o) := HA.out.cell 1; have c2 : w3.cell? ⟨w.heap.size, 2, none⟩ = some (.int .i64 t.hd.id.k) := HA.out.cell 2; have c3 : w3.cell? ⟨w.heap.size, 3, none⟩ = some (.int .i64 t.hd.id.n) := HA.out.cell 3; have c4 : w3.cell? ⟨w.heap.size, 4, none⟩ = some (.int .i64 t.hd.seq) := HA.out.cell 4; have c5 : w3.cell? ⟨w.heap.size, 5, none⟩ = some (.int .i64 t.hd.life) := HA.out.cell 5; have c6 : w3.cell? ⟨w.heap.size, 6, none⟩ = some (.int .i64 t.level) := HA.out.cell 6; have c7 : w3.cell? ⟨w.heap.size, 7, none⟩ = some (.bool t.over) := HA.out.cell 7; have c8 : w3.cell? ⟨w.heap.size, 8, none⟩ = some (.slice s.ea t.es.length s.ec) := HA.out.cell 8; have c9 : w3.cell? ⟨w.heap.size, 9, none⟩ = some (.slice s.ra t.rs.length s.rc) := HA.out.cell 9; clear HA9 HB9 HS9 HP9 hb))
  go_ret
  exact ⟨rfl, HB.out⟩
set_option maxHeartbeats 3200000 in
set_option maxRecDepth 100000 in
theorem ages_b3 (t : TiV) (s : Sl2) (now later : Int) (w : World) (hin : In2 w t s) (hlong : ¬ (100 < t.es.length ∨ 100 < t.rs.length)) (h1 : 0 ≤ now) (h2 : 0 ≤ later) (h3 : 274877906944 < now) : Calls Try.prog 5 #[aggV t s, .int .i64 now, .int .i64 later] w fun e w' => e = .returned (.bool true) ∧ Below w.heap.size w w' := by
  have hd : decide (100 < t.es.length ∨ 100 < t.rs.length) = false := decide_eq_false hlong
  clear hlong
  have g1 : ¬ now < 0 := by omega
  have g2 : ¬ later < 0 := by omega
  have hw := awake_any
  have hn := fun W => dnew_any 3 (by omega) W
  have hlo := long_any 0 0 t s
  have HA0 : Hid (Arr (w.alloc (.cells #[.int .i64 t.hd.id.d, .int .i64 t.hd.id.o, .int .i64 t.hd.id.k, .int .i64 t.hd.id.n, .int .i64 t.hd.seq, .int .i64 t.hd.life, .int .i64 t.level, .bool t.over, .slice s.ea t.es.length s.ec, .slice s.ra t.rs.length s.rc] 39)) w.heap.size 39 [.int .i64 t.hd.id.d, .int .i64 t.hd.id.o, .int .i64 t.hd.id.k, .int .i64 t.hd.id.n, .int .i64 t.hd.seq, .int .i64 t.hd.life, .int .i64 t.level, .bool t.over, .slice s.ea t.es.length s.ec, .slice s.ra t.rs.length s.rc]) := Arr.new w _ _
  have HB0 : Hid (Below w.heap.size w (w.alloc (.cells #[.int .i64 t.hd.id.d, .int .i64 t.hd.id.o, .int .i64 t.hd.id.k, .int .i64 t.hd.id.n, .int .i64 t.hd.seq, .int .i64 t.hd.life, .int .i64 t.level, .bool t.over, .slice s.ea t.es.length s.ec, .slice s.ra t.rs.length s.rc] 39))) := (Below.refl _ _).alloc (Nat.le_refl _) _
  have HS0 : Hid (w.heap.size < (w.alloc (.cells #[.int .i64 t.hd.id.d, .int .i64 t.hd.id.o, .int .i64 t.hd.id.k, .int .i64 t.hd.id.n, .int .i64 t.hd.seq, .int .i64 t.hd.life, .int .i64 t.level, .bool t.over, .slice s.ea t.es.length s.ec, .slice s.ra t.rs.length s.rc] 39)).heap.size) := by unfold Hid; simp
  have HI := Lib.hid hin
  clear hin
  unfold aggV
  go_enter Try.func5, Try.ntmps5
  go_wp2_with (first
    | (go_at_call 6; refine (hw _).mono ?_; rintro e w1 ⟨rfl, hb⟩; have HA := Lib.hid (HA0.out.below hb HS0.out); have HB := Lib.hid (HB0.out.trans (hb.mono (Nat.le_of_lt HS0.out))); have HS := Lib.hid (Nat.lt_of_lt_of_le HS0.out hb.size); clear hb)
    | (go_at_call 7; refine (hn _).mono ?_; rintro e w2 ⟨rfl, hp, hb⟩; have HA9 := HA; have HB9 := HB; have HS9 := HS; clear HA HB HS; have HA := Lib.hid (HA9.out.below hb HS9.out); have HB := Lib.hid (HB9.out.trans (hb.mono (Nat.le_of_lt HS9.out))); have HS := Lib.hid (Nat.lt_of_lt_of_le HS9.out hb.size); have HP := Lib.hid hp; have c0 : w2.cell? ⟨w.heap.size, 0, none⟩ = some (.int .i64 t.hd.id.d) := HA.out.cell 0; have c1 : w2.cell? ⟨w.heap.size, 1, none⟩ = some (.int .i64 t.hd.id.o) := HA.out.cell 1; have c2 : w2.cell? ⟨w.heap.size, 2, none⟩ = some (.int .i64 t.hd.id.k) := HA.out.cell 2; have c3 : w2.cell? ⟨w.heap.size, 3, none⟩ = some (.int .i64 t.hd.id.n) := HA.out.cell 3; have c4 : w2.cell? ⟨w.heap.size, 4, none⟩ = some (.int .i64 t.hd.seq) := HA.out.cell 4; have c5 : w2.cell? ⟨w.heap.size, 5, none⟩ = some (.int .i64 t.hd.life) := HA.out.cell 5; have c6 : w2.cell? ⟨w.heap.size, 6, none⟩ = some (.int .i64 t.level) := HA.out.cell 6; have c7 : w2.cell? ⟨w.heap.size, 7, none⟩ = some (.bool t.over) := HA.out.cell 7; have c8 : w2.cell? ⟨w.heap.size, 8, none⟩ = some (.slice s.ea t.es.length s.ec) := HA.out.cell 8; have c9 : w2.cell? ⟨w.heap.size, 9, none⟩ = some (.slice s.ra t.rs.length s.rc) := HA.out.cell 9; clear HA9 HB9 HS9 hb hp)
    | (go_at_call 9; refine (hlo _).mono ?_; rw [hd]; rintro e w3 ⟨rfl, hb⟩; have HA9 := HA; have HB9 := HB; have HS9 := HS; clear HA HB HS; have HA := Lib.hid (HA9.out.below hb HS9.out); have HB := Lib.hid (HB9.out.trans (hb.mono (Nat.le_of_lt HS9.out))); have HS := Lib.hid (Nat.lt_of_lt_of_le HS9.out hb.size); have HP9 := HP; clear HP; have HP := Lib.hid (HP9.out.below hb); clear c0 c1 c2 c3 c4 c5 c6 c7 c8 c9; have c0 : w3.cell? ⟨w.heap.size, 0, none⟩ = some (.int .i64 t.hd.id.d) := HA.out.cell 0; have c1 : w3.cell? ⟨w.heap.size, 1, none⟩ = some (.int .i64 t.hd.id.o) := HA.out.cell 1; have c2 : w3.cell? ⟨w.heap.size, 2, none⟩ = some (.int .i64 t.hd.id.k) := HA.out.cell 2; have c3 : w3.cell? ⟨w.heap.size, 3, none⟩ = some (.int .i64 t.hd.id.n) := HA.out.cell 3; have c4 : w3.cell? ⟨w.heap.size, 4, none⟩ = some (.int .i64 t.hd.seq) := HA.out.cell 4; have c5 : w3.cell? ⟨w.heap.size, 5, none⟩ = some (.int .i64 t.hd.life) := HA.out.cell 5; have c6 : w3.cell? ⟨w.heap.size, 6, none⟩ = some (.int .i64 t.level) := HA.out.cell 6; have c7 : w3.cell? ⟨w.heap.size, 7, none⟩ = some (.bool t.over) := HA.out.cell 7; have c8 : w3.cell? ⟨w.heap.size, 8, none⟩ = some (.slice s.ea t.es.length s.ec) := HA.out.cell 8; have c9 : w3.cell? ⟨w.heap.size, 9, none⟩ = some (.slice s.ra t.rs.length s.rc) := HA.out.cell 9; clear HA9 HB9 HS9 HP9 hb))
  go_ret
  exact ⟨rfl, HB.out⟩
set_option maxHeartbeats 3200000 in
set_option maxRecDepth 100000 in
theorem ages_b4 (t : TiV) (s : Sl2) (now later : Int) (w : World) (hin : In2 w t s) (hlong : ¬ (100 < t.es.length ∨ 100 < t.rs.length)) (h1 : 0 ≤ now) (h2 : 0 ≤ later) (h3 : now ≤ 274877906944) (h4 : 274877906944 < later) : Calls Try.prog 5 #[aggV t s, .int .i64 now, .int .i64 later] w fun e w' => e = .returned (.bool true) ∧ Below w.heap.size w w' := by
  have hd : decide (100 < t.es.length ∨ 100 < t.rs.length) = false := decide_eq_false hlong
  clear hlong
  have g1 : ¬ now < 0 := by omega
  have g2 : ¬ later < 0 := by omega
  have g3 : ¬ 274877906944 < now := by omega
  have hw := awake_any
  have hn := fun W => dnew_any 3 (by omega) W
  have hlo := long_any 0 0 t s
  have HA0 : Hid (Arr (w.alloc (.cells #[.int .i64 t.hd.id.d, .int .i64 t.hd.id.o, .int .i64 t.hd.id.k, .int .i64 t.hd.id.n, .int .i64 t.hd.seq, .int .i64 t.hd.life, .int .i64 t.level, .bool t.over, .slice s.ea t.es.length s.ec, .slice s.ra t.rs.length s.rc] 39)) w.heap.size 39 [.int .i64 t.hd.id.d, .int .i64 t.hd.id.o, .int .i64 t.hd.id.k, .int .i64 t.hd.id.n, .int .i64 t.hd.seq, .int .i64 t.hd.life, .int .i64 t.level, .bool t.over, .slice s.ea t.es.length s.ec, .slice s.ra t.rs.length s.rc]) := Arr.new w _ _
  have HB0 : Hid (Below w.heap.size w (w.alloc (.cells #[.int .i64 t.hd.id.d, .int .i64 t.hd.id.o, .int .i64 t.hd.id.k, .int .i64 t.hd.id.n, .int .i64 t.hd.seq, .int .i64 t.hd.life, .int .i64 t.level, .bool t.over, .slice s.ea t.es.length s.ec, .slice s.ra t.rs.length s.rc] 39))) := (Below.refl _ _).alloc (Nat.le_refl _) _
  have HS0 : Hid (w.heap.size < (w.alloc (.cells #[.int .i64 t.hd.id.d, .int .i64 t.hd.id.o, .int .i64 t.hd.id.k, .int .i64 t.hd.id.n, .int .i64 t.hd.seq, .int .i64 t.hd.life, .int .i64 t.level, .bool t.over, .slice s.ea t.es.length s.ec, .slice s.ra t.rs.length s.rc] 39)).heap.size) := by unfold Hid; simp
  have HI := Lib.hid hin
  clear hin
  unfold aggV
  go_enter Try.func5, Try.ntmps5
  go_wp2_with (first
    | (go_at_call 6; refine (hw _).mono ?_; rintro e w1 ⟨rfl, hb⟩; have HA := Lib.hid (HA0.out.below hb HS0.out); have HB := Lib.hid (HB0.out.trans (hb.mono (Nat.le_of_lt HS0.out))); have HS := Lib.hid (Nat.lt_of_lt_of_le HS0.out hb.size); clear hb)
    | (go_at_call 7; refine (hn _).mono ?_; rintro e w2 ⟨rfl, hp, hb⟩; have HA9 := HA; have HB9 := HB; have HS9 := HS; clear HA HB HS; have HA := Lib.hid (HA9.out.below hb HS9.out); have HB := Lib.hid (HB9.out.trans (hb.mono (Nat.le_of_lt HS9.out))); have HS := Lib.hid (Nat.lt_of_lt_of_le HS9.out hb.size); have HP := Lib.hid hp; have c0 : w2.cell? ⟨w.heap.size, 0, none⟩ = some (.int .i64 t.hd.id.d) := HA.out.cell 0; have c1 : w2.cell? ⟨w.heap.size, 1, none⟩ = some (.int .i64 t.hd.id.o) := HA.out.cell 1; have c2 : w2.cell? ⟨w.heap.size, 2, none⟩ = some (.int .i64 t.hd.id.k) := HA.out.cell 2; have c3 : w2.cell? ⟨w.heap.size, 3, none⟩ = some (.int .i64 t.hd.id.n) := HA.out.cell 3; have c4 : w2.cell? ⟨w.heap.size, 4, none⟩ = some (.int .i64 t.hd.seq) := HA.out.cell 4; have c5 : w2.cell? ⟨w.heap.size, 5, none⟩ = some (.int .i64 t.hd.life) := HA.out.cell 5; have c6 : w2.cell? ⟨w.heap.size, 6, none⟩ = some (.int .i64 t.level) := HA.out.cell 6; have c7 : w2.cell? ⟨w.heap.size, 7, none⟩ = some (.bool t.over) := HA.out.cell 7; have c8 : w2.cell? ⟨w.heap.size, 8, none⟩ = some (.slice s.ea t.es.length s.ec) := HA.out.cell 8; have c9 : w2.cell? ⟨w.heap.size, 9, none⟩ = some (.slice s.ra t.rs.length s.rc) := HA.out.cell 9; clear HA9 HB9 HS9 hb hp)
    | (go_at_call 9; refine (hlo _).mono ?_; rw [hd]; rintro e w3 ⟨rfl, hb⟩; have HA9 := HA; have HB9 := HB; have HS9 := HS; clear HA HB HS; have HA := Lib.hid (HA9.out.below hb HS9.out); have HB := Lib.hid (HB9.out.trans (hb.mono (Nat.le_of_lt HS9.out))); have HS := Lib.hid (Nat.lt_of_lt_of_le HS9.out hb.size); have HP9 := HP; clear HP; have HP := Lib.hid (HP9.out.below hb); clear c0 c1 c2 c3 c4 c5 c6 c7 c8 c9; have c0 : w3.cell? ⟨w.heap.size, 0, none⟩ = some (.int .i64 t.hd.id.d) := HA.out.cell 0; have c1 : w3.cell? ⟨w.heap.size, 1, none⟩ = some (.int .i64 t.hd.id.o) := HA.out.cell 1; have c2 : w3.cell? ⟨w.heap.size, 2, none⟩ = some (.int .i64 t.hd.id.k) := HA.out.cell 2; have c3 : w3.cell? ⟨w.heap.size, 3, none⟩ = some (.int .i64 t.hd.id.n) := HA.out.cell 3; have c4 : w3.cell? ⟨w.heap.size, 4, none⟩ = some (.int .i64 t.hd.seq) := HA.out.cell 4; have c5 : w3.cell? ⟨w.heap.size, 5, none⟩ = some (.int .i64 t.hd.life) := HA.out.cell 5; have c6 : w3.cell? ⟨w.heap.size, 6, none⟩ = some (.int .i64 t.level) := HA.out.cell 6; have c7 : w3.cell? ⟨w.heap.size, 7, none⟩ = some (.bool t.over) := HA.out.cell 7; have c8 : w3.cell? ⟨w.heap.size, 8, none⟩ = some (.slice s.ea t.es.length s.ec) := HA.out.cell 8; have c9 : w3.cell? ⟨w.heap.size, 9, none⟩ = some (.slice s.ra t.rs.length s.rc) := HA.out.cell 9; clear HA9 HB9 HS9 HP9 hb))
  go_ret
  exact ⟨rfl, HB.out⟩
theorem arr_map {W W' : World} {n0 pb mb : Nat} {room : Int} {K : List EnT} {g : Nat} {T : TypeId} {vs : List Value} (h : Arr W g T vs) (k : W.grownBy W' (some mb)) (hp : ProgD W n0 pb mb room K) : Arr W' g T vs := by
  obtain ⟨_, hM, _⟩ := hp.has
  obtain ⟨es, c, he⟩ := hM.isMap
  have hne : g ≠ mb := fun e => by unfold Arr at h; rw [e, he] at h; cases h
  exact (k.block g h.lt (fun e => hne (Option.some.inj e))).trans h
set_option maxHeartbeats 3200000 in
set_option maxRecDepth 100000 in
theorem ages_form (t : TiV) (s : Sl2) (now later : Int) (w : World) (hin : In2 w t s) (hlong : ¬ (100 < t.es.length ∨ 100 < t.rs.length)) (h1 : 0 ≤ now) (h2 : 0 ≤ later) (h3 : now ≤ 274877906944) (h4 : later ≤ 274877906944) (hr : rightV t = false) : Calls Try.prog 5 #[aggV t s, .int .i64 now, .int .i64 later] w fun e w' => e = .returned (.bool true) ∧ Below w.heap.size w w' := by
  have hlens : t.es.length ≤ 100 ∧ t.rs.length ≤ 100 := by omega
  have hd : decide (100 < t.es.length ∨ 100 < t.rs.length) = false := decide_eq_false hlong
  clear hlong
  have g1 : ¬ now < 0 := by omega
  have g2 : ¬ later < 0 := by omega
  have g3 : ¬ 274877906944 < now := by omega
  have g4 : ¬ 274877906944 < later := by omega
  have hw := awake_any
  have hn := fun W => dnew_any 3 (by omega) W
  have hlo := long_any 0 0 t s
  have HA0 : Hid (Arr (w.alloc (.cells #[.int .i64 t.hd.id.d, .int .i64 t.hd.id.o, .int .i64 t.hd.id.k, .int .i64 t.hd.id.n, .int .i64 t.hd.seq, .int .i64 t.hd.life, .int .i64 t.level, .bool t.over, .slice s.ea t.es.length s.ec, .slice s.ra t.rs.length s.rc] 39)) w.heap.size 39 [.int .i64 t.hd.id.d, .int .i64 t.hd.id.o, .int .i64 t.hd.id.k, .int .i64 t.hd.id.n, .int .i64 t.hd.seq, .int .i64 t.hd.life, .int .i64 t.level, .bool t.over, .slice s.ea t.es.length s.ec, .slice s.ra t.rs.length s.rc]) := Arr.new w _ _
  have HB0 : Hid (Below w.heap.size w (w.alloc (.cells #[.int .i64 t.hd.id.d, .int .i64 t.hd.id.o, .int .i64 t.hd.id.k, .int .i64 t.hd.id.n, .int .i64 t.hd.seq, .int .i64 t.hd.life, .int .i64 t.level, .bool t.over, .slice s.ea t.es.length s.ec, .slice s.ra t.rs.length s.rc] 39))) := (Below.refl _ _).alloc (Nat.le_refl _) _
  have HS0 : Hid (w.heap.size < (w.alloc (.cells #[.int .i64 t.hd.id.d, .int .i64 t.hd.id.o, .int .i64 t.hd.id.k, .int .i64 t.hd.id.n, .int .i64 t.hd.seq, .int .i64 t.hd.life, .int .i64 t.level, .bool t.over, .slice s.ea t.es.length s.ec, .slice s.ra t.rs.length s.rc] 39)).heap.size) := by unfold Hid; simp
  have HI := Lib.hid hin
  have hput := put_bad (now := now) hr
  have HRD : Hid (∀ W, Below w.heap.size w W → Rd2 W t s) := fun W k => (hin.below k).rd hlens.1 hlens.2
  have HPU : Hid (∀ W n0 pb mb, ProgD W n0 pb mb 3 [] → Rd2 W t s → Calls Try.prog 16 #[.pointer (some ⟨pb, 0, none⟩), .agg #[.int .i64 t.hd.id.d, .int .i64 t.hd.id.o, .int .i64 t.hd.id.k, .int .i64 t.hd.id.n, .int .i64 t.hd.seq, .int .i64 t.hd.life, .int .i64 t.level, .bool t.over, .slice s.ea t.es.length s.ec, .slice s.ra t.rs.length s.rc], .int .i64 now] W fun e w' => e = .returned (.tuple #[.int .i64 0, .int .i64 1]) ∧ ProgD w' n0 pb mb 3 [] ∧ W.grownBy w' (some mb)) := fun W n0 pb mb h hr => by
    have := dput_any h hr now (by omega)
    unfold PutE at this
    rw [hput] at this
    exact this
  clear hin hput hr hlens
  unfold aggV
  go_enter Try.func5, Try.ntmps5
  go_wp2_with (first
    | (go_at_call 6; refine (hw _).mono ?_; rintro e w1 ⟨rfl, hb⟩; have HA := Lib.hid (HA0.out.below hb HS0.out); have HB := Lib.hid (HB0.out.trans (hb.mono (Nat.le_of_lt HS0.out))); have HS := Lib.hid (Nat.lt_of_lt_of_le HS0.out hb.size); clear hb)
    | (go_at_call 7; refine (hn _).mono ?_; rintro e w2 ⟨rfl, hp, hb⟩; have HA9 := HA; have HB9 := HB; have HS9 := HS; clear HA HB HS; have HA := Lib.hid (HA9.out.below hb HS9.out); have HB := Lib.hid (HB9.out.trans (hb.mono (Nat.le_of_lt HS9.out))); have HS := Lib.hid (Nat.lt_of_lt_of_le HS9.out hb.size); have HP := Lib.hid hp; have HN : Hid (w.heap.size ≤ w1.heap.size) := Nat.le_of_lt HS9.out; have c0 : w2.cell? ⟨w.heap.size, 0, none⟩ = some (.int .i64 t.hd.id.d) := HA.out.cell 0; have c1 : w2.cell? ⟨w.heap.size, 1, none⟩ = some (.int .i64 t.hd.id.o) := HA.out.cell 1; have c2 : w2.cell? ⟨w.heap.size, 2, none⟩ = some (.int .i64 t.hd.id.k) := HA.out.cell 2; have c3 : w2.cell? ⟨w.heap.size, 3, none⟩ = some (.int .i64 t.hd.id.n) := HA.out.cell 3; have c4 : w2.cell? ⟨w.heap.size, 4, none⟩ = some (.int .i64 t.hd.seq) := HA.out.cell 4; have c5 : w2.cell? ⟨w.heap.size, 5, none⟩ = some (.int .i64 t.hd.life) := HA.out.cell 5; have c6 : w2.cell? ⟨w.heap.size, 6, none⟩ = some (.int .i64 t.level) := HA.out.cell 6; have c7 : w2.cell? ⟨w.heap.size, 7, none⟩ = some (.bool t.over) := HA.out.cell 7; have c8 : w2.cell? ⟨w.heap.size, 8, none⟩ = some (.slice s.ea t.es.length s.ec) := HA.out.cell 8; have c9 : w2.cell? ⟨w.heap.size, 9, none⟩ = some (.slice s.ra t.rs.length s.rc) := HA.out.cell 9; clear HA9 HB9 HS9 hb hp)
    | (go_at_call 9; refine (hlo _).mono ?_; rw [hd]; rintro e w3 ⟨rfl, hb⟩; have HA9 := HA; have HB9 := HB; have HS9 := HS; clear HA HB HS; have HA := Lib.hid (HA9.out.below hb HS9.out); have HB := Lib.hid (HB9.out.trans (hb.mono (Nat.le_of_lt HS9.out))); have HS := Lib.hid (Nat.lt_of_lt_of_le HS9.out hb.size); have HP9 := HP; clear HP; have HP := Lib.hid (HP9.out.below hb); clear c0 c1 c2 c3 c4 c5 c6 c7 c8 c9; have c0 : w3.cell? ⟨w.heap.size, 0, none⟩ = some (.int .i64 t.hd.id.d) := HA.out.cell 0; have c1 : w3.cell? ⟨w.heap.size, 1, none⟩ = some (.int .i64 t.hd.id.o) := HA.out.cell 1; have c2 : w3.cell? ⟨w.heap.size, 2, none⟩ = some (.int .i64 t.hd.id.k) := HA.out.cell 2; have c3 : w3.cell? ⟨w.heap.size, 3, none⟩ = some (.int .i64 t.hd.id.n) := HA.out.cell 3; have c4 : w3.cell? ⟨w.heap.size, 4, none⟩ = some (.int .i64 t.hd.seq) := HA.out.cell 4; have c5 : w3.cell? ⟨w.heap.size, 5, none⟩ = some (.int .i64 t.hd.life) := HA.out.cell 5; have c6 : w3.cell? ⟨w.heap.size, 6, none⟩ = some (.int .i64 t.level) := HA.out.cell 6; have c7 : w3.cell? ⟨w.heap.size, 7, none⟩ = some (.bool t.over) := HA.out.cell 7; have c8 : w3.cell? ⟨w.heap.size, 8, none⟩ = some (.slice s.ea t.es.length s.ec) := HA.out.cell 8; have c9 : w3.cell? ⟨w.heap.size, 9, none⟩ = some (.slice s.ra t.rs.length s.rc) := HA.out.cell 9; clear HA9 HB9 HS9 HP9 hb)
    | (go_at_call 16; refine (HPU.out _ _ _ _ HP.out (HRD.out _ HB.out)).mono ?_; rintro e w4 ⟨rfl, hp, hg⟩; have HP9 := HP; have HB9 := HB; have HS9 := HS; have HA9 := HA; clear HP HB HS HA; have HP := Lib.hid hp; have HB := Lib.hid (below_map HB9.out hg (by have := HP9.out.hm; have := HN.out; omega) HB9.out.size); have HS := Lib.hid (Nat.lt_of_lt_of_le HS9.out hg.size); have HA := Lib.hid (arr_map HA9.out hg HP9.out); clear c0 c1 c2 c3 c4 c5 c6 c7 c8 c9; have c0 : w4.cell? ⟨w.heap.size, 0, none⟩ = some (.int .i64 t.hd.id.d) := HA.out.cell 0; have c1 : w4.cell? ⟨w.heap.size, 1, none⟩ = some (.int .i64 t.hd.id.o) := HA.out.cell 1; have c2 : w4.cell? ⟨w.heap.size, 2, none⟩ = some (.int .i64 t.hd.id.k) := HA.out.cell 2; have c3 : w4.cell? ⟨w.heap.size, 3, none⟩ = some (.int .i64 t.hd.id.n) := HA.out.cell 3; have c4 : w4.cell? ⟨w.heap.size, 4, none⟩ = some (.int .i64 t.hd.seq) := HA.out.cell 4; have c5 : w4.cell? ⟨w.heap.size, 5, none⟩ = some (.int .i64 t.hd.life) := HA.out.cell 5; have c6 : w4.cell? ⟨w.heap.size, 6, none⟩ = some (.int .i64 t.level) := HA.out.cell 6; have c7 : w4.cell? ⟨w.heap.size, 7, none⟩ = some (.bool t.over) := HA.out.cell 7; have c8 : w4.cell? ⟨w.heap.size, 8, none⟩ = some (.slice s.ea t.es.length s.ec) := HA.out.cell 8; have c9 : w4.cell? ⟨w.heap.size, 9, none⟩ = some (.slice s.ra t.rs.length s.rc) := HA.out.cell 9; clear HP9 HB9 HS9 HA9 hp hg)
    | (go_at_call 14; refine (dlen_any HP.out _ (fun _ _ => rfl)).mono ?_; rintro e w9 ⟨rfl, hww⟩; have hww := hww.symm; subst hww))
  go_ret
  exact ⟨rfl, HB.out⟩
set_option maxHeartbeats 3200000 in
set_option maxRecDepth 100000 in
theorem ages_yes (t : TiV) (s : Sl2) (now later : Int) (w : World) (hin : In2 w t s) (hlong : ¬ (100 < t.es.length ∨ 100 < t.rs.length)) (h1 : 0 ≤ now) (h2 : 0 ≤ later) (h3 : now ≤ 274877906944) (h4 : later ≤ 274877906944) (hr : rightV t = true) (hq : later < t.hd.life) : Calls Try.prog 5 #[aggV t s, .int .i64 now, .int .i64 later] w fun e w' => e = .returned (.bool true) ∧ Below w.heap.size w w' := by
  have hlens : t.es.length ≤ 100 ∧ t.rs.length ≤ 100 := by omega
  have hd : decide (100 < t.es.length ∨ 100 < t.rs.length) = false := decide_eq_false hlong
  clear hlong
  have g1 : ¬ now < 0 := by omega
  have g2 : ¬ later < 0 := by omega
  have g3 : ¬ 274877906944 < now := by omega
  have g4 : ¬ 274877906944 < later := by omega
  have hw := awake_any
  have hn := fun W => dnew_any 3 (by omega) W
  have hlo := long_any 0 0 t s
  have HA0 : Hid (Arr (w.alloc (.cells #[.int .i64 t.hd.id.d, .int .i64 t.hd.id.o, .int .i64 t.hd.id.k, .int .i64 t.hd.id.n, .int .i64 t.hd.seq, .int .i64 t.hd.life, .int .i64 t.level, .bool t.over, .slice s.ea t.es.length s.ec, .slice s.ra t.rs.length s.rc] 39)) w.heap.size 39 [.int .i64 t.hd.id.d, .int .i64 t.hd.id.o, .int .i64 t.hd.id.k, .int .i64 t.hd.id.n, .int .i64 t.hd.seq, .int .i64 t.hd.life, .int .i64 t.level, .bool t.over, .slice s.ea t.es.length s.ec, .slice s.ra t.rs.length s.rc]) := Arr.new w _ _
  have HB0 : Hid (Below w.heap.size w (w.alloc (.cells #[.int .i64 t.hd.id.d, .int .i64 t.hd.id.o, .int .i64 t.hd.id.k, .int .i64 t.hd.id.n, .int .i64 t.hd.seq, .int .i64 t.hd.life, .int .i64 t.level, .bool t.over, .slice s.ea t.es.length s.ec, .slice s.ra t.rs.length s.rc] 39))) := (Below.refl _ _).alloc (Nat.le_refl _) _
  have HS0 : Hid (w.heap.size < (w.alloc (.cells #[.int .i64 t.hd.id.d, .int .i64 t.hd.id.o, .int .i64 t.hd.id.k, .int .i64 t.hd.id.n, .int .i64 t.hd.seq, .int .i64 t.hd.life, .int .i64 t.level, .bool t.over, .slice s.ea t.es.length s.ec, .slice s.ra t.rs.length s.rc] 39)).heap.size) := by unfold Hid; simp
  have HI := Lib.hid hin
  have hm0 : momD now := by unfold momD; omega
  have hm : momD (now + later) := by unfold momD; omega
  have hrh := right_head hr
  have e1 : -9223372036854775808 ≤ now + later ∧ now + later ≤ 9223372036854775807 := by omega
  have e2 : -9223372036854775808 ≤ t.hd.life - later ∧ t.hd.life - later ≤ 9223372036854775807 := by omega
  have hput := put_one hr hm0
  have HRD : Hid (∀ W, Below w.heap.size w W → Rd2 W t s) := fun W k => (hin.below k).rd hlens.1 hlens.2
  have HPU : Hid (∀ W n0 pb mb, ProgD W n0 pb mb 3 [] → Rd2 W t s → Calls Try.prog 16 #[.pointer (some ⟨pb, 0, none⟩), .agg #[.int .i64 t.hd.id.d, .int .i64 t.hd.id.o, .int .i64 t.hd.id.k, .int .i64 t.hd.id.n, .int .i64 t.hd.seq, .int .i64 t.hd.life, .int .i64 t.level, .bool t.over, .slice s.ea t.es.length s.ec, .slice s.ra t.rs.length s.rc], .int .i64 now] W fun e w' => e = .returned (.tuple #[.int .i64 1, .int .i64 0]) ∧ ProgD w' n0 pb mb 3 [enD t now] ∧ W.grownBy w' (some mb)) := fun W n0 pb mb h hr => by
    have := dput_any h hr now (by omega)
    unfold PutE at this
    rw [hput] at this
    exact this
  obtain ⟨lf, hlf⟩ : ∃ lf, t.hd.life - later = lf := ⟨_, rfl⟩
  have HGE : Hid (∀ W n0 pb mb, ProgD W n0 pb mb 3 [enD t now] → Calls Try.prog 11 #[.pointer (some ⟨pb, 0, none⟩), .agg #[.int .i64 t.hd.id.d, .int .i64 t.hd.id.o, .int .i64 t.hd.id.k, .int .i64 t.hd.id.n], .int .i64 (now + later)] W fun e w' => ∃ s5 : Sl2, e = .returned (.tuple #[.agg #[.int .i64 t.hd.id.d, .int .i64 t.hd.id.o, .int .i64 t.hd.id.k, .int .i64 t.hd.id.n, .int .i64 t.hd.seq, .int .i64 lf, .int .i64 t.level, .bool t.over, .slice s5.ea t.es.length s5.ec, .slice s5.ra t.rs.length s5.rc], .bool true]) ∧ Below W.heap.size W w') := fun W n0 pb mb h => by
    refine (dget_any h t.hd.id (right_okI hr) (now + later)).mono ?_
    unfold GetE
    rw [get_yes hm hq]
    rintro e w' ⟨s5, rfl, _, hb⟩
    refine ⟨s5, ?_, hb⟩
    have e3 : leftD (enD t now) (now + later) = lf := by rw [left_is (by unfold enD; dsimp only; omega), ← hlf]; unfold enD; dsimp only; omega
    rw [← e3]
    rfl
  have HAG : Hid (∀ W n0 pb mb, ProgD W n0 pb mb 3 [enD t now] → Calls Try.prog 19 #[.pointer (some ⟨pb, 0, none⟩), .int .i64 (now + later)] W fun e w' => ∃ A c, e = .returned (.slice A 0 c) ∧ ProgD w' n0 pb mb 3 [enD t now] ∧ W.grownBy w' (some mb)) := fun W n0 pb mb h => by
    refine (dage_any h (now + later) (by simp)).mono ?_
    unfold AgeE
    rw [age_yes hm hq]
    rintro e w' ⟨v, rfl, hv, hp, hg⟩
    obtain ⟨A, c, e, _⟩ := hv.shape
    exact ⟨A, c, by rw [e]; rfl, hp, hg⟩
  have hq2 : decide (later < t.hd.life) = true := decide_eq_true hq
  have hlf2 := hlf
  clear hin hput hr hrh hm0 hm hq hlens hlf
  unfold aggV
  go_enter Try.func5, Try.ntmps5
  go_wp2_with (first
    | (go_at_call 6; refine (hw _).mono ?_; rintro e w1 ⟨rfl, hb⟩; have HA := Lib.hid (HA0.out.below hb HS0.out); have HB := Lib.hid (HB0.out.trans (hb.mono (Nat.le_of_lt HS0.out))); have HS := Lib.hid (Nat.lt_of_lt_of_le HS0.out hb.size); clear hb)
    | (go_at_call 7; refine (hn _).mono ?_; rintro e w2 ⟨rfl, hp, hb⟩; have HA9 := HA; have HB9 := HB; have HS9 := HS; clear HA HB HS; have HA := Lib.hid (HA9.out.below hb HS9.out); have HB := Lib.hid (HB9.out.trans (hb.mono (Nat.le_of_lt HS9.out))); have HS := Lib.hid (Nat.lt_of_lt_of_le HS9.out hb.size); have HP := Lib.hid hp; have HN : Hid (w.heap.size ≤ w1.heap.size) := Nat.le_of_lt HS9.out; have c0 : w2.cell? ⟨w.heap.size, 0, none⟩ = some (.int .i64 t.hd.id.d) := HA.out.cell 0; have c1 : w2.cell? ⟨w.heap.size, 1, none⟩ = some (.int .i64 t.hd.id.o) := HA.out.cell 1; have c2 : w2.cell? ⟨w.heap.size, 2, none⟩ = some (.int .i64 t.hd.id.k) := HA.out.cell 2; have c3 : w2.cell? ⟨w.heap.size, 3, none⟩ = some (.int .i64 t.hd.id.n) := HA.out.cell 3; have c4 : w2.cell? ⟨w.heap.size, 4, none⟩ = some (.int .i64 t.hd.seq) := HA.out.cell 4; have c5 : w2.cell? ⟨w.heap.size, 5, none⟩ = some (.int .i64 t.hd.life) := HA.out.cell 5; have c6 : w2.cell? ⟨w.heap.size, 6, none⟩ = some (.int .i64 t.level) := HA.out.cell 6; have c7 : w2.cell? ⟨w.heap.size, 7, none⟩ = some (.bool t.over) := HA.out.cell 7; have c8 : w2.cell? ⟨w.heap.size, 8, none⟩ = some (.slice s.ea t.es.length s.ec) := HA.out.cell 8; have c9 : w2.cell? ⟨w.heap.size, 9, none⟩ = some (.slice s.ra t.rs.length s.rc) := HA.out.cell 9; clear HA9 HB9 HS9 hb hp)
    | (go_at_call 9; refine (hlo _).mono ?_; rw [hd]; rintro e w3 ⟨rfl, hb⟩; have HA9 := HA; have HB9 := HB; have HS9 := HS; clear HA HB HS; have HA := Lib.hid (HA9.out.below hb HS9.out); have HB := Lib.hid (HB9.out.trans (hb.mono (Nat.le_of_lt HS9.out))); have HS := Lib.hid (Nat.lt_of_lt_of_le HS9.out hb.size); have HP9 := HP; clear HP; have HP := Lib.hid (HP9.out.below hb); clear c0 c1 c2 c3 c4 c5 c6 c7 c8 c9; have c0 : w3.cell? ⟨w.heap.size, 0, none⟩ = some (.int .i64 t.hd.id.d) := HA.out.cell 0; have c1 : w3.cell? ⟨w.heap.size, 1, none⟩ = some (.int .i64 t.hd.id.o) := HA.out.cell 1; have c2 : w3.cell? ⟨w.heap.size, 2, none⟩ = some (.int .i64 t.hd.id.k) := HA.out.cell 2; have c3 : w3.cell? ⟨w.heap.size, 3, none⟩ = some (.int .i64 t.hd.id.n) := HA.out.cell 3; have c4 : w3.cell? ⟨w.heap.size, 4, none⟩ = some (.int .i64 t.hd.seq) := HA.out.cell 4; have c5 : w3.cell? ⟨w.heap.size, 5, none⟩ = some (.int .i64 t.hd.life) := HA.out.cell 5; have c6 : w3.cell? ⟨w.heap.size, 6, none⟩ = some (.int .i64 t.level) := HA.out.cell 6; have c7 : w3.cell? ⟨w.heap.size, 7, none⟩ = some (.bool t.over) := HA.out.cell 7; have c8 : w3.cell? ⟨w.heap.size, 8, none⟩ = some (.slice s.ea t.es.length s.ec) := HA.out.cell 8; have c9 : w3.cell? ⟨w.heap.size, 9, none⟩ = some (.slice s.ra t.rs.length s.rc) := HA.out.cell 9; clear HA9 HB9 HS9 HP9 hb)
    | (go_at_call 16; refine (HPU.out _ _ _ _ HP.out (HRD.out _ HB.out)).mono ?_; rintro e w4 ⟨rfl, hp, hg⟩; have HP9 := HP; have HB9 := HB; have HS9 := HS; have HA9 := HA; clear HP HB HS HA; have HP := Lib.hid hp; have HB := Lib.hid (below_map HB9.out hg (by have := HP9.out.hm; have := HN.out; omega) HB9.out.size); have HS := Lib.hid (Nat.lt_of_lt_of_le HS9.out hg.size); have HA := Lib.hid (arr_map HA9.out hg HP9.out); clear c0 c1 c2 c3 c4 c5 c6 c7 c8 c9; have c0 : w4.cell? ⟨w.heap.size, 0, none⟩ = some (.int .i64 t.hd.id.d) := HA.out.cell 0; have c1 : w4.cell? ⟨w.heap.size, 1, none⟩ = some (.int .i64 t.hd.id.o) := HA.out.cell 1; have c2 : w4.cell? ⟨w.heap.size, 2, none⟩ = some (.int .i64 t.hd.id.k) := HA.out.cell 2; have c3 : w4.cell? ⟨w.heap.size, 3, none⟩ = some (.int .i64 t.hd.id.n) := HA.out.cell 3; have c4 : w4.cell? ⟨w.heap.size, 4, none⟩ = some (.int .i64 t.hd.seq) := HA.out.cell 4; have c5 : w4.cell? ⟨w.heap.size, 5, none⟩ = some (.int .i64 t.hd.life) := HA.out.cell 5; have c6 : w4.cell? ⟨w.heap.size, 6, none⟩ = some (.int .i64 t.level) := HA.out.cell 6; have c7 : w4.cell? ⟨w.heap.size, 7, none⟩ = some (.bool t.over) := HA.out.cell 7; have c8 : w4.cell? ⟨w.heap.size, 8, none⟩ = some (.slice s.ea t.es.length s.ec) := HA.out.cell 8; have c9 : w4.cell? ⟨w.heap.size, 9, none⟩ = some (.slice s.ra t.rs.length s.rc) := HA.out.cell 9; clear HP9 HB9 HS9 HA9 hp hg)
    | (go_at_call 14; refine (dlen_any HP.out _ (fun _ _ => rfl)).mono ?_; rintro e w9 ⟨rfl, hww⟩; have hww := hww.symm; subst hww)
    | (go_at_call 11; refine (HGE.out _ _ _ _ HP.out).mono ?_; rintro e w5 ⟨s5, rfl, hb⟩; have HA9 := HA; have HB9 := HB; have HS9 := HS; clear HA HB HS; have HA := Lib.hid (HA9.out.below hb HS9.out); have HB := Lib.hid (HB9.out.trans (hb.mono (Nat.le_of_lt HS9.out))); have HS := Lib.hid (Nat.lt_of_lt_of_le HS9.out hb.size); have HP9 := HP; clear HP; have HP := Lib.hid ((HP9.out.below hb).below ((Below.refl _ _).alloc (Nat.le_refl _) (.cells #[.int .i64 t.hd.id.d, .int .i64 t.hd.id.o, .int .i64 t.hd.id.k, .int .i64 t.hd.id.n, .int .i64 t.hd.seq, .int .i64 lf, .int .i64 t.level, .bool t.over, .slice s5.ea t.es.length s5.ec, .slice s5.ra t.rs.length s5.rc] 39))); have HA8 := HA; have HB8 := HB; have HS8 := HS; clear HA HB HS; have HA := Lib.hid (HA8.out.alloc (.cells #[.int .i64 t.hd.id.d, .int .i64 t.hd.id.o, .int .i64 t.hd.id.k, .int .i64 t.hd.id.n, .int .i64 t.hd.seq, .int .i64 lf, .int .i64 t.level, .bool t.over, .slice s5.ea t.es.length s5.ec, .slice s5.ra t.rs.length s5.rc] 39)); have HB := Lib.hid (HB8.out.alloc (Nat.le_of_lt HS8.out) (.cells #[.int .i64 t.hd.id.d, .int .i64 t.hd.id.o, .int .i64 t.hd.id.k, .int .i64 t.hd.id.n, .int .i64 t.hd.seq, .int .i64 lf, .int .i64 t.level, .bool t.over, .slice s5.ea t.es.length s5.ec, .slice s5.ra t.rs.length s5.rc] 39)); have HS : Hid (w.heap.size < (w5.alloc (.cells #[.int .i64 t.hd.id.d, .int .i64 t.hd.id.o, .int .i64 t.hd.id.k, .int .i64 t.hd.id.n, .int .i64 t.hd.seq, .int .i64 lf, .int .i64 t.level, .bool t.over, .slice s5.ea t.es.length s5.ec, .slice s5.ra t.rs.length s5.rc] 39)).heap.size) := (by have := HS8.out; unfold Hid; simp; omega); clear c0 c1 c2 c3 c4 c5 c6 c7 c8 c9; have c0 : (w5.alloc (.cells #[.int .i64 t.hd.id.d, .int .i64 t.hd.id.o, .int .i64 t.hd.id.k, .int .i64 t.hd.id.n, .int .i64 t.hd.seq, .int .i64 lf, .int .i64 t.level, .bool t.over, .slice s5.ea t.es.length s5.ec, .slice s5.ra t.rs.length s5.rc] 39)).cell? ⟨w.heap.size, 0, none⟩ = some (.int .i64 t.hd.id.d) := HA.out.cell 0; have c1 : (w5.alloc (.cells #[.int .i64 t.hd.id.d, .int .i64 t.hd.id.o, .int .i64 t.hd.id.k, .int .i64 t.hd.id.n, .int .i64 t.hd.seq, .int .i64 lf, .int .i64 t.level, .bool t.over, .slice s5.ea t.es.length s5.ec, .slice s5.ra t.rs.length s5.rc] 39)).cell? ⟨w.heap.size, 1, none⟩ = some (.int .i64 t.hd.id.o) := HA.out.cell 1; have c2 : (w5.alloc (.cells #[.int .i64 t.hd.id.d, .int .i64 t.hd.id.o, .int .i64 t.hd.id.k, .int .i64 t.hd.id.n, .int .i64 t.hd.seq, .int .i64 lf, .int .i64 t.level, .bool t.over, .slice s5.ea t.es.length s5.ec, .slice s5.ra t.rs.length s5.rc] 39)).cell? ⟨w.heap.size, 2, none⟩ = some (.int .i64 t.hd.id.k) := HA.out.cell 2; have c3 : (w5.alloc (.cells #[.int .i64 t.hd.id.d, .int .i64 t.hd.id.o, .int .i64 t.hd.id.k, .int .i64 t.hd.id.n, .int .i64 t.hd.seq, .int .i64 lf, .int .i64 t.level, .bool t.over, .slice s5.ea t.es.length s5.ec, .slice s5.ra t.rs.length s5.rc] 39)).cell? ⟨w.heap.size, 3, none⟩ = some (.int .i64 t.hd.id.n) := HA.out.cell 3; have c4 : (w5.alloc (.cells #[.int .i64 t.hd.id.d, .int .i64 t.hd.id.o, .int .i64 t.hd.id.k, .int .i64 t.hd.id.n, .int .i64 t.hd.seq, .int .i64 lf, .int .i64 t.level, .bool t.over, .slice s5.ea t.es.length s5.ec, .slice s5.ra t.rs.length s5.rc] 39)).cell? ⟨w.heap.size, 4, none⟩ = some (.int .i64 t.hd.seq) := HA.out.cell 4; have c5 : (w5.alloc (.cells #[.int .i64 t.hd.id.d, .int .i64 t.hd.id.o, .int .i64 t.hd.id.k, .int .i64 t.hd.id.n, .int .i64 t.hd.seq, .int .i64 lf, .int .i64 t.level, .bool t.over, .slice s5.ea t.es.length s5.ec, .slice s5.ra t.rs.length s5.rc] 39)).cell? ⟨w.heap.size, 5, none⟩ = some (.int .i64 t.hd.life) := HA.out.cell 5; have c6 : (w5.alloc (.cells #[.int .i64 t.hd.id.d, .int .i64 t.hd.id.o, .int .i64 t.hd.id.k, .int .i64 t.hd.id.n, .int .i64 t.hd.seq, .int .i64 lf, .int .i64 t.level, .bool t.over, .slice s5.ea t.es.length s5.ec, .slice s5.ra t.rs.length s5.rc] 39)).cell? ⟨w.heap.size, 6, none⟩ = some (.int .i64 t.level) := HA.out.cell 6; have c7 : (w5.alloc (.cells #[.int .i64 t.hd.id.d, .int .i64 t.hd.id.o, .int .i64 t.hd.id.k, .int .i64 t.hd.id.n, .int .i64 t.hd.seq, .int .i64 lf, .int .i64 t.level, .bool t.over, .slice s5.ea t.es.length s5.ec, .slice s5.ra t.rs.length s5.rc] 39)).cell? ⟨w.heap.size, 7, none⟩ = some (.bool t.over) := HA.out.cell 7; have c8 : (w5.alloc (.cells #[.int .i64 t.hd.id.d, .int .i64 t.hd.id.o, .int .i64 t.hd.id.k, .int .i64 t.hd.id.n, .int .i64 t.hd.seq, .int .i64 lf, .int .i64 t.level, .bool t.over, .slice s5.ea t.es.length s5.ec, .slice s5.ra t.rs.length s5.rc] 39)).cell? ⟨w.heap.size, 8, none⟩ = some (.slice s.ea t.es.length s.ec) := HA.out.cell 8; have c9 : (w5.alloc (.cells #[.int .i64 t.hd.id.d, .int .i64 t.hd.id.o, .int .i64 t.hd.id.k, .int .i64 t.hd.id.n, .int .i64 t.hd.seq, .int .i64 lf, .int .i64 t.level, .bool t.over, .slice s5.ea t.es.length s5.ec, .slice s5.ra t.rs.length s5.rc] 39)).cell? ⟨w.heap.size, 9, none⟩ = some (.slice s.ra t.rs.length s.rc) := HA.out.cell 9; have k5 : (w5.alloc (.cells #[.int .i64 t.hd.id.d, .int .i64 t.hd.id.o, .int .i64 t.hd.id.k, .int .i64 t.hd.id.n, .int .i64 t.hd.seq, .int .i64 lf, .int .i64 t.level, .bool t.over, .slice s5.ea t.es.length s5.ec, .slice s5.ra t.rs.length s5.rc] 39)).cell? ⟨w5.heap.size, 5, none⟩ = some (.int .i64 lf) := (Arr.new w5 39 [.int .i64 t.hd.id.d, .int .i64 t.hd.id.o, .int .i64 t.hd.id.k, .int .i64 t.hd.id.n, .int .i64 t.hd.seq, .int .i64 lf, .int .i64 t.level, .bool t.over, .slice s5.ea t.es.length s5.ec, .slice s5.ra t.rs.length s5.rc]).cell 5; clear HA9 HB9 HS9 HP9 HA8 HB8 HS8 hb)
    | (go_at_call 19; refine (HAG.out _ _ _ _ HP.out).mono ?_; rintro e w6 ⟨A6, k6, rfl, hp, hg⟩; have HP9 := HP; have HB9 := HB; clear HP HB; have HP := Lib.hid hp; have HB := Lib.hid (below_map HB9.out hg (by have := HP9.out.hm; have := HN.out; omega) HB9.out.size); clear HP9 HB9 hp hg))
  go_ret
  exact ⟨rfl, HB.out⟩
set_option maxHeartbeats 3200000 in
set_option maxRecDepth 100000 in
theorem ages_no (t : TiV) (s : Sl2) (now later : Int) (w : World) (hin : In2 w t s) (hlong : ¬ (100 < t.es.length ∨ 100 < t.rs.length)) (h1 : 0 ≤ now) (h2 : 0 ≤ later) (h3 : now ≤ 274877906944) (h4 : later ≤ 274877906944) (hr : rightV t = true) (hq : ¬ later < t.hd.life) : Calls Try.prog 5 #[aggV t s, .int .i64 now, .int .i64 later] w fun e w' => e = .returned (.bool true) ∧ Below w.heap.size w w' := by
  have hlens : t.es.length ≤ 100 ∧ t.rs.length ≤ 100 := by omega
  have hd : decide (100 < t.es.length ∨ 100 < t.rs.length) = false := decide_eq_false hlong
  clear hlong
  have g1 : ¬ now < 0 := by omega
  have g2 : ¬ later < 0 := by omega
  have g3 : ¬ 274877906944 < now := by omega
  have g4 : ¬ 274877906944 < later := by omega
  have hw := awake_any
  have hn := fun W => dnew_any 3 (by omega) W
  have hlo := long_any 0 0 t s
  have HA0 : Hid (Arr (w.alloc (.cells #[.int .i64 t.hd.id.d, .int .i64 t.hd.id.o, .int .i64 t.hd.id.k, .int .i64 t.hd.id.n, .int .i64 t.hd.seq, .int .i64 t.hd.life, .int .i64 t.level, .bool t.over, .slice s.ea t.es.length s.ec, .slice s.ra t.rs.length s.rc] 39)) w.heap.size 39 [.int .i64 t.hd.id.d, .int .i64 t.hd.id.o, .int .i64 t.hd.id.k, .int .i64 t.hd.id.n, .int .i64 t.hd.seq, .int .i64 t.hd.life, .int .i64 t.level, .bool t.over, .slice s.ea t.es.length s.ec, .slice s.ra t.rs.length s.rc]) := Arr.new w _ _
  have HB0 : Hid (Below w.heap.size w (w.alloc (.cells #[.int .i64 t.hd.id.d, .int .i64 t.hd.id.o, .int .i64 t.hd.id.k, .int .i64 t.hd.id.n, .int .i64 t.hd.seq, .int .i64 t.hd.life, .int .i64 t.level, .bool t.over, .slice s.ea t.es.length s.ec, .slice s.ra t.rs.length s.rc] 39))) := (Below.refl _ _).alloc (Nat.le_refl _) _
  have HS0 : Hid (w.heap.size < (w.alloc (.cells #[.int .i64 t.hd.id.d, .int .i64 t.hd.id.o, .int .i64 t.hd.id.k, .int .i64 t.hd.id.n, .int .i64 t.hd.seq, .int .i64 t.hd.life, .int .i64 t.level, .bool t.over, .slice s.ea t.es.length s.ec, .slice s.ra t.rs.length s.rc] 39)).heap.size) := by unfold Hid; simp
  have HI := Lib.hid hin
  have hm0 : momD now := by unfold momD; omega
  have hm : momD (now + later) := by unfold momD; omega
  have hrh := right_head hr
  have e1 : -9223372036854775808 ≤ now + later ∧ now + later ≤ 9223372036854775807 := by omega
  have e2 : -9223372036854775808 ≤ t.hd.life - later ∧ t.hd.life - later ≤ 9223372036854775807 := by omega
  have hput := put_one hr hm0
  have HRD : Hid (∀ W, Below w.heap.size w W → Rd2 W t s) := fun W k => (hin.below k).rd hlens.1 hlens.2
  have HPU : Hid (∀ W n0 pb mb, ProgD W n0 pb mb 3 [] → Rd2 W t s → Calls Try.prog 16 #[.pointer (some ⟨pb, 0, none⟩), .agg #[.int .i64 t.hd.id.d, .int .i64 t.hd.id.o, .int .i64 t.hd.id.k, .int .i64 t.hd.id.n, .int .i64 t.hd.seq, .int .i64 t.hd.life, .int .i64 t.level, .bool t.over, .slice s.ea t.es.length s.ec, .slice s.ra t.rs.length s.rc], .int .i64 now] W fun e w' => e = .returned (.tuple #[.int .i64 1, .int .i64 0]) ∧ ProgD w' n0 pb mb 3 [enD t now] ∧ W.grownBy w' (some mb)) := fun W n0 pb mb h hr => by
    have := dput_any h hr now (by omega)
    unfold PutE at this
    rw [hput] at this
    exact this

  have HGE : Hid (∀ W n0 pb mb, ProgD W n0 pb mb 3 [enD t now] → Calls Try.prog 11 #[.pointer (some ⟨pb, 0, none⟩), .agg #[.int .i64 t.hd.id.d, .int .i64 t.hd.id.o, .int .i64 t.hd.id.k, .int .i64 t.hd.id.n], .int .i64 (now + later)] W fun e w' => ∃ s5 : Sl2, e = .returned (.tuple #[.agg #[.int .i64 0, .int .i64 0, .int .i64 0, .int .i64 0, .int .i64 0, .int .i64 0, .int .i64 0, .bool false, .slice s5.ea 0 s5.ec, .slice s5.ra 0 s5.rc], .bool false]) ∧ Below W.heap.size W w') := fun W n0 pb mb h => by
    refine (dget_any h t.hd.id (right_okI hr) (now + later)).mono ?_
    unfold GetE
    rw [get_no hq]
    rintro e w' ⟨s5, rfl, _, hb⟩
    refine ⟨s5, ?_, hb⟩
    skip
    skip
    rfl
  have HAG : Hid (∀ W n0 pb mb, ProgD W n0 pb mb 3 [enD t now] → Calls Try.prog 19 #[.pointer (some ⟨pb, 0, none⟩), .int .i64 (now + later)] W fun e w' => ∃ A c, e = .returned (.slice A 1 c) ∧ ProgD w' n0 pb mb 3 [] ∧ W.grownBy w' (some mb)) := fun W n0 pb mb h => by
    refine (dage_any h (now + later) (by simp)).mono ?_
    unfold AgeE
    rw [age_no hm hq]
    rintro e w' ⟨v, rfl, hv, hp, hg⟩
    obtain ⟨A, c, e, _⟩ := hv.shape
    exact ⟨A, c, by rw [e]; rfl, hp, hg⟩
  have hq2 : decide (later < t.hd.life) = false := decide_eq_false hq
  skip
  clear hin hput hr hrh hm0 hm hq hlens 
  unfold aggV
  go_enter Try.func5, Try.ntmps5
  go_wp2_with (first
    | (go_at_call 6; refine (hw _).mono ?_; rintro e w1 ⟨rfl, hb⟩; have HA := Lib.hid (HA0.out.below hb HS0.out); have HB := Lib.hid (HB0.out.trans (hb.mono (Nat.le_of_lt HS0.out))); have HS := Lib.hid (Nat.lt_of_lt_of_le HS0.out hb.size); clear hb)
    | (go_at_call 7; refine (hn _).mono ?_; rintro e w2 ⟨rfl, hp, hb⟩; have HA9 := HA; have HB9 := HB; have HS9 := HS; clear HA HB HS; have HA := Lib.hid (HA9.out.below hb HS9.out); have HB := Lib.hid (HB9.out.trans (hb.mono (Nat.le_of_lt HS9.out))); have HS := Lib.hid (Nat.lt_of_lt_of_le HS9.out hb.size); have HP := Lib.hid hp; have HN : Hid (w.heap.size ≤ w1.heap.size) := Nat.le_of_lt HS9.out; have c0 : w2.cell? ⟨w.heap.size, 0, none⟩ = some (.int .i64 t.hd.id.d) := HA.out.cell 0; have c1 : w2.cell? ⟨w.heap.size, 1, none⟩ = some (.int .i64 t.hd.id.o) := HA.out.cell 1; have c2 : w2.cell? ⟨w.heap.size, 2, none⟩ = some (.int .i64 t.hd.id.k) := HA.out.cell 2; have c3 : w2.cell? ⟨w.heap.size, 3, none⟩ = some (.int .i64 t.hd.id.n) := HA.out.cell 3; have c4 : w2.cell? ⟨w.heap.size, 4, none⟩ = some (.int .i64 t.hd.seq) := HA.out.cell 4; have c5 : w2.cell? ⟨w.heap.size, 5, none⟩ = some (.int .i64 t.hd.life) := HA.out.cell 5; have c6 : w2.cell? ⟨w.heap.size, 6, none⟩ = some (.int .i64 t.level) := HA.out.cell 6; have c7 : w2.cell? ⟨w.heap.size, 7, none⟩ = some (.bool t.over) := HA.out.cell 7; have c8 : w2.cell? ⟨w.heap.size, 8, none⟩ = some (.slice s.ea t.es.length s.ec) := HA.out.cell 8; have c9 : w2.cell? ⟨w.heap.size, 9, none⟩ = some (.slice s.ra t.rs.length s.rc) := HA.out.cell 9; clear HA9 HB9 HS9 hb hp)
    | (go_at_call 9; refine (hlo _).mono ?_; rw [hd]; rintro e w3 ⟨rfl, hb⟩; have HA9 := HA; have HB9 := HB; have HS9 := HS; clear HA HB HS; have HA := Lib.hid (HA9.out.below hb HS9.out); have HB := Lib.hid (HB9.out.trans (hb.mono (Nat.le_of_lt HS9.out))); have HS := Lib.hid (Nat.lt_of_lt_of_le HS9.out hb.size); have HP9 := HP; clear HP; have HP := Lib.hid (HP9.out.below hb); clear c0 c1 c2 c3 c4 c5 c6 c7 c8 c9; have c0 : w3.cell? ⟨w.heap.size, 0, none⟩ = some (.int .i64 t.hd.id.d) := HA.out.cell 0; have c1 : w3.cell? ⟨w.heap.size, 1, none⟩ = some (.int .i64 t.hd.id.o) := HA.out.cell 1; have c2 : w3.cell? ⟨w.heap.size, 2, none⟩ = some (.int .i64 t.hd.id.k) := HA.out.cell 2; have c3 : w3.cell? ⟨w.heap.size, 3, none⟩ = some (.int .i64 t.hd.id.n) := HA.out.cell 3; have c4 : w3.cell? ⟨w.heap.size, 4, none⟩ = some (.int .i64 t.hd.seq) := HA.out.cell 4; have c5 : w3.cell? ⟨w.heap.size, 5, none⟩ = some (.int .i64 t.hd.life) := HA.out.cell 5; have c6 : w3.cell? ⟨w.heap.size, 6, none⟩ = some (.int .i64 t.level) := HA.out.cell 6; have c7 : w3.cell? ⟨w.heap.size, 7, none⟩ = some (.bool t.over) := HA.out.cell 7; have c8 : w3.cell? ⟨w.heap.size, 8, none⟩ = some (.slice s.ea t.es.length s.ec) := HA.out.cell 8; have c9 : w3.cell? ⟨w.heap.size, 9, none⟩ = some (.slice s.ra t.rs.length s.rc) := HA.out.cell 9; clear HA9 HB9 HS9 HP9 hb)
    | (go_at_call 16; refine (HPU.out _ _ _ _ HP.out (HRD.out _ HB.out)).mono ?_; rintro e w4 ⟨rfl, hp, hg⟩; have HP9 := HP; have HB9 := HB; have HS9 := HS; have HA9 := HA; clear HP HB HS HA; have HP := Lib.hid hp; have HB := Lib.hid (below_map HB9.out hg (by have := HP9.out.hm; have := HN.out; omega) HB9.out.size); have HS := Lib.hid (Nat.lt_of_lt_of_le HS9.out hg.size); have HA := Lib.hid (arr_map HA9.out hg HP9.out); clear c0 c1 c2 c3 c4 c5 c6 c7 c8 c9; have c0 : w4.cell? ⟨w.heap.size, 0, none⟩ = some (.int .i64 t.hd.id.d) := HA.out.cell 0; have c1 : w4.cell? ⟨w.heap.size, 1, none⟩ = some (.int .i64 t.hd.id.o) := HA.out.cell 1; have c2 : w4.cell? ⟨w.heap.size, 2, none⟩ = some (.int .i64 t.hd.id.k) := HA.out.cell 2; have c3 : w4.cell? ⟨w.heap.size, 3, none⟩ = some (.int .i64 t.hd.id.n) := HA.out.cell 3; have c4 : w4.cell? ⟨w.heap.size, 4, none⟩ = some (.int .i64 t.hd.seq) := HA.out.cell 4; have c5 : w4.cell? ⟨w.heap.size, 5, none⟩ = some (.int .i64 t.hd.life) := HA.out.cell 5; have c6 : w4.cell? ⟨w.heap.size, 6, none⟩ = some (.int .i64 t.level) := HA.out.cell 6; have c7 : w4.cell? ⟨w.heap.size, 7, none⟩ = some (.bool t.over) := HA.out.cell 7; have c8 : w4.cell? ⟨w.heap.size, 8, none⟩ = some (.slice s.ea t.es.length s.ec) := HA.out.cell 8; have c9 : w4.cell? ⟨w.heap.size, 9, none⟩ = some (.slice s.ra t.rs.length s.rc) := HA.out.cell 9; clear HP9 HB9 HS9 HA9 hp hg)
    | (go_at_call 14; refine (dlen_any HP.out _ (fun _ _ => rfl)).mono ?_; rintro e w9 ⟨rfl, hww⟩; have hww := hww.symm; subst hww)
    | (go_at_call 11; refine (HGE.out _ _ _ _ HP.out).mono ?_; rintro e w5 ⟨s5, rfl, hb⟩; have HA9 := HA; have HB9 := HB; have HS9 := HS; clear HA HB HS; have HA := Lib.hid (HA9.out.below hb HS9.out); have HB := Lib.hid (HB9.out.trans (hb.mono (Nat.le_of_lt HS9.out))); have HS := Lib.hid (Nat.lt_of_lt_of_le HS9.out hb.size); have HP9 := HP; clear HP; have HP := Lib.hid ((HP9.out.below hb).below ((Below.refl _ _).alloc (Nat.le_refl _) (.cells #[.int .i64 0, .int .i64 0, .int .i64 0, .int .i64 0, .int .i64 0, .int .i64 0, .int .i64 0, .bool false, .slice s5.ea 0 s5.ec, .slice s5.ra 0 s5.rc] 39))); have HA8 := HA; have HB8 := HB; have HS8 := HS; clear HA HB HS; have HA := Lib.hid (HA8.out.alloc (.cells #[.int .i64 0, .int .i64 0, .int .i64 0, .int .i64 0, .int .i64 0, .int .i64 0, .int .i64 0, .bool false, .slice s5.ea 0 s5.ec, .slice s5.ra 0 s5.rc] 39)); have HB := Lib.hid (HB8.out.alloc (Nat.le_of_lt HS8.out) (.cells #[.int .i64 0, .int .i64 0, .int .i64 0, .int .i64 0, .int .i64 0, .int .i64 0, .int .i64 0, .bool false, .slice s5.ea 0 s5.ec, .slice s5.ra 0 s5.rc] 39)); have HS : Hid (w.heap.size < (w5.alloc (.cells #[.int .i64 0, .int .i64 0, .int .i64 0, .int .i64 0, .int .i64 0, .int .i64 0, .int .i64 0, .bool false, .slice s5.ea 0 s5.ec, .slice s5.ra 0 s5.rc] 39)).heap.size) := (by have := HS8.out; unfold Hid; simp; omega); clear c0 c1 c2 c3 c4 c5 c6 c7 c8 c9; have c0 : (w5.alloc (.cells #[.int .i64 0, .int .i64 0, .int .i64 0, .int .i64 0, .int .i64 0, .int .i64 0, .int .i64 0, .bool false, .slice s5.ea 0 s5.ec, .slice s5.ra 0 s5.rc] 39)).cell? ⟨w.heap.size, 0, none⟩ = some (.int .i64 t.hd.id.d) := HA.out.cell 0; have c1 : (w5.alloc (.cells #[.int .i64 0, .int .i64 0, .int .i64 0, .int .i64 0, .int .i64 0, .int .i64 0, .int .i64 0, .bool false, .slice s5.ea 0 s5.ec, .slice s5.ra 0 s5.rc] 39)).cell? ⟨w.heap.size, 1, none⟩ = some (.int .i64 t.hd.id.o) := HA.out.cell 1; have c2 : (w5.alloc (.cells #[.int .i64 0, .int .i64 0, .int .i64 0, .int .i64 0, .int .i64 0, .int .i64 0, .int .i64 0, .bool false, .slice s5.ea 0 s5.ec, .slice s5.ra 0 s5.rc] 39)).cell? ⟨w.heap.size, 2, none⟩ = some (.int .i64 t.hd.id.k) := HA.out.cell 2; have c3 : (w5.alloc (.cells #[.int .i64 0, .int .i64 0, .int .i64 0, .int .i64 0, .int .i64 0, .int .i64 0, .int .i64 0, .bool false, .slice s5.ea 0 s5.ec, .slice s5.ra 0 s5.rc] 39)).cell? ⟨w.heap.size, 3, none⟩ = some (.int .i64 t.hd.id.n) := HA.out.cell 3; have c4 : (w5.alloc (.cells #[.int .i64 0, .int .i64 0, .int .i64 0, .int .i64 0, .int .i64 0, .int .i64 0, .int .i64 0, .bool false, .slice s5.ea 0 s5.ec, .slice s5.ra 0 s5.rc] 39)).cell? ⟨w.heap.size, 4, none⟩ = some (.int .i64 t.hd.seq) := HA.out.cell 4; have c5 : (w5.alloc (.cells #[.int .i64 0, .int .i64 0, .int .i64 0, .int .i64 0, .int .i64 0, .int .i64 0, .int .i64 0, .bool false, .slice s5.ea 0 s5.ec, .slice s5.ra 0 s5.rc] 39)).cell? ⟨w.heap.size, 5, none⟩ = some (.int .i64 t.hd.life) := HA.out.cell 5; have c6 : (w5.alloc (.cells #[.int .i64 0, .int .i64 0, .int .i64 0, .int .i64 0, .int .i64 0, .int .i64 0, .int .i64 0, .bool false, .slice s5.ea 0 s5.ec, .slice s5.ra 0 s5.rc] 39)).cell? ⟨w.heap.size, 6, none⟩ = some (.int .i64 t.level) := HA.out.cell 6; have c7 : (w5.alloc (.cells #[.int .i64 0, .int .i64 0, .int .i64 0, .int .i64 0, .int .i64 0, .int .i64 0, .int .i64 0, .bool false, .slice s5.ea 0 s5.ec, .slice s5.ra 0 s5.rc] 39)).cell? ⟨w.heap.size, 7, none⟩ = some (.bool t.over) := HA.out.cell 7; have c8 : (w5.alloc (.cells #[.int .i64 0, .int .i64 0, .int .i64 0, .int .i64 0, .int .i64 0, .int .i64 0, .int .i64 0, .bool false, .slice s5.ea 0 s5.ec, .slice s5.ra 0 s5.rc] 39)).cell? ⟨w.heap.size, 8, none⟩ = some (.slice s.ea t.es.length s.ec) := HA.out.cell 8; have c9 : (w5.alloc (.cells #[.int .i64 0, .int .i64 0, .int .i64 0, .int .i64 0, .int .i64 0, .int .i64 0, .int .i64 0, .bool false, .slice s5.ea 0 s5.ec, .slice s5.ra 0 s5.rc] 39)).cell? ⟨w.heap.size, 9, none⟩ = some (.slice s.ra t.rs.length s.rc) := HA.out.cell 9; have k5 : (w5.alloc (.cells #[.int .i64 0, .int .i64 0, .int .i64 0, .int .i64 0, .int .i64 0, .int .i64 0, .int .i64 0, .bool false, .slice s5.ea 0 s5.ec, .slice s5.ra 0 s5.rc] 39)).cell? ⟨w5.heap.size, 5, none⟩ = some (.int .i64 0) := (Arr.new w5 39 [.int .i64 0, .int .i64 0, .int .i64 0, .int .i64 0, .int .i64 0, .int .i64 0, .int .i64 0, .bool false, .slice s5.ea 0 s5.ec, .slice s5.ra 0 s5.rc]).cell 5; clear HA9 HB9 HS9 HP9 HA8 HB8 HS8 hb)
    | (go_at_call 19; refine (HAG.out _ _ _ _ HP.out).mono ?_; rintro e w6 ⟨A6, k6, rfl, hp, hg⟩; have HP9 := HP; have HB9 := HB; clear HP HB; have HP := Lib.hid hp; have HB := Lib.hid (below_map HB9.out hg (by have := HP9.out.hm; have := HN.out; omega) HB9.out.size); clear HP9 HB9 hp hg))
  go_ret
  exact ⟨rfl, HB.out⟩
theorem ages_walk (t : TiV) (s : Sl2) (now : Int) (hnow : In64 now) (later : Int) (hlater : In64 later) (w : World) (hin : In2 w t s) : Calls Try.prog 5 #[aggV t s, .int .i64 now, .int .i64 later] w fun e w' => e = .returned (.bool true) ∧ Below w.heap.size w w' := by
  by_cases hlong : 100 < t.es.length ∨ 100 < t.rs.length
  · exact ages_long t s now later w hin hlong
  by_cases h1 : now < 0
  · exact ages_b1 t s now later w hin hlong h1
  by_cases h2 : later < 0
  · exact ages_b2 t s now later w hin hlong (by omega) h2
  by_cases h3 : 274877906944 < now
  · exact ages_b3 t s now later w hin hlong (by omega) (by omega) h3
  by_cases h4 : 274877906944 < later
  · exact ages_b4 t s now later w hin hlong (by omega) (by omega) (by omega) h4
  cases hr : rightV t with
  | false => exact ages_form t s now later w hin hlong (by omega) (by omega) (by omega) (by omega) hr
  | true =>
    by_cases hq : later < t.hd.life
    · exact ages_yes t s now later w hin hlong (by omega) (by omega) (by omega) (by omega) hr hq
    · exact ages_no t s now later w hin hlong (by omega) (by omega) (by omega) (by omega) hr hq
end Go.Proofs.Ytpaifkfpgoojiaa.ti
