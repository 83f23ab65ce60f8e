/-
  THE PROGRAM'S at, New, Len, Full; may a piece be (wire.Right).
-/
import Derived.Test.YtpaooddmgcekhaaGreatVOwn
namespace Go.Proofs.YtpaooddmgcekhaaGreat.ti
set_option linter.unusedSimpArgs false
set_option linter.unusedVariables false
open Go.RowKit
def cellsK (x : EnK) : List Value := [.int .i64 x.e.t.hd.id.d, .int .i64 x.e.t.hd.id.o, .int .i64 x.e.t.hd.id.k, .int .i64 x.e.t.hd.id.n, .int .i64 x.e.t.hd.seq, .int .i64 x.e.t.hd.life, .int .i64 x.e.t.level, .bool x.e.t.over, .slice x.s.ea x.e.t.es.length x.s.ec, .slice x.s.ra x.e.t.rs.length x.s.rc, .int .i64 x.e.exp]
theorem sizeK : (Tryz.prog.info? 78).map (·.size) = some 11 := by kernel_rfl
theorem range_take {W : World} {g o : Nat} {cs ds : List Value} (h : W.rangeAt g o (cs ++ ds)) : W.rangeAt g o cs := fun i v hv => h i v (by rw [List.getElem?_append_left (List.getElem?_eq_some_iff.1 hv).1]; exact hv)
set_option maxHeartbeats 1600000 in
set_option maxRecDepth 100000 in
theorem dat_any (x : EnK) (now : Int) (h : -9223372036854775808 ≤ x.e.exp - now ∧ x.e.exp - now ≤ 9223372036854775807) (w : World) : Calls Tryz.prog 38 #[aggK x, .int .i64 now] w fun e w' => e = .returned (aggV (toldD x.e now) x.s) ∧ Below w.heap.size w w' := by
  have HL := Lib.hid (dleft_any x now h)
  have A0 : Hid (Arr (w.alloc (.cells #[.int .i64 x.e.t.hd.id.d, .int .i64 x.e.t.hd.id.o, .int .i64 x.e.t.hd.id.k, .int .i64 x.e.t.hd.id.n, .int .i64 x.e.t.hd.seq, .int .i64 x.e.t.hd.life, .int .i64 x.e.t.level, .bool x.e.t.over, .slice x.s.ea x.e.t.es.length x.s.ec, .slice x.s.ra x.e.t.rs.length x.s.rc, .int .i64 x.e.exp] 78)) w.heap.size 78 (cellsK x)) := Arr.new w _ (cellsK x)
  have A1 : Hid (∀ A : Obj, Arr ((w.alloc A).alloc (.cells #[.int .i64 0, .int .i64 0, .int .i64 0, .int .i64 0, .int .i64 0, .int .i64 0, .int .i64 0, .bool false, .slice none 0 0, .slice none 0 0] 39)) (w.heap.size + 1) 39 cellsV0) := fun A => by
    have := Arr.new (w.alloc A) 39 cellsV0
    rwa [show (w.alloc A).heap.size = w.heap.size + 1 from by simp] at this
  have HB : Hid (∀ A B : Obj, Below w.heap.size w ((w.alloc A).alloc B)) := fun A B => ((Below.refl _ w).alloc (Nat.le_refl _) _).alloc (by simp) _
  obtain ⟨lf, hlf⟩ : ∃ lf, leftD x.e now = lf := ⟨_, rfl⟩
  have HLF := Lib.hid hlf
  rw [hlf] at HL
  clear h hlf
  unfold aggK at *
  go_enter Tryz.func38, Tryz.ntmps38
  go_wp2_with (first
    | (refine wpList_load_arr rfl 78 (.tmp 2) rfl w.heap.size rfl (A0.out.alloc _) Tryz.underlying78 rfl sizeK rfl ?_)
    | (go_at_call 42; refine (HL.out _).mono ?_; rintro e w1 ⟨rfl, hb⟩; have B0 := Lib.hid ((A0.out.alloc _).below hb (by simp <;> omega)); have B1 := Lib.hid ((A1.out _).below hb (by simp <;> omega)); have BB := Lib.hid ((HB.out _ _).trans (hb.mono (by simp <;> omega))); have z5 := B0.out.frozen 5; have k5 : w1.cell? ⟨w.heap.size, 5, none⟩ = some (.int .i64 x.e.t.hd.life) := B0.out.cell 5; clear hb A0 A1 HB)
    | (refine wpList_load_mid rfl 39 (.tmp 11) rfl w.heap.size 0 rfl (cellsV (toldD x.e now) x.s) _ (range_take (ds := [.int .i64 x.e.exp]) (show (w1.setCell ⟨w.heap.size, 5, none⟩ (.int .i64 lf)).rangeAt w.heap.size 0 (cellsV (toldD x.e now) x.s ++ [.int .i64 x.e.exp]) by rw [← HLF.out]; exact (B0.out.set 5 (.int .i64 (leftD x.e now))).range)) Tryz.underlying39 rfl sizeV ?_)
    | (refine wpList_store_arr rfl 39 (.tmp 4) (.tmp 12) rfl (w.heap.size + 1) rfl (vs := cellsV (toldD x.e now) x.s) rfl (B1.out.other (by omega) _ _) sizeV rfl rfl (cellsV_one _ _) ?_; intro W5 A5 B5 hs5 O5))
  refine bodyPost_ret (results_arr rfl rfl A5.out Tryz.underlying39 rfl sizeV rfl) rfl ?_
  exact ⟨rfl, (BB.out.setCell (p := ⟨w.heap.size, 5, none⟩) (Nat.le_refl _) _).trans (B5.out.mono (by omega))⟩
theorem rightW_tie (t : TiV) : rightW ⟨2, LieT.zero, t.tie, IdT.zero, IdT.zero, []⟩ = rightV t := by
  unfold rightW rightV packR
  rw [if_neg (show ¬ (2 : Int) = 1 by decide), if_pos rfl]
  have : unusedB ⟨2, LieT.zero, t.tie, IdT.zero, IdT.zero, []⟩ = true := by simp [unusedB, LieT.zero, IdT.zero, LieT.nil, IdT.nil]
  rw [this, Bool.and_true]
theorem dright_any (t : TiV) (s : Sl2) (w : World) (h : Rd2 w t s) : Calls Tryz.prog 33 #[.agg #[.int .i64 2, .int .i64 0, .int .i64 0, .int .i64 0, .int .i64 0, .int .i64 0, .int .i64 0, .int .i64 0, .int .i64 0, .int .i64 0, .int .i64 0, .bool false, .bool false, .int .i64 t.hd.id.d, .int .i64 t.hd.id.o, .int .i64 t.hd.id.k, .int .i64 t.hd.id.n, .int .i64 t.hd.seq, .int .i64 t.hd.life, .int .i64 t.level, .bool t.over, .slice s.ea t.es.length s.ec, .slice s.ra t.rs.length s.rc, .int .i64 0, .int .i64 0, .int .i64 0, .int .i64 0, .int .i64 0, .int .i64 0, .int .i64 0, .int .i64 0, .slice none 0 0]] w fun e w' => e = .returned (.bool (rightV t)) ∧ Below w.heap.size w w' := by
  have hp : Pk w.heap.size w ⟨2, LieT.zero, t.tie, IdT.zero, IdT.zero, []⟩ s.ea s.ra none s.ec s.rc 0 := ⟨h.e.rdr, h.r.rdr, fun q => by simp at q, ⟨by have := h.le.1; show t.es.length ≤ _; omega, h.le.2.1, h.le.2.2⟩, ⟨by have := h.lr.1; show t.rs.length ≤ _; omega, h.lr.2.1, h.lr.2.2⟩, ⟨by simp, by simp, by decide⟩, h.ok⟩
  have := wright_any ⟨2, LieT.zero, t.tie, IdT.zero, IdT.zero, []⟩ s.ea s.ra none s.ec s.rc 0 w hp
  rw [rightW_tie] at this
  exact this
set_option maxHeartbeats 800000 in
set_option maxRecDepth 100000 in
theorem dlen_any {w : World} {n0 pb mb : Nat} {room : Int} {K : List EnT} (h : ProgD w n0 pb mb room K) (W : World) (hW : ∀ k, k < w.heap.size → W.heap[k]? = w.heap[k]?) : Calls Tryz.prog 17 #[.pointer (some ⟨pb, 0, none⟩)] W fun e w' => e = .returned (.int .i64 K.length) ∧ w' = W := by
  have hc : W.cell? ⟨pb, 1, none⟩ = some (.map (some mb)) := (World.cell?_of_block (hW pb h.lt.1)).trans h.cells.2
  obtain ⟨L, hL, hp, _⟩ := h.has
  have hlen : (Builtin.len_ #[59] 3 #[.map (some mb)]).run Tryz.prog W = .ok (.int .i64 K.length) W := by
    have := hL.len (mt := 59) (et := 78) (by kernel_rfl) 3 W (hW mb h.lt.2)
    rwa [List.length_map, show L.length = K.length from by rw [← hp.length_eq, List.length_map]] at this
  obtain ⟨n, hn⟩ : ∃ n, K.length = n := ⟨_, rfl⟩
  rw [hn] at hlen ⊢
  clear hL hp h hn
  go_enter Tryz.func17, Tryz.ntmps17
  go_wp2
  go_ret
  exact ⟨rfl, rfl⟩
set_option maxHeartbeats 800000 in
set_option maxRecDepth 100000 in
theorem dfull_any {w : World} {n0 pb mb : Nat} {room : Int} {K : List EnT} (h : ProgD w n0 pb mb room K) (W : World) (hW : ∀ k, k < w.heap.size → W.heap[k]? = w.heap[k]?) : Calls Tryz.prog 35 #[.pointer (some ⟨pb, 0, none⟩)] W fun e w' => e = .returned (.bool (decide (room ≤ K.length))) ∧ ∃ n, w' = W.drewN n := by
  have hc : W.cell? ⟨pb, 0, none⟩ = some (.int .i64 room) := (World.cell?_of_block (hW pb h.lt.1)).trans h.cells.1
  have hl := fun n => dlen_any h (W.drewN n) hW
  have hroom := h.inv.room
  have e1 : decide (room ≤ (K.length : Int)) = ((K.length : Int) == room) := by rw [Bool.eq_iff_iff]; simp; omega
  rw [e1]
  obtain ⟨n, hn⟩ : ∃ n, K.length = n := ⟨_, rfl⟩
  rw [hn] at hl ⊢
  have HL := Lib.hid hl
  clear h hroom e1 hn hl
  go_enter Tryz.func35, Tryz.ntmps35
  go_wp2_with (go_quiet ((go_at_call 17; exact Calls.quiet_of_same (HL.out _))))
  go_ret
  exact ⟨rfl, _, rfl⟩
set_option maxHeartbeats 800000 in
set_option maxRecDepth 100000 in
theorem dnew_any (room : Int) (h : 1 ≤ room ∧ room ≤ 4096) (w : World) : Calls Tryz.prog 6 #[.int .i64 room] w fun e w' => e = .returned (.tuple #[.pointer (some ⟨w.heap.size + 1, 0, none⟩), .int .i64 0]) ∧ ProgD w' w.heap.size (w.heap.size + 1) w.heap.size room [] ∧ Below w.heap.size w w' := by
  have hw := dwithin_any room 1 4096 w
  rw [decide_eq_true h] at hw
  have hmm := @run_makeMap Tryz.prog
  have HP : Hid (ProgD ((w.alloc (.map #[] 0)).alloc (.cells #[.int .i64 room, .map (some w.heap.size)] 61)) w.heap.size (w.heap.size + 1) w.heap.size room []) := by
    refine ⟨?_, ⟨[], (MapV.made w).same (heap_alloc_old _ _ (by simp)), List.Perm.nil, by simp⟩, by omega, Nat.le_refl _, InvD.nil h.1⟩
    have := heap_alloc_new (w.alloc (.map #[] 0)) (.cells #[.int .i64 room, .map (some w.heap.size)] 61)
    simpa using this
  have HB : Hid (∀ A B : Obj, Below w.heap.size w ((w.alloc A).alloc B)) := fun A B => ((Below.refl _ w).alloc (Nat.le_refl _) _).alloc (by simp) _
  clear h
  go_enter Tryz.func6, Tryz.ntmps6
  go_wp2_with (go_at_call 21; refine hw.mono ?_; rintro e w1 ⟨rfl, hww⟩; have hww := hww.symm; subst hww)
  go_ret2
  exact ⟨rfl, HP.out, HB.out _ _⟩
set_option maxHeartbeats 800000 in
set_option maxRecDepth 100000 in
theorem dnew_not (room : Int) (h : ¬ (1 ≤ room ∧ room ≤ 4096)) (w : World) : Calls Tryz.prog 6 #[.int .i64 room] w fun e w' => e = .returned (.tuple #[.pointer none, .int .i64 1]) ∧ w' = w := by
  have hw := dwithin_any room 1 4096 w
  rw [decide_eq_false h] at hw
  clear h
  go_enter Tryz.func6, Tryz.ntmps6
  go_wp2_with (go_at_call 21; refine hw.mono ?_; rintro e w1 ⟨rfl, hww⟩; have hww := hww.symm; subst hww)
  go_ret2
  exact ⟨rfl, rfl⟩
end Go.Proofs.YtpaooddmgcekhaaGreat.ti
