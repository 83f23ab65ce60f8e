/-
  THE PROGRAM'S Put, where there is one of its id; Put in one.
-/
import Derived.Test.YtpaooddmgcekhaaGreatVPutA
namespace Go.Proofs.YtpaooddmgcekhaaGreat.ti
set_option linter.unusedSimpArgs false
set_option linter.unusedVariables false
open Go.RowKit
theorem new_range (a b : THd) : newT a b = -1 ∨ newT a b = 0 ∨ newT a b = 1 := by
  unfold newT numT
  repeat' split
  all_goals simp
theorem field_head (c0 c1 c2 c3 c4 c5 c6 c7 c8 c9 : Value) (W : World) : (Instr.field 39 (.agg #[c0, c1, c2, c3, c4, c5, c6, c7, c8, c9]) 0).run Tryz.prog W = .ok (.agg #[c0, c1, c2, c3, c4, c5]) W := by
  simp [Instr.field, run_underlying Tryz.underlying39, part, asAgg, Tryz.isAgg35, Tryz.sizeOf35, Result.andThen, go_sem]
section
attribute [local go_sem] field_head
set_option maxHeartbeats 3200000 in
set_option maxRecDepth 100000 in
theorem dput_some {w : World} {n0 pb mb : Nat} {room : Int} {K : List EnT} {t : TiV} {s : Sl2} (h : PutR w n0 pb mb room K t s) (now : Int) (hr : rightV t = true) (hm : momD now) (hroom : room ≤ 4096) (y : EnT) (hf : findD K t.hd.id = some y) : Calls Tryz.prog 19 #[.pointer (some ⟨pb, 0, none⟩), aggV t s, .int .i64 now] w (PutE room K t now n0 pb mb w) := by
  have he : putD room K t now = if 0 < newT t.hd (headD y now) then (2, 0, insD K (enD t now)) else (newT t.hd (headD y now), 0, K) := by unfold putD; rw [if_neg (fun q => q ⟨hr, hm⟩), hf]
  have hinv := h.P.inv.put t now
  have hlt := h.P.lt
  unfold PutE
  have HRt := Lib.hid (dright_any t s (w.alloc (.cells #[.int .i64 t.hd.id.d, .int .i64 t.hd.id.o, .int .i64 t.hd.id.k, .int .i64 t.hd.id.n, .int .i64 t.hd.seq, .int .i64 t.hd.life, .int .i64 t.level, .bool t.over, .slice s.ea t.es.length s.ec, .slice s.ra t.rs.length s.rc] 39)) (h.box (Below.refl _ _)).2.2.1)
  rw [hr] at HRt
  have ht := dtime_any now
  rw [decide_eq_true hm] at ht
  have A0 : Hid (Arr (w.alloc (.cells #[.int .i64 t.hd.id.d, .int .i64 t.hd.id.o, .int .i64 t.hd.id.k, .int .i64 t.hd.id.n, .int .i64 t.hd.seq, .int .i64 t.hd.life, .int .i64 t.level, .bool t.over, .slice s.ea t.es.length s.ec, .slice s.ra t.rs.length s.rc] 39)) w.heap.size 39 [.int .i64 t.hd.id.d, .int .i64 t.hd.id.o, .int .i64 t.hd.id.k, .int .i64 t.hd.id.n, .int .i64 t.hd.seq, .int .i64 t.hd.life, .int .i64 t.level, .bool t.over, .slice s.ea t.es.length s.ec, .slice s.ra t.rs.length s.rc]) := (h.box (Below.refl _ _)).1
  obtain ⟨x, hx1, hx2, hx3⟩ := h.P.look (right_okI hr)
  rw [hf] at hx2
  obtain ⟨x, rfl⟩ : ∃ z, x = some z := by cases x; cases hx2; exact ⟨_, rfl⟩
  obtain rfl : x.e = y := Option.some.inj hx2
  obtain ⟨-, hxK⟩ := hx3 x rfl
  replace hx1 : ∀ W' : World, W'.heap[mb]? = w.heap[mb]? → (Instr.lookup 59 (.map (some mb)) (.agg #[.int .i64 t.hd.id.d, .int .i64 t.hd.id.o, .int .i64 t.hd.id.k, .int .i64 t.hd.id.n]) true).run Tryz.prog W' = .ok (.tuple #[.agg #[.int .i64 x.e.t.hd.id.d, .int .i64 x.e.t.hd.id.o, .int .i64 x.e.t.hd.id.k, .int .i64 x.e.t.hd.id.n, .int .i64 x.e.t.hd.seq, .int .i64 x.e.t.hd.life, .int .i64 x.e.t.level, .bool x.e.t.over, .slice x.s.ea x.e.t.es.length x.s.ec, .slice x.s.ra x.e.t.rs.length x.s.rc, .int .i64 x.e.exp], .bool true]) W' := hx1
  have hxe := (h.P.inv.ok _ hxK).2
  have hsub : -9223372036854775808 ≤ x.e.exp - now ∧ x.e.exp - now ≤ 9223372036854775807 := by unfold momD at hm; omega
  obtain ⟨lf, hlf⟩ : ∃ lf, leftD x.e now = lf := ⟨_, rfl⟩
  obtain ⟨nv, hnv⟩ : ∃ nv, newT t.hd (headD x.e now) = nv := ⟨_, rfl⟩
  have hrange := new_range t.hd (headD x.e now)
  rw [hnv] at hrange
  have hat : Hid (∀ W, Calls Tryz.prog 38 #[.agg #[.int .i64 x.e.t.hd.id.d, .int .i64 x.e.t.hd.id.o, .int .i64 x.e.t.hd.id.k, .int .i64 x.e.t.hd.id.n, .int .i64 x.e.t.hd.seq, .int .i64 x.e.t.hd.life, .int .i64 x.e.t.level, .bool x.e.t.over, .slice x.s.ea x.e.t.es.length x.s.ec, .slice x.s.ra x.e.t.rs.length x.s.rc, .int .i64 x.e.exp], .int .i64 now] W fun e w' => e = .returned (.agg #[.int .i64 x.e.t.hd.id.d, .int .i64 x.e.t.hd.id.o, .int .i64 x.e.t.hd.id.k, .int .i64 x.e.t.hd.id.n, .int .i64 x.e.t.hd.seq, .int .i64 lf, .int .i64 x.e.t.level, .bool x.e.t.over, .slice x.s.ea x.e.t.es.length x.s.ec, .slice x.s.ra x.e.t.rs.length x.s.rc]) ∧ Below W.heap.size W w') := fun W => by
    have := dat_any x now hsub W
    unfold aggV toldD headD at this
    rw [hlf] at this
    exact this
  have hnn : Hid (∀ W, Calls Tryz.prog 37 #[.agg #[.int .i64 t.hd.id.d, .int .i64 t.hd.id.o, .int .i64 t.hd.id.k, .int .i64 t.hd.id.n, .int .i64 t.hd.seq, .int .i64 t.hd.life], .agg #[.int .i64 x.e.t.hd.id.d, .int .i64 x.e.t.hd.id.o, .int .i64 x.e.t.hd.id.k, .int .i64 x.e.t.hd.id.n, .int .i64 x.e.t.hd.seq, .int .i64 lf]] W fun e w' => e = .returned (.int .i64 nv) ∧ Fwd W w') := fun W => by
    have hl := right_head hr
    have hl2 := left_ge x.e now
    have hl3 : leftD x.e now ≤ 1099512232576 := by unfold leftD; unfold momD at hm; split <;> omega
    have := pnewer_any t.hd (headD x.e now) (by unfold In64; omega) (by unfold headD; dsimp only; unfold In64; omega) W
    rw [hnv] at this
    unfold headD at this
    rw [hlf] at this
    exact this
  have HBX : Hid (∀ W, Below (w.alloc (.cells #[.int .i64 t.hd.id.d, .int .i64 t.hd.id.o, .int .i64 t.hd.id.k, .int .i64 t.hd.id.n, .int .i64 t.hd.seq, .int .i64 t.hd.life, .int .i64 t.level, .bool t.over, .slice s.ea t.es.length s.ec, .slice s.ra t.rs.length s.rc] 39)).heap.size (w.alloc (.cells #[.int .i64 t.hd.id.d, .int .i64 t.hd.id.o, .int .i64 t.hd.id.k, .int .i64 t.hd.id.n, .int .i64 t.hd.seq, .int .i64 t.hd.life, .int .i64 t.level, .bool t.over, .slice s.ea t.es.length s.ec, .slice s.ra t.rs.length s.rc] 39)) W → (W.cell? ⟨pb, 1, none⟩ = some (.map (some mb)) ∧ W.cell? ⟨w.heap.size, 0, none⟩ = some (.int .i64 t.hd.id.d) ∧ W.cell? ⟨w.heap.size, 1, none⟩ = some (.int .i64 t.hd.id.o) ∧ W.cell? ⟨w.heap.size, 2, none⟩ = some (.int .i64 t.hd.id.k) ∧ W.cell? ⟨w.heap.size, 3, none⟩ = some (.int .i64 t.hd.id.n) ∧ W.cell? ⟨w.heap.size, 4, none⟩ = some (.int .i64 t.hd.seq) ∧ W.cell? ⟨w.heap.size, 5, none⟩ = some (.int .i64 t.hd.life) ∧ W.cell? ⟨w.heap.size, 6, none⟩ = some (.int .i64 t.level) ∧ W.cell? ⟨w.heap.size, 7, none⟩ = some (.bool t.over) ∧ W.cell? ⟨w.heap.size, 8, none⟩ = some (.slice s.ea t.es.length s.ec) ∧ W.cell? ⟨w.heap.size, 9, none⟩ = some (.slice s.ra t.rs.length s.rc)) ∧ W.heap[mb]? = w.heap[mb]? ∧ ProgD W n0 pb mb room K ∧ Rd2 W t s ∧ w.grownBy W (some mb) ∧ Arr W w.heap.size 39 (cellsV t s)) := fun W k => by
    obtain ⟨a, b, c, d⟩ := h.box k
    exact ⟨box_cells a b, d.block _ hlt.2, b, c, grown_below d _, a⟩
  have HM := Lib.hid hm
  have HRR := Lib.hid hr
  rw [hnv] at he
  clear h hf hx2 hm hr hxe hsub hlf hnv hxK hx3
  unfold aggV at *
  go_enter Tryz.func19, Tryz.ntmps19
  go_wp2_with (first
    | (refine wpList_load_arr rfl 39 (.tmp 4) rfl w.heap.size rfl A0.out Tryz.underlying39 rfl sizeV rfl ?_)
    | (go_at_call 33; refine HRt.out.mono ?_; rintro e w1 ⟨rfl, hb⟩; have HB1 := Lib.hid hb; clear hb)
    | (go_at_call 34; refine (ht _).mono ?_; rintro e w2 ⟨rfl, hww⟩; have hww := hww.symm; subst hww))
  have S0 := (HBX.out w1.drew (HB1.out.drew)).1
  have M0 := (HBX.out w1.drew (HB1.out.drew)).2.1
  have hl1 := hx1 w1.drew M0
  have hl2 := fun O : Obj => hx1 (w1.alloc O).drew ((heap_alloc_old w1 O (by have := HB1.out.size; simp at this; show _ < w1.heap.size; omega)).trans M0)
  have SA := fun O : Obj => (HBX.out (w1.drew.alloc O) (HB1.out.drew.alloc HB1.out.size O)).1
  clear hx1
  go_region_held (fun W => W.cell? ⟨pb, 1, none⟩ = some (.map (some mb)) ∧ W.cell? ⟨w.heap.size, 0, none⟩ = some (.int .i64 t.hd.id.d) ∧ W.cell? ⟨w.heap.size, 1, none⟩ = some (.int .i64 t.hd.id.o) ∧ W.cell? ⟨w.heap.size, 2, none⟩ = some (.int .i64 t.hd.id.k) ∧ W.cell? ⟨w.heap.size, 3, none⟩ = some (.int .i64 t.hd.id.n) ∧ W.cell? ⟨w.heap.size, 4, none⟩ = some (.int .i64 t.hd.seq) ∧ W.cell? ⟨w.heap.size, 5, none⟩ = some (.int .i64 t.hd.life) ∧ W.cell? ⟨w.heap.size, 6, none⟩ = some (.int .i64 t.level) ∧ W.cell? ⟨w.heap.size, 7, none⟩ = some (.bool t.over) ∧ W.cell? ⟨w.heap.size, 8, none⟩ = some (.slice s.ea t.es.length s.ec) ∧ W.cell? ⟨w.heap.size, 9, none⟩ = some (.slice s.ra t.rs.length s.rc)) (first | exact S0 | exact SA _ | exact (SA _).drew) (fail)
  all_goals have H2 := Lib.hid (HBX.out ((w1.alloc (.cells #[.int .i64 x.e.t.hd.id.d, .int .i64 x.e.t.hd.id.o, .int .i64 x.e.t.hd.id.k, .int .i64 x.e.t.hd.id.n, .int .i64 x.e.t.hd.seq, .int .i64 x.e.t.hd.life, .int .i64 x.e.t.level, .bool x.e.t.over, .slice x.s.ea x.e.t.es.length x.s.ec, .slice x.s.ra x.e.t.rs.length x.s.rc, .int .i64 x.e.exp] 78)).drew) ((HB1.out.alloc HB1.out.size _).drew))
  all_goals have E2 : Hid (Arr ((w1.alloc (.cells #[.int .i64 x.e.t.hd.id.d, .int .i64 x.e.t.hd.id.o, .int .i64 x.e.t.hd.id.k, .int .i64 x.e.t.hd.id.n, .int .i64 x.e.t.hd.seq, .int .i64 x.e.t.hd.life, .int .i64 x.e.t.level, .bool x.e.t.over, .slice x.s.ea x.e.t.es.length x.s.ec, .slice x.s.ra x.e.t.rs.length x.s.rc, .int .i64 x.e.exp] 78)).drew) w1.heap.size 78 (cellsK x)) := Arr.new w1 _ (cellsK x)
  all_goals have hs2 : ((w1.alloc (.cells #[.int .i64 x.e.t.hd.id.d, .int .i64 x.e.t.hd.id.o, .int .i64 x.e.t.hd.id.k, .int .i64 x.e.t.hd.id.n, .int .i64 x.e.t.hd.seq, .int .i64 x.e.t.hd.life, .int .i64 x.e.t.level, .bool x.e.t.over, .slice x.s.ea x.e.t.es.length x.s.ec, .slice x.s.ra x.e.t.rs.length x.s.rc, .int .i64 x.e.exp] 78)).drew).heap.size = w1.heap.size + 1 := by simp
  all_goals have HW1 : Hid (w.heap.size < w1.heap.size) := by have := HB1.out.size; unfold Hid; simp at this; omega
  all_goals generalize (w1.alloc (.cells #[.int .i64 x.e.t.hd.id.d, .int .i64 x.e.t.hd.id.o, .int .i64 x.e.t.hd.id.k, .int .i64 x.e.t.hd.id.n, .int .i64 x.e.t.hd.seq, .int .i64 x.e.t.hd.life, .int .i64 x.e.t.level, .bool x.e.t.over, .slice x.s.ea x.e.t.es.length x.s.ec, .slice x.s.ra x.e.t.rs.length x.s.rc, .int .i64 x.e.exp] 78)).drew = W2 at *
  all_goals have HS2 := Lib.hid hs2
  all_goals have HE := Lib.hid he
  all_goals have HINV := Lib.hid hinv
  all_goals clear S0 M0 hl1 hl2 SA hs2 hinv he
  all_goals have SF : Hid (∀ W : World, KeepC W2 W → (W.cell? ⟨w.heap.size, 0, none⟩ = some (.int .i64 t.hd.id.d) ∧ W.cell? ⟨w.heap.size, 1, none⟩ = some (.int .i64 t.hd.id.o) ∧ W.cell? ⟨w.heap.size, 2, none⟩ = some (.int .i64 t.hd.id.k) ∧ W.cell? ⟨w.heap.size, 3, none⟩ = some (.int .i64 t.hd.id.n) ∧ W.cell? ⟨w.heap.size, 4, none⟩ = some (.int .i64 t.hd.seq) ∧ W.cell? ⟨w.heap.size, 5, none⟩ = some (.int .i64 t.hd.life)) ∧ (W.cell? ⟨w1.heap.size, 0, none⟩ = some (.int .i64 x.e.t.hd.id.d) ∧ W.cell? ⟨w1.heap.size, 1, none⟩ = some (.int .i64 x.e.t.hd.id.o) ∧ W.cell? ⟨w1.heap.size, 2, none⟩ = some (.int .i64 x.e.t.hd.id.k) ∧ W.cell? ⟨w1.heap.size, 3, none⟩ = some (.int .i64 x.e.t.hd.id.n) ∧ W.cell? ⟨w1.heap.size, 4, none⟩ = some (.int .i64 x.e.t.hd.seq) ∧ W.cell? ⟨w1.heap.size, 5, none⟩ = some (.int .i64 x.e.t.hd.life) ∧ W.cell? ⟨w1.heap.size, 6, none⟩ = some (.int .i64 x.e.t.level) ∧ W.cell? ⟨w1.heap.size, 7, none⟩ = some (.bool x.e.t.over) ∧ W.cell? ⟨w1.heap.size, 8, none⟩ = some (.slice x.s.ea x.e.t.es.length x.s.ec) ∧ W.cell? ⟨w1.heap.size, 9, none⟩ = some (.slice x.s.ra x.e.t.rs.length x.s.rc) ∧ W.cell? ⟨w1.heap.size, 10, none⟩ = some (.int .i64 x.e.exp))) := fun W k => ⟨⟨(k.arr H2.out.2.2.2.2.2).cell 0, (k.arr H2.out.2.2.2.2.2).cell 1, (k.arr H2.out.2.2.2.2.2).cell 2, (k.arr H2.out.2.2.2.2.2).cell 3, (k.arr H2.out.2.2.2.2.2).cell 4, (k.arr H2.out.2.2.2.2.2).cell 5⟩, (k.arr E2.out).cell 0, (k.arr E2.out).cell 1, (k.arr E2.out).cell 2, (k.arr E2.out).cell 3, (k.arr E2.out).cell 4, (k.arr E2.out).cell 5, (k.arr E2.out).cell 6, (k.arr E2.out).cell 7, (k.arr E2.out).cell 8, (k.arr E2.out).cell 9, (k.arr E2.out).cell 10⟩
  all_goals have SF0 := SF.out W2.drew (fun _ _ _ _ q => q)
  all_goals go_wp2
  all_goals go_region_held (fun W => (W.cell? ⟨w.heap.size, 0, none⟩ = some (.int .i64 t.hd.id.d) ∧ W.cell? ⟨w.heap.size, 1, none⟩ = some (.int .i64 t.hd.id.o) ∧ W.cell? ⟨w.heap.size, 2, none⟩ = some (.int .i64 t.hd.id.k) ∧ W.cell? ⟨w.heap.size, 3, none⟩ = some (.int .i64 t.hd.id.n) ∧ W.cell? ⟨w.heap.size, 4, none⟩ = some (.int .i64 t.hd.seq) ∧ W.cell? ⟨w.heap.size, 5, none⟩ = some (.int .i64 t.hd.life)) ∧ (W.cell? ⟨w1.heap.size, 0, none⟩ = some (.int .i64 x.e.t.hd.id.d) ∧ W.cell? ⟨w1.heap.size, 1, none⟩ = some (.int .i64 x.e.t.hd.id.o) ∧ W.cell? ⟨w1.heap.size, 2, none⟩ = some (.int .i64 x.e.t.hd.id.k) ∧ W.cell? ⟨w1.heap.size, 3, none⟩ = some (.int .i64 x.e.t.hd.id.n) ∧ W.cell? ⟨w1.heap.size, 4, none⟩ = some (.int .i64 x.e.t.hd.seq) ∧ W.cell? ⟨w1.heap.size, 5, none⟩ = some (.int .i64 x.e.t.hd.life) ∧ W.cell? ⟨w1.heap.size, 6, none⟩ = some (.int .i64 x.e.t.level) ∧ W.cell? ⟨w1.heap.size, 7, none⟩ = some (.bool x.e.t.over) ∧ W.cell? ⟨w1.heap.size, 8, none⟩ = some (.slice x.s.ea x.e.t.es.length x.s.ec) ∧ W.cell? ⟨w1.heap.size, 9, none⟩ = some (.slice x.s.ra x.e.t.rs.length x.s.rc) ∧ W.cell? ⟨w1.heap.size, 10, none⟩ = some (.int .i64 x.e.exp))) (assumption) ((first
    | (go_at_call 38; refine (hat.out _).mono ?_; rintro e w3 ⟨rfl, hb3⟩; have k3 : KeepC W2 w3 := (fun k cs T fr q => KeepC.below hb3 k cs T fr q); have SF3 := SF.out w3 k3; have B3 : Hid (Below W2.heap.size W2 w3) := ((Below.refl _ W2).drew).trans hb3; have K3 := Lib.hid k3; clear hb3 k3)
    | (go_at_call 37; refine (hnn.out _).mono ?_; rintro e w4 ⟨rfl, hf4⟩; have k4 : KeepC W2 w4 := K3.out.trans (KeepC.below hf4.bel); have SF4 := SF.out w4 k4; have B4 : Hid (Below W2.heap.size W2 w4) := B3.out.trans (hf4.bel.mono B3.out.size); clear hf4 k4)))
  all_goals have P4 := Lib.hid (H2.out.2.2.1.below B4.out)
  all_goals have R4 := Lib.hid (H2.out.2.2.2.1.below B4.out)
  all_goals have G4 := Lib.hid (H2.out.2.2.2.2.1.andThen (grown_below B4.out (some mb)) (fun j e => .inr e))
  all_goals have A4 : Hid (Arr w4 w.heap.size 39 [.int .i64 t.hd.id.d, .int .i64 t.hd.id.o, .int .i64 t.hd.id.k, .int .i64 t.hd.id.n, .int .i64 t.hd.seq, .int .i64 t.hd.life, .int .i64 t.level, .bool t.over, .slice s.ea t.es.length s.ec, .slice s.ra t.rs.length s.rc]) := H2.out.2.2.2.2.2.below B4.out (by have := HW1.out; have := HS2.out; omega)
  all_goals clear SF SF0 SF3 SF4 hat hnn
  all_goals rcases hrange with rfl | rfl | rfl
  all_goals first
    | (rw [if_neg (by decide)] at HE; go_wp2; go_ret2; rw [HE.out]; exact ⟨rfl, P4.out, G4.out⟩)
    | (rw [if_pos (by decide)] at HE; rw [HE.out] at HINV
       go_wp2_with (first
        | (refine wpList_load_arr rfl 39 (.tmp 4) rfl w.heap.size rfl A4.out Tryz.underlying39 rfl sizeV rfl ?_)
        | (go_at_call 36; refine (dkeep_any P4.out t s now R4.out HRR.out HM.out HINV.out hroom).mono ?_; rintro e w5 ⟨rfl, hp5, hg5⟩; have H5 := Lib.hid (And.intro hp5 (G4.out.andThen hg5 (fun j e => .inr e))); clear hp5 hg5))
       go_ret2
       rw [HE.out]
       exact ⟨rfl, H5.out.1, H5.out.2⟩)
end
theorem dput_any {w : World} {n0 pb mb : Nat} {room : Int} {K : List EnT} {t : TiV} {s : Sl2} (h : ProgD w n0 pb mb room K) (hs : Rd2 w t s) (now : Int) (hroom : room ≤ 4096) : Calls Tryz.prog 19 #[.pointer (some ⟨pb, 0, none⟩), aggV t s, .int .i64 now] w (PutE room K t now n0 pb mb w) := by
  cases hr : rightV t with
  | false => exact dput_bad1 ⟨h, hs⟩ now hr
  | true =>
    by_cases hm : momD now
    · cases hf : findD K t.hd.id with
      | none => exact dput_none ⟨h, hs⟩ now hr hm hroom hf
      | some y => exact dput_some ⟨h, hs⟩ now hr hm hroom y hf
    · exact dput_bad2 ⟨h, hs⟩ now hr hm
end Go.Proofs.YtpaooddmgcekhaaGreat.ti
