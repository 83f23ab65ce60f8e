/-
  THE PROGRAM'S Put.
-/
import Derived.Test.YtpaooddmgcekhaaGreatVPut
namespace Go.Proofs.YtpaooddmgcekhaaGreat.ti
set_option linter.unusedSimpArgs false
set_option linter.unusedVariables false
open Go.RowKit
/-- What Put leaves. -/
def PutE (room : Int) (K : List EnT) (t : TiV) (now : Int) (n0 pb mb : Nat) (w : World) (e : Ending) (w' : World) : Prop :=
  e = .returned (.tuple #[.int .i64 (putD room K t now).1, .int .i64 (putD room K t now).2.1]) ∧ ProgD w' n0 pb mb room (putD room K t now).2.2 ∧ w.grownBy w' (some mb)
theorem grown_below {W W' : World} (h : Below W.heap.size W W') (r : Option Nat) : W.grownBy W' r := ⟨h.os, h.tape, h.output, h.size, fun k hk _ => h.block k hk⟩
/-- What is ready when the walk of Put begins. -/
structure PutR (w : World) (n0 pb mb : Nat) (room : Int) (K : List EnT) (t : TiV) (s : Sl2) : Prop where
  P : ProgD w n0 pb mb room K
  R : Rd2 w t s
theorem PutR.box {w : World} {n0 pb mb : Nat} {room : Int} {K : List EnT} {t : TiV} {s : Sl2} (h : PutR w n0 pb mb room K t s) {W : World} (k : Below (w.alloc (.cells #[.int .i64 t.hd.id.d, .int .i64 t.hd.id.o, .int .i64 t.hd.id.k, .int .i64 t.hd.id.n, .int .i64 t.hd.seq, .int .i64 t.hd.life, .int .i64 t.level, .bool t.over, .slice s.ea t.es.length s.ec, .slice s.ra t.rs.length s.rc] 39)).heap.size (w.alloc (.cells #[.int .i64 t.hd.id.d, .int .i64 t.hd.id.o, .int .i64 t.hd.id.k, .int .i64 t.hd.id.n, .int .i64 t.hd.seq, .int .i64 t.hd.life, .int .i64 t.level, .bool t.over, .slice s.ea t.es.length s.ec, .slice s.ra t.rs.length s.rc] 39)) W) :
    Arr W w.heap.size 39 (cellsV t s) ∧ ProgD W n0 pb mb room K ∧ Rd2 W t s ∧ Below w.heap.size w W := by
  have hb : Below w.heap.size w (w.alloc (.cells #[.int .i64 t.hd.id.d, .int .i64 t.hd.id.o, .int .i64 t.hd.id.k, .int .i64 t.hd.id.n, .int .i64 t.hd.seq, .int .i64 t.hd.life, .int .i64 t.level, .bool t.over, .slice s.ea t.es.length s.ec, .slice s.ra t.rs.length s.rc] 39)) := (Below.refl _ _).alloc (Nat.le_refl _) _
  have hb2 : Below w.heap.size w W := hb.trans (k.mono (by simp))
  exact ⟨(Arr.new w 39 (cellsV t s)).below k (by simp), h.P.below hb2, h.R.below hb2, hb2⟩
theorem box_cells {W : World} {g n0 pb mb : Nat} {room : Int} {K : List EnT} {t : TiV} {s : Sl2} (h : Arr W g 39 (cellsV t s)) (hp : ProgD W n0 pb mb room K) : W.cell? ⟨pb, 1, none⟩ = some (.map (some mb)) ∧ W.cell? ⟨g, 0, none⟩ = some (.int .i64 t.hd.id.d) ∧ W.cell? ⟨g, 1, none⟩ = some (.int .i64 t.hd.id.o) ∧ W.cell? ⟨g, 2, none⟩ = some (.int .i64 t.hd.id.k) ∧ W.cell? ⟨g, 3, none⟩ = some (.int .i64 t.hd.id.n) ∧ W.cell? ⟨g, 4, none⟩ = some (.int .i64 t.hd.seq) ∧ W.cell? ⟨g, 5, none⟩ = some (.int .i64 t.hd.life) ∧ W.cell? ⟨g, 6, none⟩ = some (.int .i64 t.level) ∧ W.cell? ⟨g, 7, none⟩ = some (.bool t.over) ∧ W.cell? ⟨g, 8, none⟩ = some (.slice s.ea t.es.length s.ec) ∧ W.cell? ⟨g, 9, none⟩ = some (.slice s.ra t.rs.length s.rc) :=
  ⟨hp.cells.2, h.cell 0, h.cell 1, h.cell 2, h.cell 3, h.cell 4, h.cell 5, h.cell 6, h.cell 7, h.cell 8, h.cell 9⟩
set_option maxHeartbeats 3200000 in
set_option maxRecDepth 100000 in
theorem dput_bad1 {w : World} {n0 pb mb : Nat} {room : Int} {K : List EnT} {t : TiV} {s : Sl2} (h : PutR w n0 pb mb room K t s) (now : Int) (hr : rightV t = false) : Calls Tryz.prog 19 #[.pointer (some ⟨pb, 0, none⟩), aggV t s, .int .i64 now] w (PutE room K t now n0 pb mb w) := by
  have he : putD room K t now = (0, 1, K) := by unfold putD; rw [if_pos (by rw [hr]; simp)]
  unfold PutE
  rw [he]
  have HRt := Lib.hid (dright_any t s (w.alloc (.cells #[.int .i64 t.hd.id.d, .int .i64 t.hd.id.o, .int .i64 t.hd.id.k, .int .i64 t.hd.id.n, .int .i64 t.hd.seq, .int .i64 t.hd.life, .int .i64 t.level, .bool t.over, .slice s.ea t.es.length s.ec, .slice s.ra t.rs.length s.rc] 39)) (h.box (Below.refl _ _)).2.2.1)
  rw [hr] at HRt
  have A0 : Hid (Arr (w.alloc (.cells #[.int .i64 t.hd.id.d, .int .i64 t.hd.id.o, .int .i64 t.hd.id.k, .int .i64 t.hd.id.n, .int .i64 t.hd.seq, .int .i64 t.hd.life, .int .i64 t.level, .bool t.over, .slice s.ea t.es.length s.ec, .slice s.ra t.rs.length s.rc] 39)) w.heap.size 39 [.int .i64 t.hd.id.d, .int .i64 t.hd.id.o, .int .i64 t.hd.id.k, .int .i64 t.hd.id.n, .int .i64 t.hd.seq, .int .i64 t.hd.life, .int .i64 t.level, .bool t.over, .slice s.ea t.es.length s.ec, .slice s.ra t.rs.length s.rc]) := (h.box (Below.refl _ _)).1
  have HX : Hid (∀ W, Below (w.alloc (.cells #[.int .i64 t.hd.id.d, .int .i64 t.hd.id.o, .int .i64 t.hd.id.k, .int .i64 t.hd.id.n, .int .i64 t.hd.seq, .int .i64 t.hd.life, .int .i64 t.level, .bool t.over, .slice s.ea t.es.length s.ec, .slice s.ra t.rs.length s.rc] 39)).heap.size (w.alloc (.cells #[.int .i64 t.hd.id.d, .int .i64 t.hd.id.o, .int .i64 t.hd.id.k, .int .i64 t.hd.id.n, .int .i64 t.hd.seq, .int .i64 t.hd.life, .int .i64 t.level, .bool t.over, .slice s.ea t.es.length s.ec, .slice s.ra t.rs.length s.rc] 39)) W → ProgD W n0 pb mb room K ∧ w.grownBy W (some mb)) := fun W k => ⟨(h.box k).2.1, grown_below (h.box k).2.2.2 _⟩
  clear h he hr
  unfold aggV at *
  go_enter Tryz.func19, Tryz.ntmps19
  go_wp2_with (first
    | (refine wpList_load_arr rfl 39 (.tmp 4) rfl w.heap.size rfl A0.out Tryz.underlying39 rfl sizeV rfl ?_)
    | (go_at_call 33; refine HRt.out.mono ?_; rintro e w1 ⟨rfl, hb⟩; have HE := Lib.hid (HX.out _ hb); clear hb))
  go_ret2
  exact ⟨rfl, HE.out.1, HE.out.2⟩
set_option maxHeartbeats 3200000 in
set_option maxRecDepth 100000 in
theorem dput_bad2 {w : World} {n0 pb mb : Nat} {room : Int} {K : List EnT} {t : TiV} {s : Sl2} (h : PutR w n0 pb mb room K t s) (now : Int) (hr : rightV t = true) (hm : ¬ momD now) : Calls Tryz.prog 19 #[.pointer (some ⟨pb, 0, none⟩), aggV t s, .int .i64 now] w (PutE room K t now n0 pb mb w) := by
  have he : putD room K t now = (0, 1, K) := by unfold putD; rw [if_pos (fun q => hm q.2)]
  unfold PutE
  rw [he]
  have HRt := Lib.hid (dright_any t s (w.alloc (.cells #[.int .i64 t.hd.id.d, .int .i64 t.hd.id.o, .int .i64 t.hd.id.k, .int .i64 t.hd.id.n, .int .i64 t.hd.seq, .int .i64 t.hd.life, .int .i64 t.level, .bool t.over, .slice s.ea t.es.length s.ec, .slice s.ra t.rs.length s.rc] 39)) (h.box (Below.refl _ _)).2.2.1)
  rw [hr] at HRt
  have ht := dtime_any now
  rw [decide_eq_false hm] at ht
  have A0 : Hid (Arr (w.alloc (.cells #[.int .i64 t.hd.id.d, .int .i64 t.hd.id.o, .int .i64 t.hd.id.k, .int .i64 t.hd.id.n, .int .i64 t.hd.seq, .int .i64 t.hd.life, .int .i64 t.level, .bool t.over, .slice s.ea t.es.length s.ec, .slice s.ra t.rs.length s.rc] 39)) w.heap.size 39 [.int .i64 t.hd.id.d, .int .i64 t.hd.id.o, .int .i64 t.hd.id.k, .int .i64 t.hd.id.n, .int .i64 t.hd.seq, .int .i64 t.hd.life, .int .i64 t.level, .bool t.over, .slice s.ea t.es.length s.ec, .slice s.ra t.rs.length s.rc]) := (h.box (Below.refl _ _)).1
  have HX : Hid (∀ W, Below (w.alloc (.cells #[.int .i64 t.hd.id.d, .int .i64 t.hd.id.o, .int .i64 t.hd.id.k, .int .i64 t.hd.id.n, .int .i64 t.hd.seq, .int .i64 t.hd.life, .int .i64 t.level, .bool t.over, .slice s.ea t.es.length s.ec, .slice s.ra t.rs.length s.rc] 39)).heap.size (w.alloc (.cells #[.int .i64 t.hd.id.d, .int .i64 t.hd.id.o, .int .i64 t.hd.id.k, .int .i64 t.hd.id.n, .int .i64 t.hd.seq, .int .i64 t.hd.life, .int .i64 t.level, .bool t.over, .slice s.ea t.es.length s.ec, .slice s.ra t.rs.length s.rc] 39)) W → ProgD W n0 pb mb room K ∧ w.grownBy W (some mb)) := fun W k => ⟨(h.box k).2.1, grown_below (h.box k).2.2.2 _⟩
  clear h he hr hm
  unfold aggV at *
  go_enter Tryz.func19, Tryz.ntmps19
  go_wp2_with (first
    | (refine wpList_load_arr rfl 39 (.tmp 4) rfl w.heap.size rfl A0.out Tryz.underlying39 rfl sizeV rfl ?_)
    | (go_at_call 33; refine HRt.out.mono ?_; rintro e w1 ⟨rfl, hb⟩; have HE := Lib.hid (HX.out _ hb); clear hb)
    | (go_at_call 34; refine (ht _).mono ?_; rintro e w2 ⟨rfl, hww⟩; have hww := hww.symm; subst hww))
  go_ret2
  exact ⟨rfl, HE.out.1, HE.out.2⟩
set_option maxHeartbeats 3200000 in
set_option maxRecDepth 100000 in
theorem dput_none {w : World} {n0 pb mb : Nat} {room : Int} {K : List EnT} {t : TiV} {s : Sl2} (h : PutR w n0 pb mb room K t s) (now : Int) (hr : rightV t = true) (hm : momD now) (hroom : room ≤ 4096) (hf : findD K t.hd.id = none) : Calls Tryz.prog 19 #[.pointer (some ⟨pb, 0, none⟩), aggV t s, .int .i64 now] w (PutE room K t now n0 pb mb w) := by
  have he : putD room K t now = if room ≤ K.length then (0, 3, K) else (1, 0, insD K (enD t now)) := by unfold putD; rw [if_neg (fun q => q ⟨hr, hm⟩), hf]
  have hinv := h.P.inv.put t now
  have hlt := h.P.lt
  unfold PutE
  have HRt := Lib.hid (dright_any t s (w.alloc (.cells #[.int .i64 t.hd.id.d, .int .i64 t.hd.id.o, .int .i64 t.hd.id.k, .int .i64 t.hd.id.n, .int .i64 t.hd.seq, .int .i64 t.hd.life, .int .i64 t.level, .bool t.over, .slice s.ea t.es.length s.ec, .slice s.ra t.rs.length s.rc] 39)) (h.box (Below.refl _ _)).2.2.1)
  rw [hr] at HRt
  have ht := dtime_any now
  rw [decide_eq_true hm] at ht
  have A0 : Hid (Arr (w.alloc (.cells #[.int .i64 t.hd.id.d, .int .i64 t.hd.id.o, .int .i64 t.hd.id.k, .int .i64 t.hd.id.n, .int .i64 t.hd.seq, .int .i64 t.hd.life, .int .i64 t.level, .bool t.over, .slice s.ea t.es.length s.ec, .slice s.ra t.rs.length s.rc] 39)) w.heap.size 39 [.int .i64 t.hd.id.d, .int .i64 t.hd.id.o, .int .i64 t.hd.id.k, .int .i64 t.hd.id.n, .int .i64 t.hd.seq, .int .i64 t.hd.life, .int .i64 t.level, .bool t.over, .slice s.ea t.es.length s.ec, .slice s.ra t.rs.length s.rc]) := (h.box (Below.refl _ _)).1
  obtain ⟨x, hx1, hx2, _⟩ := h.P.look (right_okI hr)
  rw [hf] at hx2
  obtain rfl : x = none := by cases x; rfl; cases hx2
  replace hx1 : ∀ W' : World, W'.heap[mb]? = w.heap[mb]? → (Instr.lookup 59 (.map (some mb)) (.agg #[.int .i64 t.hd.id.d, .int .i64 t.hd.id.o, .int .i64 t.hd.id.k, .int .i64 t.hd.id.n]) true).run Tryz.prog W' = .ok (.tuple #[.agg #[.int .i64 0, .int .i64 0, .int .i64 0, .int .i64 0, .int .i64 0, .int .i64 0, .int .i64 0, .bool false, .slice none 0 0, .slice none 0 0, .int .i64 0], .bool false]) W' := hx1
  have HBX : Hid (∀ W, Below (w.alloc (.cells #[.int .i64 t.hd.id.d, .int .i64 t.hd.id.o, .int .i64 t.hd.id.k, .int .i64 t.hd.id.n, .int .i64 t.hd.seq, .int .i64 t.hd.life, .int .i64 t.level, .bool t.over, .slice s.ea t.es.length s.ec, .slice s.ra t.rs.length s.rc] 39)).heap.size (w.alloc (.cells #[.int .i64 t.hd.id.d, .int .i64 t.hd.id.o, .int .i64 t.hd.id.k, .int .i64 t.hd.id.n, .int .i64 t.hd.seq, .int .i64 t.hd.life, .int .i64 t.level, .bool t.over, .slice s.ea t.es.length s.ec, .slice s.ra t.rs.length s.rc] 39)) W → (W.cell? ⟨pb, 1, none⟩ = some (.map (some mb)) ∧ W.cell? ⟨w.heap.size, 0, none⟩ = some (.int .i64 t.hd.id.d) ∧ W.cell? ⟨w.heap.size, 1, none⟩ = some (.int .i64 t.hd.id.o) ∧ W.cell? ⟨w.heap.size, 2, none⟩ = some (.int .i64 t.hd.id.k) ∧ W.cell? ⟨w.heap.size, 3, none⟩ = some (.int .i64 t.hd.id.n) ∧ W.cell? ⟨w.heap.size, 4, none⟩ = some (.int .i64 t.hd.seq) ∧ W.cell? ⟨w.heap.size, 5, none⟩ = some (.int .i64 t.hd.life) ∧ W.cell? ⟨w.heap.size, 6, none⟩ = some (.int .i64 t.level) ∧ W.cell? ⟨w.heap.size, 7, none⟩ = some (.bool t.over) ∧ W.cell? ⟨w.heap.size, 8, none⟩ = some (.slice s.ea t.es.length s.ec) ∧ W.cell? ⟨w.heap.size, 9, none⟩ = some (.slice s.ra t.rs.length s.rc)) ∧ W.heap[mb]? = w.heap[mb]? ∧ ProgD W n0 pb mb room K ∧ Rd2 W t s ∧ w.grownBy W (some mb) ∧ Arr W w.heap.size 39 (cellsV t s)) := fun W k => by
    obtain ⟨a, b, c, d⟩ := h.box k
    exact ⟨box_cells a b, d.block _ hlt.2, b, c, grown_below d _, a⟩
  have HM := Lib.hid hm
  have HRR := Lib.hid hr
  clear h hf hx2 hm hr
  by_cases hfull : room ≤ K.length
  · rw [if_pos hfull] at he
    rw [he]
    have hd : decide (room ≤ (K.length : Int)) = true := decide_eq_true hfull
    clear he hfull hinv
    unfold aggV at *
    go_enter Tryz.func19, Tryz.ntmps19
    go_wp2_with (first
      | (refine wpList_load_arr rfl 39 (.tmp 4) rfl w.heap.size rfl A0.out Tryz.underlying39 rfl sizeV rfl ?_)
      | (go_at_call 33; refine HRt.out.mono ?_; rintro e w1 ⟨rfl, hb⟩; have HB1 := Lib.hid hb; clear hb)
      | (go_at_call 34; refine (ht _).mono ?_; rintro e w2 ⟨rfl, hww⟩; have hww := hww.symm; subst hww))
    have S0 := (HBX.out w1.drew (HB1.out.drew)).1
    have M0 := (HBX.out w1.drew (HB1.out.drew)).2.1
    have hl1 := hx1 w1.drew M0
    have hl2 := fun O : Obj => hx1 (w1.alloc O).drew ((heap_alloc_old w1 O (by have := HB1.out.size; simp at this; show _ < w1.heap.size; omega)).trans M0)
    have SA := fun O : Obj => (HBX.out (w1.drew.alloc O) (HB1.out.drew.alloc HB1.out.size O)).1
    clear hx1
    go_region_held (fun W => W.cell? ⟨pb, 1, none⟩ = some (.map (some mb)) ∧ W.cell? ⟨w.heap.size, 0, none⟩ = some (.int .i64 t.hd.id.d) ∧ W.cell? ⟨w.heap.size, 1, none⟩ = some (.int .i64 t.hd.id.o) ∧ W.cell? ⟨w.heap.size, 2, none⟩ = some (.int .i64 t.hd.id.k) ∧ W.cell? ⟨w.heap.size, 3, none⟩ = some (.int .i64 t.hd.id.n) ∧ W.cell? ⟨w.heap.size, 4, none⟩ = some (.int .i64 t.hd.seq) ∧ W.cell? ⟨w.heap.size, 5, none⟩ = some (.int .i64 t.hd.life) ∧ W.cell? ⟨w.heap.size, 6, none⟩ = some (.int .i64 t.level) ∧ W.cell? ⟨w.heap.size, 7, none⟩ = some (.bool t.over) ∧ W.cell? ⟨w.heap.size, 8, none⟩ = some (.slice s.ea t.es.length s.ec) ∧ W.cell? ⟨w.heap.size, 9, none⟩ = some (.slice s.ra t.rs.length s.rc)) (first | exact S0 | exact SA _ | exact (SA _).drew) (fail)
    all_goals have H2 := Lib.hid (HBX.out ((w1.alloc (.cells #[.int .i64 0, .int .i64 0, .int .i64 0, .int .i64 0, .int .i64 0, .int .i64 0, .int .i64 0, .bool false, .slice none 0 0, .slice none 0 0, .int .i64 0] 78)).drew) ((HB1.out.alloc HB1.out.size _).drew))
    all_goals generalize (w1.alloc (.cells #[.int .i64 0, .int .i64 0, .int .i64 0, .int .i64 0, .int .i64 0, .int .i64 0, .int .i64 0, .bool false, .slice none 0 0, .slice none 0 0, .int .i64 0] 78)).drew = W2 at *
    all_goals clear S0 M0 hl1 hl2 SA
    all_goals go_wp2_with (first
      | (go_at_call 35; refine (dfull_any H2.out.2.2.1 W2 (fun _ _ => rfl)).mono ?_; rw [hd]; rintro e w3 ⟨rfl, nq, rfl⟩))
    all_goals go_ret2
    all_goals exact ⟨rfl, H2.out.2.2.1.keep (fun _ _ q _ => q), ⟨H2.out.2.2.2.2.1.os, H2.out.2.2.2.2.1.tape, H2.out.2.2.2.2.1.output, H2.out.2.2.2.2.1.size, H2.out.2.2.2.2.1.block⟩⟩
  · rw [if_neg hfull] at he
    rw [he] at hinv ⊢
    have hd : decide (room ≤ (K.length : Int)) = false := decide_eq_false hfull
    have HI := Lib.hid hinv
    clear he hfull hinv
    unfold aggV at *
    go_enter Tryz.func19, Tryz.ntmps19
    go_wp2_with (first
      | (refine wpList_load_arr rfl 39 (.tmp 4) rfl w.heap.size rfl A0.out Tryz.underlying39 rfl sizeV rfl ?_)
      | (go_at_call 33; refine HRt.out.mono ?_; rintro e w1 ⟨rfl, hb⟩; have HB1 := Lib.hid hb; clear hb)
      | (go_at_call 34; refine (ht _).mono ?_; rintro e w2 ⟨rfl, hww⟩; have hww := hww.symm; subst hww))
    have S0 := (HBX.out w1.drew (HB1.out.drew)).1
    have M0 := (HBX.out w1.drew (HB1.out.drew)).2.1
    have hl1 := hx1 w1.drew M0
    have hl2 := fun O : Obj => hx1 (w1.alloc O).drew ((heap_alloc_old w1 O (by have := HB1.out.size; simp at this; show _ < w1.heap.size; omega)).trans M0)
    have SA := fun O : Obj => (HBX.out (w1.drew.alloc O) (HB1.out.drew.alloc HB1.out.size O)).1
    clear hx1
    go_region_held (fun W => W.cell? ⟨pb, 1, none⟩ = some (.map (some mb)) ∧ W.cell? ⟨w.heap.size, 0, none⟩ = some (.int .i64 t.hd.id.d) ∧ W.cell? ⟨w.heap.size, 1, none⟩ = some (.int .i64 t.hd.id.o) ∧ W.cell? ⟨w.heap.size, 2, none⟩ = some (.int .i64 t.hd.id.k) ∧ W.cell? ⟨w.heap.size, 3, none⟩ = some (.int .i64 t.hd.id.n) ∧ W.cell? ⟨w.heap.size, 4, none⟩ = some (.int .i64 t.hd.seq) ∧ W.cell? ⟨w.heap.size, 5, none⟩ = some (.int .i64 t.hd.life) ∧ W.cell? ⟨w.heap.size, 6, none⟩ = some (.int .i64 t.level) ∧ W.cell? ⟨w.heap.size, 7, none⟩ = some (.bool t.over) ∧ W.cell? ⟨w.heap.size, 8, none⟩ = some (.slice s.ea t.es.length s.ec) ∧ W.cell? ⟨w.heap.size, 9, none⟩ = some (.slice s.ra t.rs.length s.rc)) (first | exact S0 | exact SA _ | exact (SA _).drew) (fail)
    all_goals have H2 := Lib.hid (HBX.out ((w1.alloc (.cells #[.int .i64 0, .int .i64 0, .int .i64 0, .int .i64 0, .int .i64 0, .int .i64 0, .int .i64 0, .bool false, .slice none 0 0, .slice none 0 0, .int .i64 0] 78)).drew) ((HB1.out.alloc HB1.out.size _).drew))
    all_goals generalize (w1.alloc (.cells #[.int .i64 0, .int .i64 0, .int .i64 0, .int .i64 0, .int .i64 0, .int .i64 0, .int .i64 0, .bool false, .slice none 0 0, .slice none 0 0, .int .i64 0] 78)).drew = W2 at *
    all_goals clear S0 M0 hl1 hl2 SA
    all_goals go_wp2_with (first
      | (go_at_call 35; refine (dfull_any H2.out.2.2.1 W2 (fun _ _ => rfl)).mono ?_; rw [hd]; rintro e w3 ⟨rfl, nq, rfl⟩)
      | (refine wpList_load_arr rfl 39 (.tmp 4) rfl w.heap.size rfl (show Arr (W2.drewN nq) w.heap.size 39 [.int .i64 t.hd.id.d, .int .i64 t.hd.id.o, .int .i64 t.hd.id.k, .int .i64 t.hd.id.n, .int .i64 t.hd.seq, .int .i64 t.hd.life, .int .i64 t.level, .bool t.over, .slice s.ea t.es.length s.ec, .slice s.ra t.rs.length s.rc] from H2.out.2.2.2.2.2) Tryz.underlying39 rfl sizeV rfl ?_)
      | (go_at_call 36; refine (dkeep_any (w := W2.drewN nq) (H2.out.2.2.1.keep (fun _ _ q _ => q)) t s now ⟨H2.out.2.2.2.1.e, H2.out.2.2.2.1.r, H2.out.2.2.2.1.le, H2.out.2.2.2.1.lr, H2.out.2.2.2.1.ne, H2.out.2.2.2.1.nr, H2.out.2.2.2.1.ok⟩ HRR.out HM.out HI.out hroom).mono ?_; rintro e w5 ⟨rfl, hp5, hg5⟩; have H5 := Lib.hid (And.intro hp5 ((⟨H2.out.2.2.2.2.1.os, H2.out.2.2.2.2.1.tape, H2.out.2.2.2.2.1.output, H2.out.2.2.2.2.1.size, H2.out.2.2.2.2.1.block⟩ : w.grownBy (W2.drewN nq) (some mb)).andThen hg5 (fun j e => .inr e))); clear hp5 hg5))
    all_goals go_ret2
    all_goals exact ⟨rfl, H5.out.1, H5.out.2⟩
end Go.Proofs.YtpaooddmgcekhaaGreat.ti
