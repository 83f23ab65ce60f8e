/-
  TiedbScripts: a base of any room does any steps, as the document says. No condition.
-/
import Derived.Test.YtpaooddmgcekhaaScRef
import Derived.Test.YtpaooddmgcekhaaVAge
import Derived.Test.YtpaooddmgcekhaaVAwk
import Derived.Test.YtpaooddmgcekhaaWSameT
import Derived.Test.YtpaooddmgcekhaaChecked
import Derived.Test.YtpaooddmgcekhaaRows

/-
  A STEP at both bases.
-/
namespace Go.Proofs.Ytpaooddmgcekhaa.ti
set_option linter.unusedSimpArgs false
set_option linter.unusedVariables false
open Go.RowKit
set_option maxHeartbeats 3200000 in
set_option maxRecDepth 100000 in
theorem sameIds_any (a b : Option Addr) (c d : Nat) (l : List TId) (hl : l.length ≤ 5000) (w : World) (h1 : RdE 4 cellsI w a l) (h2 : RdE 4 cellsI w b l) :
    Calls Try.prog 21 #[.slice a l.length c, .slice b l.length d] w fun e w' => e = .returned (.bool true) ∧ Below w.heap.size w w' := by
  have H1 := Lib.hid h1
  have H2 := Lib.hid h2
  obtain ⟨n, hn⟩ : ∃ n, l.length = n := ⟨_, rfl⟩
  have HN := Lib.hid hn
  rw [hn] at hl ⊢
  clear hn h1 h2
  go_enter Try.func21, Try.ntmps21
  go_wp2
  go_loopw [5] (fun iv wr => ∃ i : Nat, i ≤ n ∧ iv = .int .i64 i ∧ Hid (Below w.heap.size w wr)) (fun iv _ => n - (intOf iv).toNat)
  case atStart => exact ⟨0, by omega, rfl, Below.refl _ _⟩
  case round =>
    obtain ⟨i, hi, rfl, HB⟩ := hrel
    by_cases hlt : i < n
    · obtain ⟨x, hx⟩ : ∃ x, l[i]? = some x := ⟨_, List.getElem?_eq_getElem (by have := HN.out; omega)⟩
      obtain ⟨g1, o1, rfl, hg1, hc1⟩ := (H1.out.below HB.out) i x hx
      obtain ⟨g2, o2, rfl, hg2, hc2⟩ := (H2.out.below HB.out) i x hx
      have p0 : wr.cell? ⟨g1, o1 + i * 4, none⟩ = some (.int .i64 x.d) := hc1 0 _ rfl
      have p1 : wr.cell? ⟨g1, o1 + i * 4 + 1, none⟩ = some (.int .i64 x.o) := hc1 1 _ rfl
      have p2 : wr.cell? ⟨g1, o1 + i * 4 + 2, none⟩ = some (.int .i64 x.k) := hc1 2 _ rfl
      have p3 : wr.cell? ⟨g1, o1 + i * 4 + 3, none⟩ = some (.int .i64 x.n) := hc1 3 _ rfl
      have q0 : wr.cell? ⟨g2, o2 + i * 4, none⟩ = some (.int .i64 x.d) := hc2 0 _ rfl
      have q1 : wr.cell? ⟨g2, o2 + i * 4 + 1, none⟩ = some (.int .i64 x.o) := hc2 1 _ rfl
      have q2 : wr.cell? ⟨g2, o2 + i * 4 + 2, none⟩ = some (.int .i64 x.k) := hc2 2 _ rfl
      have q3 : wr.cell? ⟨g2, o2 + i * 4 + 3, none⟩ = some (.int .i64 x.n) := hc2 3 _ rfl
      have hlt2 : (i : Int) < n := by omega
      clear hc1 hc2 hx
      go_wp2
      go_quiet (fail)
      go_wp2
      go_roundw
      case rel => exact ⟨i + 1, by omega, by go_num, below_drewN HB.out _⟩
      case measure => simp [intOf]; omega
    · obtain rfl : n = i := by omega
      go_wp2
      go_ret
      exact ⟨rfl, HB.out⟩
def stepD (room : Int) (K : List EnT) (x : StT) : List EnT := if (x.d == 0) = true then (putD room K x.t x.now).2.2 else if (x.d == 1) = true then restD K x.t.hd.id else (ageD K x.now).2
/-- Both bases. -/
structure BothD (w0 W : World) (n0 pb mb rb : Nat) (room : Int) (K : List EnT) : Prop where
  p : ProgD W n0 pb mb room K
  r : RefD w0 W rb room K
  hn : w0.heap.size ≤ n0
theorem BothD.below {w0 W W' : World} {n0 pb mb rb : Nat} {room : Int} {K : List EnT} (h : BothD w0 W n0 pb mb rb room K) (k : Below W.heap.size W W') : BothD w0 W' n0 pb mb rb room K := ⟨h.p.below k, h.r.below k, h.hn⟩
theorem map_is {W : World} {n0 pb mb : Nat} {room : Int} {K : List EnT} (h : ProgD W n0 pb mb room K) : ∃ es ck, W.heap[mb]? = some (.map es ck) := by
  obtain ⟨L, hL, _⟩ := h.has
  exact hL.isMap
theorem ownR {E : Type} {sz : Nat} {enc : E → List Value} {W W' : World} {b : Nat} {v : Value} {l : List E} (h : OwnE 33 sz enc W b v l) (k : KeepR W W') : OwnE 33 sz enc W' b v l := h.same fun g hg => by
  obtain ⟨cur, hc⟩ := h.block hg
  rw [hc]
  exact k.at' g _ hc fun q => by rcases q with q | q <;> cases q
theorem box_step (w : World) (x : StT) : Hid (Arr (w.alloc (.cells #[.int .i64 x.d, .int .i64 x.now, .int .i64 x.t.hd.id.d, .int .i64 x.t.hd.id.o, .int .i64 x.t.hd.id.k, .int .i64 x.t.hd.id.n, .int .i64 x.t.hd.seq, .int .i64 x.t.hd.life, .int .i64 x.t.level, .bool x.t.over, .slice x.s.ea x.t.es.length x.s.ec, .slice x.s.ra x.t.rs.length x.s.rc] 41)) w.heap.size 41 (cellsS x)) := Arr.new w _ (cellsS x)
theorem Arr.grown {W W' : World} {g mb : Nat} {t : TypeId} {vs : List Value} (h : Arr W g t vs) (hg : W.grownBy W' (some mb)) (hne : g ≠ mb) : Arr W' g t vs := (hg.block g h.lt (fun e => hne (Option.some.inj e))).trans h
theorem step_range {W : World} {g : Nat} {x : StT} (h : Arr W g 41 (cellsS x)) : W.rangeAt g 2 [.int .i64 x.t.hd.id.d, .int .i64 x.t.hd.id.o, .int .i64 x.t.hd.id.k, .int .i64 x.t.hd.id.n, .int .i64 x.t.hd.seq, .int .i64 x.t.hd.life, .int .i64 x.t.level, .bool x.t.over, .slice x.s.ea x.t.es.length x.s.ec, .slice x.s.ra x.t.rs.length x.s.rc] := fun j v hv => by
  rw [h.cell]
  have : (cellsS x)[2 + j]? = some v := by
    rw [Nat.add_comm]
    exact hv
  exact this
set_option maxHeartbeats 3200000 in
set_option maxRecDepth 100000 in
theorem step_put {w0 w : World} {n0 pb mb rb : Nat} {room : Int} {K : List EnT} (h : BothD w0 w n0 pb mb rb room K) (x : StT) (hx : Rd2 w0 x.t x.s) (hid : okI x.t.hd.id) (hlen : K.length ≤ 4000) (hroom : room ≤ 4096) (hd : (x.d == 0) = true) : Calls Try.prog 8 #[.pointer (some ⟨pb, 0, none⟩), .pointer (some ⟨rb, 0, none⟩), .agg #[.int .i64 x.d, .int .i64 x.now, .int .i64 x.t.hd.id.d, .int .i64 x.t.hd.id.o, .int .i64 x.t.hd.id.k, .int .i64 x.t.hd.id.n, .int .i64 x.t.hd.seq, .int .i64 x.t.hd.life, .int .i64 x.t.level, .bool x.t.over, .slice x.s.ea x.t.es.length x.s.ec, .slice x.s.ra x.t.rs.length x.s.rc]] w fun e w' => e = .returned (.bool true) ∧ BothD w0 w' n0 pb mb rb room (stepD room K x) := by
  have HBX : Hid (BothD w0 (w.alloc (.cells #[.int .i64 x.d, .int .i64 x.now, .int .i64 x.t.hd.id.d, .int .i64 x.t.hd.id.o, .int .i64 x.t.hd.id.k, .int .i64 x.t.hd.id.n, .int .i64 x.t.hd.seq, .int .i64 x.t.hd.life, .int .i64 x.t.level, .bool x.t.over, .slice x.s.ea x.t.es.length x.s.ec, .slice x.s.ra x.t.rs.length x.s.rc] 41)) n0 pb mb rb room K) := h.below ((Below.refl _ _).alloc (Nat.le_refl _) _)
  have HA1 := box_step w x
  have HR1 := Lib.hid (step_range HA1.out)
  have hmb : mb < w.heap.size := h.p.lt.2
  have HMB : Hid (w.heap.size ≠ mb) := by unfold Hid; omega
  have HX : Hid (Rd2 (w.alloc (.cells #[.int .i64 x.d, .int .i64 x.now, .int .i64 x.t.hd.id.d, .int .i64 x.t.hd.id.o, .int .i64 x.t.hd.id.k, .int .i64 x.t.hd.id.n, .int .i64 x.t.hd.seq, .int .i64 x.t.hd.life, .int .i64 x.t.level, .bool x.t.over, .slice x.s.ea x.t.es.length x.s.ec, .slice x.s.ra x.t.rs.length x.s.rc] 41)) x.t x.s) := (hx.below h.r.bel).below ((Below.refl _ _).alloc (Nat.le_refl _) _)
  have HX0 := Lib.hid hx
  have HHM : Hid (w0.heap.size ≤ mb) := Nat.le_trans h.hn h.p.hm
  have HSD : Hid (stepD room K x = (putD room K x.t x.now).2.2) := by unfold Hid stepD; rw [if_pos hd]
  have HPP : Hid (Calls Try.prog 14 #[.pointer (some ⟨pb, 0, none⟩), aggV x.t x.s, .int .i64 x.now] (w.alloc (.cells #[.int .i64 x.d, .int .i64 x.now, .int .i64 x.t.hd.id.d, .int .i64 x.t.hd.id.o, .int .i64 x.t.hd.id.k, .int .i64 x.t.hd.id.n, .int .i64 x.t.hd.seq, .int .i64 x.t.hd.life, .int .i64 x.t.level, .bool x.t.over, .slice x.s.ea x.t.es.length x.s.ec, .slice x.s.ra x.t.rs.length x.s.rc] 41)) (PutE room K x.t x.now n0 pb mb (w.alloc (.cells #[.int .i64 x.d, .int .i64 x.now, .int .i64 x.t.hd.id.d, .int .i64 x.t.hd.id.o, .int .i64 x.t.hd.id.k, .int .i64 x.t.hd.id.n, .int .i64 x.t.hd.seq, .int .i64 x.t.hd.life, .int .i64 x.t.level, .bool x.t.over, .slice x.s.ea x.t.es.length x.s.ec, .slice x.s.ra x.t.rs.length x.s.rc] 41)))) := dput_any HBX.out.p HX.out x.now hroom
  have HRR : Hid (∀ W, RefD w0 W rb room K → Calls Try.prog 17 #[.pointer (some ⟨rb, 0, none⟩), aggV x.t x.s, .int .i64 x.now] W fun e w' => e = .returned (.tuple #[.int .i64 (putD room K x.t x.now).1, .int .i64 (putD room K x.t x.now).2.1]) ∧ RefD w0 w' rb room (putD room K x.t x.now).2.2 ∧ KeepR W w') := fun W hW => rput_any hW x.t x.s HX0.out x.now (by omega)
  obtain ⟨P, hP⟩ : ∃ P, putD room K x.t x.now = P := ⟨_, rfl⟩
  unfold PutE at HPP
  rw [hP] at HPP HSD
  simp only [hP] at HRR
  have HN := Lib.hid h.hn
  clear h hx hid hP
  go_enter Try.func8, Try.ntmps8
  go_wp2_with (first
    | (refine wpList_load_mid rfl 39 (.tmp 19) rfl w.heap.size 2 rfl _ _ HR1.out Try.underlying39 rfl sizeV ?_)
    | (go_at_call 14; refine HPP.out.mono ?_; rintro e w2 ⟨rfl, hp2, hg2⟩; have HP2 := Lib.hid hp2; have HR2 := Lib.hid (HBX.out.r.grown hg2 HHM.out (map_is HBX.out.p)); have HA2 := Lib.hid (HA1.out.grown hg2 HMB.out); have HRG2 := Lib.hid (step_range HA2.out); have c0 : w2.cell? ⟨w.heap.size, 0, none⟩ = some (.int .i64 x.d) := HA2.out.cell 0; have c1 : w2.cell? ⟨w.heap.size, 1, none⟩ = some (.int .i64 x.now) := HA2.out.cell 1; have c2 : w2.cell? ⟨w.heap.size, 2, none⟩ = some (.int .i64 x.t.hd.id.d) := HA2.out.cell 2; have c3 : w2.cell? ⟨w.heap.size, 3, none⟩ = some (.int .i64 x.t.hd.id.o) := HA2.out.cell 3; have c4 : w2.cell? ⟨w.heap.size, 4, none⟩ = some (.int .i64 x.t.hd.id.k) := HA2.out.cell 4; have c5 : w2.cell? ⟨w.heap.size, 5, none⟩ = some (.int .i64 x.t.hd.id.n) := HA2.out.cell 5; have hz2 : w.heap.size < w2.heap.size := HA2.out.lt; clear hp2 hg2)
    | (refine wpList_load_mid rfl 39 (.tmp 28) rfl w.heap.size 2 rfl _ _ HRG2.out Try.underlying39 rfl sizeV ?_)
    | (go_at_call 17; refine (HRR.out _ HR2.out).mono ?_; rintro e w3 ⟨rfl, hr3, hk3⟩; have HR3 := Lib.hid hr3; have HP3 := Lib.hid (HP2.out.keepR hk3); clear hr3 hk3))
  go_ret
  exact ⟨by simp, by rw [HSD.out]; exact ⟨HP3.out, HR3.out, HN.out⟩⟩
set_option maxHeartbeats 3200000 in
set_option maxRecDepth 100000 in
theorem step_drop {w0 w : World} {n0 pb mb rb : Nat} {room : Int} {K : List EnT} (h : BothD w0 w n0 pb mb rb room K) (x : StT) (hx : Rd2 w0 x.t x.s) (hid : okI x.t.hd.id) (hlen : K.length ≤ 4000) (hroom : room ≤ 4096) (hd0 : (x.d == 0) = false) (hd : (x.d == 1) = true) : Calls Try.prog 8 #[.pointer (some ⟨pb, 0, none⟩), .pointer (some ⟨rb, 0, none⟩), .agg #[.int .i64 x.d, .int .i64 x.now, .int .i64 x.t.hd.id.d, .int .i64 x.t.hd.id.o, .int .i64 x.t.hd.id.k, .int .i64 x.t.hd.id.n, .int .i64 x.t.hd.seq, .int .i64 x.t.hd.life, .int .i64 x.t.level, .bool x.t.over, .slice x.s.ea x.t.es.length x.s.ec, .slice x.s.ra x.t.rs.length x.s.rc]] w fun e w' => e = .returned (.bool true) ∧ BothD w0 w' n0 pb mb rb room (stepD room K x) := by
  have HBX : Hid (BothD w0 (w.alloc (.cells #[.int .i64 x.d, .int .i64 x.now, .int .i64 x.t.hd.id.d, .int .i64 x.t.hd.id.o, .int .i64 x.t.hd.id.k, .int .i64 x.t.hd.id.n, .int .i64 x.t.hd.seq, .int .i64 x.t.hd.life, .int .i64 x.t.level, .bool x.t.over, .slice x.s.ea x.t.es.length x.s.ec, .slice x.s.ra x.t.rs.length x.s.rc] 41)) n0 pb mb rb room K) := h.below ((Below.refl _ _).alloc (Nat.le_refl _) _)
  have HA1 := box_step w x
  have HR1 := Lib.hid (step_range HA1.out)
  have hmb : mb < w.heap.size := h.p.lt.2
  have HMB : Hid (w.heap.size ≠ mb) := by unfold Hid; omega
  have HX : Hid (Rd2 (w.alloc (.cells #[.int .i64 x.d, .int .i64 x.now, .int .i64 x.t.hd.id.d, .int .i64 x.t.hd.id.o, .int .i64 x.t.hd.id.k, .int .i64 x.t.hd.id.n, .int .i64 x.t.hd.seq, .int .i64 x.t.hd.life, .int .i64 x.t.level, .bool x.t.over, .slice x.s.ea x.t.es.length x.s.ec, .slice x.s.ra x.t.rs.length x.s.rc] 41)) x.t x.s) := (hx.below h.r.bel).below ((Below.refl _ _).alloc (Nat.le_refl _) _)
  have HX0 := Lib.hid hx
  have HHM : Hid (w0.heap.size ≤ mb) := Nat.le_trans h.hn h.p.hm
  have HSD : Hid (stepD room K x = restD K x.t.hd.id) := by unfold Hid stepD; rw [if_neg (by rw [hd0]; simp), if_pos hd]
  have HPP : Hid (Calls Try.prog 18 #[.pointer (some ⟨pb, 0, none⟩), .agg #[.int .i64 x.t.hd.id.d, .int .i64 x.t.hd.id.o, .int .i64 x.t.hd.id.k, .int .i64 x.t.hd.id.n]] (w.alloc (.cells #[.int .i64 x.d, .int .i64 x.now, .int .i64 x.t.hd.id.d, .int .i64 x.t.hd.id.o, .int .i64 x.t.hd.id.k, .int .i64 x.t.hd.id.n, .int .i64 x.t.hd.seq, .int .i64 x.t.hd.life, .int .i64 x.t.level, .bool x.t.over, .slice x.s.ea x.t.es.length x.s.ec, .slice x.s.ra x.t.rs.length x.s.rc] 41)) (DropE room K x.t.hd.id n0 pb mb (w.alloc (.cells #[.int .i64 x.d, .int .i64 x.now, .int .i64 x.t.hd.id.d, .int .i64 x.t.hd.id.o, .int .i64 x.t.hd.id.k, .int .i64 x.t.hd.id.n, .int .i64 x.t.hd.seq, .int .i64 x.t.hd.life, .int .i64 x.t.level, .bool x.t.over, .slice x.s.ea x.t.es.length x.s.ec, .slice x.s.ra x.t.rs.length x.s.rc] 41)))) := ddrop_any HBX.out.p x.t.hd.id hid
  have HRR : Hid (∀ W, RefD w0 W rb room K → Calls Try.prog 19 #[.pointer (some ⟨rb, 0, none⟩), .agg #[.int .i64 x.t.hd.id.d, .int .i64 x.t.hd.id.o, .int .i64 x.t.hd.id.k, .int .i64 x.t.hd.id.n]] W fun e w' => e = .returned (.bool (findD K x.t.hd.id).isSome) ∧ RefD w0 w' rb room (restD K x.t.hd.id) ∧ KeepR W w') := fun W hW => rdrop_any hW (by omega) x.t.hd.id
  unfold DropE at HPP
  have HN := Lib.hid h.hn
  clear h hx hid
  go_enter Try.func8, Try.ntmps8
  go_wp2_with (first
    | (go_at_call 18; refine HPP.out.mono ?_; rintro e w2 ⟨rfl, hp2, hg2⟩; have HP2 := Lib.hid hp2; have HR2 := Lib.hid (HBX.out.r.grown hg2 HHM.out (map_is HBX.out.p)); have HA2 := Lib.hid (HA1.out.grown hg2 HMB.out); have HRG2 := Lib.hid (step_range HA2.out); have c0 : w2.cell? ⟨w.heap.size, 0, none⟩ = some (.int .i64 x.d) := HA2.out.cell 0; have c1 : w2.cell? ⟨w.heap.size, 1, none⟩ = some (.int .i64 x.now) := HA2.out.cell 1; have c2 : w2.cell? ⟨w.heap.size, 2, none⟩ = some (.int .i64 x.t.hd.id.d) := HA2.out.cell 2; have c3 : w2.cell? ⟨w.heap.size, 3, none⟩ = some (.int .i64 x.t.hd.id.o) := HA2.out.cell 3; have c4 : w2.cell? ⟨w.heap.size, 4, none⟩ = some (.int .i64 x.t.hd.id.k) := HA2.out.cell 4; have c5 : w2.cell? ⟨w.heap.size, 5, none⟩ = some (.int .i64 x.t.hd.id.n) := HA2.out.cell 5; have hz2 : w.heap.size < w2.heap.size := HA2.out.lt; clear hp2 hg2)
    | (go_at_call 19; refine (HRR.out _ HR2.out).mono ?_; rintro e w3 ⟨rfl, hr3, hk3⟩; have HR3 := Lib.hid hr3; have HP3 := Lib.hid (HP2.out.keepR hk3); clear hr3 hk3))
  go_ret
  exact ⟨by simp, by rw [HSD.out]; exact ⟨HP3.out, HR3.out, HN.out⟩⟩
set_option maxHeartbeats 3200000 in
set_option maxRecDepth 100000 in
theorem step_age {w0 w : World} {n0 pb mb rb : Nat} {room : Int} {K : List EnT} (h : BothD w0 w n0 pb mb rb room K) (x : StT) (hx : Rd2 w0 x.t x.s) (hid : okI x.t.hd.id) (hlen : K.length ≤ 4000) (hroom : room ≤ 4096) (hd0 : (x.d == 0) = false) (hd : (x.d == 1) = false) : Calls Try.prog 8 #[.pointer (some ⟨pb, 0, none⟩), .pointer (some ⟨rb, 0, none⟩), .agg #[.int .i64 x.d, .int .i64 x.now, .int .i64 x.t.hd.id.d, .int .i64 x.t.hd.id.o, .int .i64 x.t.hd.id.k, .int .i64 x.t.hd.id.n, .int .i64 x.t.hd.seq, .int .i64 x.t.hd.life, .int .i64 x.t.level, .bool x.t.over, .slice x.s.ea x.t.es.length x.s.ec, .slice x.s.ra x.t.rs.length x.s.rc]] w fun e w' => e = .returned (.bool true) ∧ BothD w0 w' n0 pb mb rb room (stepD room K x) := by
  have HBX : Hid (BothD w0 (w.alloc (.cells #[.int .i64 x.d, .int .i64 x.now, .int .i64 x.t.hd.id.d, .int .i64 x.t.hd.id.o, .int .i64 x.t.hd.id.k, .int .i64 x.t.hd.id.n, .int .i64 x.t.hd.seq, .int .i64 x.t.hd.life, .int .i64 x.t.level, .bool x.t.over, .slice x.s.ea x.t.es.length x.s.ec, .slice x.s.ra x.t.rs.length x.s.rc] 41)) n0 pb mb rb room K) := h.below ((Below.refl _ _).alloc (Nat.le_refl _) _)
  have HA1 := box_step w x
  have HR1 := Lib.hid (step_range HA1.out)
  have hmb : mb < w.heap.size := h.p.lt.2
  have HMB : Hid (w.heap.size ≠ mb) := by unfold Hid; omega
  have HX : Hid (Rd2 (w.alloc (.cells #[.int .i64 x.d, .int .i64 x.now, .int .i64 x.t.hd.id.d, .int .i64 x.t.hd.id.o, .int .i64 x.t.hd.id.k, .int .i64 x.t.hd.id.n, .int .i64 x.t.hd.seq, .int .i64 x.t.hd.life, .int .i64 x.t.level, .bool x.t.over, .slice x.s.ea x.t.es.length x.s.ec, .slice x.s.ra x.t.rs.length x.s.rc] 41)) x.t x.s) := (hx.below h.r.bel).below ((Below.refl _ _).alloc (Nat.le_refl _) _)
  have HX0 := Lib.hid hx
  have HHM : Hid (w0.heap.size ≤ mb) := Nat.le_trans h.hn h.p.hm
  have HSD : Hid (stepD room K x = (ageD K x.now).2) := by unfold Hid stepD; rw [if_neg (by rw [hd0]; simp), if_neg (by rw [hd]; simp)]
  have HPP : Hid (Calls Try.prog 20 #[.pointer (some ⟨pb, 0, none⟩), .int .i64 x.now] (w.alloc (.cells #[.int .i64 x.d, .int .i64 x.now, .int .i64 x.t.hd.id.d, .int .i64 x.t.hd.id.o, .int .i64 x.t.hd.id.k, .int .i64 x.t.hd.id.n, .int .i64 x.t.hd.seq, .int .i64 x.t.hd.life, .int .i64 x.t.level, .bool x.t.over, .slice x.s.ea x.t.es.length x.s.ec, .slice x.s.ra x.t.rs.length x.s.rc] 41)) (AgeE room K x.now n0 pb mb (w.alloc (.cells #[.int .i64 x.d, .int .i64 x.now, .int .i64 x.t.hd.id.d, .int .i64 x.t.hd.id.o, .int .i64 x.t.hd.id.k, .int .i64 x.t.hd.id.n, .int .i64 x.t.hd.seq, .int .i64 x.t.hd.life, .int .i64 x.t.level, .bool x.t.over, .slice x.s.ea x.t.es.length x.s.ec, .slice x.s.ra x.t.rs.length x.s.rc] 41)))) := dage_any HBX.out.p x.now hlen
  have HRR : Hid (∀ W, RefD w0 W rb room K → Calls Try.prog 22 #[.pointer (some ⟨rb, 0, none⟩), .int .i64 x.now] W fun e w' => ∃ v, e = .returned v ∧ OwnE 33 4 cellsI w' W.heap.size v (ageD K x.now).1 ∧ RefD w0 w' rb room (ageD K x.now).2 ∧ KeepR W w') := fun W hW => rage_any hW (by omega) x.now
  have HLE : Hid ((ageD K x.now).1.length ≤ 5000) := by
    unfold Hid ageD
    split
    · rw [List.length_map]; have := List.length_filter_le (fun y : EnT => decide (y.exp ≤ x.now)) K; unfold overD; omega
    · simp
  unfold AgeE at HPP
  have HN := Lib.hid h.hn
  clear h hx hid
  go_enter Try.func8, Try.ntmps8
  go_wp2_with (first
    | (go_at_call 20; refine HPP.out.mono ?_; rintro e w2 ⟨v2, rfl, ho2, hp2, hg2⟩; obtain ⟨A2, cp2, rfl, _⟩ := ho2.shape; have HO2 := Lib.hid ho2; have HP2 := Lib.hid hp2; have HR2 := Lib.hid (HBX.out.r.grown hg2 HHM.out (map_is HBX.out.p)); have HA2 := Lib.hid (HA1.out.grown hg2 HMB.out); have HRG2 := Lib.hid (step_range HA2.out); have c0 : w2.cell? ⟨w.heap.size, 0, none⟩ = some (.int .i64 x.d) := HA2.out.cell 0; have c1 : w2.cell? ⟨w.heap.size, 1, none⟩ = some (.int .i64 x.now) := HA2.out.cell 1; have c2 : w2.cell? ⟨w.heap.size, 2, none⟩ = some (.int .i64 x.t.hd.id.d) := HA2.out.cell 2; have c3 : w2.cell? ⟨w.heap.size, 3, none⟩ = some (.int .i64 x.t.hd.id.o) := HA2.out.cell 3; have c4 : w2.cell? ⟨w.heap.size, 4, none⟩ = some (.int .i64 x.t.hd.id.k) := HA2.out.cell 4; have c5 : w2.cell? ⟨w.heap.size, 5, none⟩ = some (.int .i64 x.t.hd.id.n) := HA2.out.cell 5; have hz2 : w.heap.size < w2.heap.size := HA2.out.lt; clear hp2 hg2; clear ho2)
    | (go_at_call 22; refine (HRR.out _ HR2.out).mono ?_; rintro e w3 ⟨v3, rfl, ho3, hr3, hk3⟩; obtain ⟨A3, c3', rfl, _⟩ := ho3.shape; have HR3 := Lib.hid hr3; have HP3 := Lib.hid (HP2.out.keepR hk3); have I2 : Hid (RdE 4 cellsI w3 A2 (ageD K x.now).1) := kindJ.rd (ownR HO2.out hk3); have I3 : Hid (RdE 4 cellsI w3 A3 (ageD K x.now).1) := kindJ.rd ho3; clear hr3 hk3 ho3)
    | (go_at_call 21; refine (sameIds_any A2 A3 cp2 c3' (ageD K x.now).1 HLE.out _ I2.out I3.out).mono ?_; rintro e w4 ⟨rfl, hb4⟩; have BO4 : Hid (BothD w0 w4 n0 pb mb rb room (ageD K x.now).2) := BothD.below ⟨HP3.out, HR3.out, HN.out⟩ hb4; clear hb4))
  go_ret
  exact ⟨rfl, by rw [HSD.out]; exact BO4.out⟩
theorem step_any {w0 w : World} {n0 pb mb rb : Nat} {room : Int} {K : List EnT} (h : BothD w0 w n0 pb mb rb room K) (x : StT) (hx : Rd2 w0 x.t x.s) (hid : okI x.t.hd.id) (hlen : K.length ≤ 4000) (hroom : room ≤ 4096) : Calls Try.prog 8 #[.pointer (some ⟨pb, 0, none⟩), .pointer (some ⟨rb, 0, none⟩), .agg #[.int .i64 x.d, .int .i64 x.now, .int .i64 x.t.hd.id.d, .int .i64 x.t.hd.id.o, .int .i64 x.t.hd.id.k, .int .i64 x.t.hd.id.n, .int .i64 x.t.hd.seq, .int .i64 x.t.hd.life, .int .i64 x.t.level, .bool x.t.over, .slice x.s.ea x.t.es.length x.s.ec, .slice x.s.ra x.t.rs.length x.s.rc]] w fun e w' => e = .returned (.bool true) ∧ BothD w0 w' n0 pb mb rb room (stepD room K x) := by
  cases h0 : (x.d == 0) with
  | true => exact step_put h x hx hid hlen hroom h0
  | false =>
    cases h1 : (x.d == 1) with
    | true => exact step_drop h x hx hid hlen hroom h0 h1
    | false => exact step_age h x hx hid hlen hroom h0 h1
end Go.Proofs.Ytpaooddmgcekhaa.ti

/-
  TiedbScripts: the walk.
-/
namespace Go.Proofs.Ytpaooddmgcekhaa.ti
set_option linter.unusedSimpArgs false
set_option linter.unusedVariables false
open Go.RowKit
theorem insD_le2 (K : List EnT) (e : EnT) : (insD K e).length ≤ K.length + 1 := by
  induction K with
  | nil => simp [insD]
  | cons x r ih =>
    unfold insD
    split
    · simpa using ih
    · split <;> simp
theorem stepD_len (room : Int) (K : List EnT) (x : StT) : (stepD room K x).length ≤ K.length + 1 := by
  unfold stepD
  split
  · unfold putD
    split
    · simp
    · split
      · split
        · exact insD_le2 _ _
        · simp
      · split
        · simp
        · exact insD_le2 _ _
  · split
    · have := List.length_filter_le (fun y : EnT => !decide (y.id = x.t.hd.id)) K
      unfold restD; omega
    · unfold ageD
      split
      · have := List.length_filter_le (fun y : EnT => !decide (y.exp ≤ x.now)) K
        show (keptD K x.now).length ≤ _
        unfold keptD; omega
      · simp
/-- What is told may be read. -/
theorem get_rd {W : World} {n0 : Nat} {room : Int} {K : List EnT} (hi : InvD room K) (i : TId) (now : Int) {s : Sl2} (h : Own2 W n0 (getD K i now).1 s) : Rd2 W (getD K i now).1 s := by
  have h1 := own_slice h.e
  have h2 := own_slice h.r
  have hl : (getD K i now).1.es.length ≤ 100 ∧ (getD K i now).1.rs.length ≤ 100 ∧ ∀ y ∈ (getD K i now).1.rs, 0 ≤ y.net ∧ y.net < 4294967296 := by
    unfold getD
    cases hf : findD K i with
    | none => exact ⟨by simp [TiV.nil], by simp [TiV.nil], fun y hy => by simp [TiV.nil] at hy⟩
    | some x =>
      dsimp only
      split
      · have hr := (hi.ok x (findD_is hf).1).1
        have := right_lens hr
        exact ⟨by show x.t.es.length ≤ 100; omega, by show x.t.rs.length ≤ 100; omega, (right_nets hr : ∀ y ∈ x.t.rs, 0 ≤ y.net ∧ y.net < 4294967296)⟩
      · exact ⟨by simp [TiV.nil], by simp [TiV.nil], fun y hy => by simp [TiV.nil] at hy⟩
  exact ⟨kindE.rd h.e, kindR.rd h.r, ⟨hl.1, h1.2.1, h1.2.2.1⟩, ⟨hl.2.1, h2.2.1, h2.2.2.1⟩, h1.2.2.2, h2.2.2.2, hl.2.2⟩
theorem tie_selfV (t : TiV) (s1 s2 : Sl2) (w : World) (h1 : Rd2 w t s1) (h2 : Rd2 w t s2) : Calls Try.prog 11 #[aggV t s1, aggV t s2] w fun e w' => e = .returned (.bool true) ∧ Below w.heap.size w w' := by
  have h := sameTie_eq ⟨⟨t.hd.id.d, t.hd.id.o, t.hd.id.k, t.hd.id.n⟩, t.hd.seq, t.hd.life⟩ t.level t.over t.es t.es t.rs t.rs s1.ea s1.ra s2.ea s2.ra s1.ec s1.rc s2.ec s2.rc (by have := h1.le.1; omega) (by have := h1.lr.1; omega) w h1.e.rdr h1.r.rdr h2.e.rdr h2.r.rdr rfl rfl
  refine h.mono ?_
  rintro e w' ⟨r, rfl, hr, hb⟩
  exact ⟨by rw [hr.2 ⟨rfl, rfl⟩], hb⟩
theorem range12 {W : World} {g o i : Nat} {x : StT} (h : W.rangeAt g (o + i * 12) (cellsS x)) : W.cell? ⟨g, o + i * 12 + 1, none⟩ = some (.int .i64 x.now) ∧ W.cell? ⟨g, o + i * 12 + 2, none⟩ = some (.int .i64 x.t.hd.id.d) ∧ W.cell? ⟨g, o + i * 12 + 3, none⟩ = some (.int .i64 x.t.hd.id.o) ∧ W.cell? ⟨g, o + i * 12 + 4, none⟩ = some (.int .i64 x.t.hd.id.k) ∧ W.cell? ⟨g, o + i * 12 + 5, none⟩ = some (.int .i64 x.t.hd.id.n) := ⟨h 1 _ rfl, h 2 _ rfl, h 3 _ rfl, h 4 _ rfl, h 5 _ rfl⟩
theorem sizeSt : (Try.prog.info? 41).map (·.size) = some 12 := by kernel_rfl
theorem below10 {n b : Nat} {w W : World} {v0 v1 v2 v3 v4 v5 v6 v7 v8 v9 : Value} (h : Below n w W) (hb : n ≤ b) : Below n w ((((((((((W.setCell ⟨b, 0, none⟩ v0).setCell ⟨b, 1, none⟩ v1).setCell ⟨b, 2, none⟩ v2).setCell ⟨b, 3, none⟩ v3).setCell ⟨b, 4, none⟩ v4).setCell ⟨b, 5, none⟩ v5).setCell ⟨b, 6, none⟩ v6).setCell ⟨b, 7, none⟩ v7).setCell ⟨b, 8, none⟩ v8).setCell ⟨b, 9, none⟩ v9) := (((((((((h.setCell (p := ⟨b, 0, none⟩) hb _).setCell (p := ⟨b, 1, none⟩) hb _).setCell (p := ⟨b, 2, none⟩) hb _).setCell (p := ⟨b, 3, none⟩) hb _).setCell (p := ⟨b, 4, none⟩) hb _).setCell (p := ⟨b, 5, none⟩) hb _).setCell (p := ⟨b, 6, none⟩) hb _).setCell (p := ⟨b, 7, none⟩) hb _).setCell (p := ⟨b, 8, none⟩) hb _).setCell (p := ⟨b, 9, none⟩) hb _
theorem below_boxV (W : World) (o : Obj) : Below W.heap.size W (W.alloc o) := (Below.refl _ _).alloc (Nat.le_refl _) _
theorem own2_b {W W' : World} {n n1 : Nat} {t : TiV} {s : Sl2} (h : Own2 W n t s) (hn : n1 ≤ n) (k : Below W.heap.size W W') : Own2 W' n1 t s := ⟨(h.e.below k).mono hn, (h.r.below k).mono hn⟩
theorem own2_m {W : World} {n n1 : Nat} {t : TiV} {s : Sl2} (h : Own2 W n t s) (hn : n1 ≤ n) : Own2 W n1 t s := ⟨h.e.mono hn, h.r.mono hn⟩
theorem own1 {W : World} {n b i : Nat} {v : Value} {t : TiV} {s : Sl2} (h : Own2 W n t s) (hb : b < n) : Own2 (W.setCell ⟨b, i, none⟩ v) n t s := ⟨h.e.set hb i v, h.r.set hb i v⟩
theorem own10 {n b : Nat} {W : World} {t : TiV} {s : Sl2} {v0 v1 v2 v3 v4 v5 v6 v7 v8 v9 : Value} (h : Own2 W n t s) (hb : b < n) : Own2 ((((((((((W.setCell ⟨b, 0, none⟩ v0).setCell ⟨b, 1, none⟩ v1).setCell ⟨b, 2, none⟩ v2).setCell ⟨b, 3, none⟩ v3).setCell ⟨b, 4, none⟩ v4).setCell ⟨b, 5, none⟩ v5).setCell ⟨b, 6, none⟩ v6).setCell ⟨b, 7, none⟩ v7).setCell ⟨b, 8, none⟩ v8).setCell ⟨b, 9, none⟩ v9) n t s := own1 (own1 (own1 (own1 (own1 (own1 (own1 (own1 (own1 (own1 h hb) hb) hb) hb) hb) hb) hb) hb) hb) hb
theorem len_k {w : World} {n0 pb mb k : Nat} {room : Int} {K : List EnT} (h : ProgD w n0 pb mb room K) (hk : K.length = k) : ∀ n, Calls Try.prog 12 #[.pointer (some ⟨pb, 0, none⟩)] (w.drewN n) fun e w' => e = .returned (.int .i64 k) ∧ w' = w.drewN n := fun n => by
  have := dlen_any h (w.drewN n) (fun _ _ => rfl)
  rwa [hk] at this
theorem full_k {w : World} {n0 pb mb k : Nat} {room : Int} {K : List EnT} (h : ProgD w n0 pb mb room K) (hk : K.length = k) : ∀ n, Calls Try.prog 13 #[.pointer (some ⟨pb, 0, none⟩)] (w.drewN n) fun e w' => e = .returned (.bool (decide (room ≤ (k : Int)))) ∧ ∃ q, w' = (w.drewN n).drewN q := fun n => by
  have := dfull_any h (w.drewN n) (fun _ _ => rfl)
  rwa [hk] at this
theorem cutG {C G : Prop} (h : C → G) (c : C) : G := h c
theorem rd2_below {w W W' : World} {t : TiV} {s : Sl2} (h : Rd2 W t s) (k : Below W.heap.size W W') : Rd2 W' t s := h.below k
set_option maxHeartbeats 12800000 in
set_option maxRecDepth 100000 in
theorem scripts_walk (room : Int) (hroom : In64 room) (a : Option Addr) (cap : Nat) (l : List StT) (w : World) (hr : RdE 12 cellsS w a l) (hk : ∀ x ∈ l, In64 x.now ∧ In2 w x.t x.s) :
    Calls Try.prog 3 #[.int .i64 room, .slice a l.length cap] w fun e w' => e = .returned (.bool true) ∧ Below w.heap.size w w' := by
  have HRW := Lib.hid hr
  have HKK := Lib.hid hk
  obtain ⟨m, hm⟩ : ∃ m, l.length = m := ⟨_, rfl⟩
  have HM := Lib.hid hm
  rw [hm]
  clear hr hk hm
  by_cases hrm : 1 ≤ room ∧ room ≤ 4096
  · have HNW : Hid (∀ W, Calls Try.prog 5 #[.int .i64 room] W fun e w' => e = .returned (.tuple #[.pointer (some ⟨W.heap.size + 1, 0, none⟩), .int .i64 0]) ∧ ProgD w' W.heap.size (W.heap.size + 1) W.heap.size room [] ∧ Below W.heap.size W w') := fun W => dnew_any room hrm W
    have HRN : Hid (∀ W, Below w.heap.size w W → Calls Try.prog 6 #[.int .i64 room] W fun e w' => e = .returned (.tuple #[.pointer (some ⟨W.heap.size, 0, none⟩), .int .i64 0]) ∧ RefD w w' W.heap.size room [] ∧ Below W.heap.size W w') := fun W hW => rnew_ok room hrm w W hW
    have HRM := Lib.hid hrm
    clear hrm hroom
    go_enter Try.func3, Try.ntmps3
    go_wp2_with (first
      | (go_at_call 4; refine (awake_any _).mono ?_; rintro e w1 ⟨rfl, hb⟩; have B1 := Lib.hid hb; clear hb)
      | (go_at_call 5; refine (HNW.out _).mono ?_; rintro e w2 ⟨rfl, hp, hb⟩; have HP2 := Lib.hid hp; have B2 := Lib.hid (B1.out.trans (hb.mono B1.out.size)); clear hb hp; obtain ⟨n0, hn0⟩ : ∃ n, w1.heap.size = n := ⟨_, rfl⟩; rw [hn0] at HP2; rw [hn0]; obtain ⟨pb, hpb⟩ : ∃ p, n0 + 1 = p := ⟨_, rfl⟩; rw [hpb] at HP2; rw [hpb]; clear hpb; have HN0 : Hid (w.heap.size ≤ n0) := (by rw [← hn0]; exact B1.out.size); clear hn0)
      | (go_at_call 6; refine (HRN.out _ B2.out).mono ?_; rintro e w3 ⟨rfl, hp, hb⟩; obtain ⟨rb, hrb⟩ : ∃ n, w2.heap.size = n := ⟨_, rfl⟩; have BO3 : Hid (BothD w w3 n0 pb n0 rb room []) := (by rw [← hrb]; exact ⟨HP2.out.below hb, hp, HN0.out⟩); rw [hrb]; clear hb hp hrb))
    go_loopw [10] (fun iv wr => ∃ (i : Nat) (K : List EnT), i ≤ m ∧ iv = .int .i64 i ∧ Hid (K.length ≤ i ∧ i ≤ 120) ∧ Hid (BothD w wr n0 pb n0 rb room K)) (fun iv _ => m - (intOf iv).toNat)
    case atStart => exact ⟨0, [], by omega, rfl, ⟨by simp, by omega⟩, BO3.out⟩
    case round =>
      obtain ⟨i, K, him, rfl, HKL, HBO⟩ := hrel
      by_cases hlt : i < m
      · by_cases h120 : (i : Int) < 120
        · obtain ⟨x, hx⟩ : ∃ x, l[i]? = some x := ⟨_, List.getElem?_eq_getElem (by have := HM.out; omega)⟩
          obtain ⟨g, o, rfl, hg, hc⟩ := HRW.out i x hx
          obtain ⟨hxn, hxi⟩ := HKK.out x (List.mem_of_getElem? hx)
          have HRG : Hid (∀ W, Below w.heap.size w W → W.rangeAt g (o + i * 12) [.int .i64 x.d, .int .i64 x.now, .int .i64 x.t.hd.id.d, .int .i64 x.t.hd.id.o, .int .i64 x.t.hd.id.k, .int .i64 x.t.hd.id.n, .int .i64 x.t.hd.seq, .int .i64 x.t.hd.life, .int .i64 x.t.level, .bool x.t.over, .slice x.s.ea x.t.es.length x.s.ec, .slice x.s.ra x.t.rs.length x.s.rc]) := fun W hW j v hv => (hW.cell (p := ⟨g, _, none⟩) hg).trans (hc j v hv)
          have HC1 := Lib.hid (HRG.out _ HBO.out.r.bel)
          have HIN := Lib.hid hxi
          have hlt2 : (i : Int) < m := by omega
          have hlo := fun W => long_any x.d x.now x.t x.s W
          have HLO := Lib.hid hlo
          clear hc hx hxi hlo hxn
          by_cases hlong : 100 < x.t.es.length ∨ 100 < x.t.rs.length
          · have HD : Hid (decide (100 < x.t.es.length ∨ 100 < x.t.rs.length) = true) := decide_eq_true hlong
            clear hlong
            go_wp2_with (first
              | (refine wpList_load_mid rfl 41 (.tmp 58) rfl g (o + i * 12) rfl [.int .i64 x.d, .int .i64 x.now, .int .i64 x.t.hd.id.d, .int .i64 x.t.hd.id.o, .int .i64 x.t.hd.id.k, .int .i64 x.t.hd.id.n, .int .i64 x.t.hd.seq, .int .i64 x.t.hd.life, .int .i64 x.t.level, .bool x.t.over, .slice x.s.ea x.t.es.length x.s.ec, .slice x.s.ra x.t.rs.length x.s.rc] _ HC1.out Try.underlying41 rfl sizeSt ?_)
              | (go_at_call 7; refine (HLO.out _).mono ?_; rw [HD.out]; rintro e w4 ⟨rfl, hb⟩; have BO4 := Lib.hid (HBO.out.below hb); clear hb))
            go_ret
            exact ⟨rfl, BO4.out.r.bel⟩
          · have HD : Hid (decide (100 < x.t.es.length ∨ 100 < x.t.rs.length) = false) := decide_eq_false hlong
            have HX0 : Hid (Rd2 w x.t x.s) := HIN.out.rd (by omega) (by omega)
            have HID : Hid (okI x.t.hd.id) := HIN.out.hd.1
            clear hlong
            obtain ⟨K2, hK2⟩ : ∃ K2, stepD room K x = K2 := ⟨_, rfl⟩
            have HK2L : Hid (K2.length ≤ i + 1) := by have := stepD_len room K x; have h9 := HKL.out; rw [hK2] at this; unfold Hid; omega
            have HST : Hid (∀ W, BothD w W n0 pb n0 rb room K → Calls Try.prog 8 #[.pointer (some ⟨pb, 0, none⟩), .pointer (some ⟨rb, 0, none⟩), .agg #[.int .i64 x.d, .int .i64 x.now, .int .i64 x.t.hd.id.d, .int .i64 x.t.hd.id.o, .int .i64 x.t.hd.id.k, .int .i64 x.t.hd.id.n, .int .i64 x.t.hd.seq, .int .i64 x.t.hd.life, .int .i64 x.t.level, .bool x.t.over, .slice x.s.ea x.t.es.length x.s.ec, .slice x.s.ra x.t.rs.length x.s.rc]] W fun e w' => e = .returned (.bool true) ∧ BothD w w' n0 pb n0 rb room K2) := fun W hW => by
              have := step_any hW x HX0.out HID.out (by have := HKL.out; omega) HRM.out.2
              rwa [hK2] at this
            clear hK2
            go_wp2_with (first
              | (refine wpList_load_mid rfl 41 (.tmp 58) rfl g (o + i * 12) rfl [.int .i64 x.d, .int .i64 x.now, .int .i64 x.t.hd.id.d, .int .i64 x.t.hd.id.o, .int .i64 x.t.hd.id.k, .int .i64 x.t.hd.id.n, .int .i64 x.t.hd.seq, .int .i64 x.t.hd.life, .int .i64 x.t.level, .bool x.t.over, .slice x.s.ea x.t.es.length x.s.ec, .slice x.s.ra x.t.rs.length x.s.rc] _ HC1.out Try.underlying41 rfl sizeSt ?_)
              | (go_at_call 7; refine (HLO.out _).mono ?_; rw [HD.out]; rintro e w4 ⟨rfl, hb⟩; have BO4 := Lib.hid (HBO.out.below hb); have HC4 := Lib.hid (HRG.out _ BO4.out.r.bel); clear hb)
              | (refine wpList_load_mid rfl 41 (.tmp 65) rfl g (o + i * 12) rfl [.int .i64 x.d, .int .i64 x.now, .int .i64 x.t.hd.id.d, .int .i64 x.t.hd.id.o, .int .i64 x.t.hd.id.k, .int .i64 x.t.hd.id.n, .int .i64 x.t.hd.seq, .int .i64 x.t.hd.life, .int .i64 x.t.level, .bool x.t.over, .slice x.s.ea x.t.es.length x.s.ec, .slice x.s.ra x.t.rs.length x.s.rc] _ HC4.out Try.underlying41 rfl sizeSt ?_)
              | (go_at_call 8; refine (HST.out _ BO4.out).mono ?_; rintro e w5 ⟨rfl, hbo⟩; have BO5 := Lib.hid hbo; clear hbo))
            obtain ⟨T2, hT⟩ : ∃ T2, getD K2 x.t.hd.id x.now = T2 := ⟨_, rfl⟩
            obtain ⟨T, tb⟩ := T2
            have HRF : Hid (∀ (W : World) (n : Nat) (s : Sl2), Own2 W n T s → Rd2 W T s) := fun W n s ho => by
              have := get_rd (W := W) (n0 := n) BO5.out.p.inv x.t.hd.id x.now (s := s)
              rw [hT] at this
              exact this ho
            have HG5 : Hid (∀ W, Below w5.heap.size w5 W → Calls Try.prog 9 #[.pointer (some ⟨pb, 0, none⟩), .agg #[.int .i64 x.t.hd.id.d, .int .i64 x.t.hd.id.o, .int .i64 x.t.hd.id.k, .int .i64 x.t.hd.id.n], .int .i64 x.now] W fun e w' => ∃ s : Sl2, e = .returned (.tuple #[.agg #[.int .i64 T.hd.id.d, .int .i64 T.hd.id.o, .int .i64 T.hd.id.k, .int .i64 T.hd.id.n, .int .i64 T.hd.seq, .int .i64 T.hd.life, .int .i64 T.level, .bool T.over, .slice s.ea T.es.length s.ec, .slice s.ra T.rs.length s.rc], .bool tb]) ∧ Own2 w' W.heap.size T s ∧ Below W.heap.size W w') := fun W hW => by
              have h0 := BO5.out.below hW
              refine (dget_any h0.p x.t.hd.id HID.out x.now).mono ?_
              rintro e w' ⟨s, he, ho, hb⟩
              rw [hT] at he ho
              exact ⟨s, he, ho, hb⟩
            have HG6 : Hid (∀ W, Below w5.heap.size w5 W → Calls Try.prog 10 #[.pointer (some ⟨rb, 0, none⟩), .agg #[.int .i64 x.t.hd.id.d, .int .i64 x.t.hd.id.o, .int .i64 x.t.hd.id.k, .int .i64 x.t.hd.id.n], .int .i64 x.now] W fun e w' => ∃ s : Sl2, e = .returned (.tuple #[.agg #[.int .i64 T.hd.id.d, .int .i64 T.hd.id.o, .int .i64 T.hd.id.k, .int .i64 T.hd.id.n, .int .i64 T.hd.seq, .int .i64 T.hd.life, .int .i64 T.level, .bool T.over, .slice s.ea T.es.length s.ec, .slice s.ra T.rs.length s.rc], .bool tb]) ∧ Own2 w' W.heap.size T s ∧ Below W.heap.size W w') := fun W hW => by
              have h0 := BO5.out.below hW
              refine (rget_any h0.r x.t.hd.id x.now).mono ?_
              rintro e w' ⟨s, he, ho, hb⟩
              rw [hT] at he ho
              exact ⟨s, he, ho, hb⟩
            have HKw5 : Hid (∀ W, Below w5.heap.size w5 W → W.cell? ⟨g, o + i * 12 + 1, none⟩ = some (.int .i64 x.now) ∧ W.cell? ⟨g, o + i * 12 + 2, none⟩ = some (.int .i64 x.t.hd.id.d) ∧ W.cell? ⟨g, o + i * 12 + 3, none⟩ = some (.int .i64 x.t.hd.id.o) ∧ W.cell? ⟨g, o + i * 12 + 4, none⟩ = some (.int .i64 x.t.hd.id.k) ∧ W.cell? ⟨g, o + i * 12 + 5, none⟩ = some (.int .i64 x.t.hd.id.n)) := fun W hW => range12 (HRG.out _ (BO5.out.r.bel.trans (hW.mono BO5.out.r.bel.size)))
            clear hT
            apply cutG
            · intro hcut
              have hb0 : Below w5.heap.size w5 w5.drew := (Below.refl _ _).drew
              have hb1 : Below w5.heap.size w5 (w5.drew.alloc (.cells #[.int .i64 0, .int .i64 0, .int .i64 0, .int .i64 0, .int .i64 0, .int .i64 0, .int .i64 0, .bool false, .slice none 0 0, .slice none 0 0] 39)) := hb0.alloc (Nat.le_refl _) _
              have hb2 : Below w5.heap.size w5 (w5.alloc (.cells #[.int .i64 0, .int .i64 0, .int .i64 0, .int .i64 0, .int .i64 0, .int .i64 0, .int .i64 0, .bool false, .slice none 0 0, .slice none 0 0] 39)).drew := ((Below.refl _ _).alloc (Nat.le_refl _) _).drew
              go_region_held (fun W => W.cell? ⟨g, o + i * 12 + 1, none⟩ = some (.int .i64 x.now) ∧ W.cell? ⟨g, o + i * 12 + 2, none⟩ = some (.int .i64 x.t.hd.id.d) ∧ W.cell? ⟨g, o + i * 12 + 3, none⟩ = some (.int .i64 x.t.hd.id.o) ∧ W.cell? ⟨g, o + i * 12 + 4, none⟩ = some (.int .i64 x.t.hd.id.k) ∧ W.cell? ⟨g, o + i * 12 + 5, none⟩ = some (.int .i64 x.t.hd.id.n)) (first | with_reducible exact HKw5.out _ hb0 | with_reducible exact HKw5.out _ hb2 | with_reducible exact HKw5.out _ hb1 | with_reducible exact HKw5.out _ Bw6.out | with_reducible exact HKw5.out _ (Bw6.out.alloc Bw6.out.size _) | with_reducible exact HKw5.out _ (below10 Bw6.out (Nat.le_refl _))) (first
                | (go_at_call 9; refine (HG5.out _ hb2).mono ?_; rintro e w6 ⟨s6, rfl, ho, hb⟩; have Rw6 := Lib.hid ho; have Bw6 := Lib.hid (hb2.trans (hb.mono hb2.size)); have HZ0 : Arr (w5.alloc (.cells #[.int .i64 0, .int .i64 0, .int .i64 0, .int .i64 0, .int .i64 0, .int .i64 0, .int .i64 0, .bool false, .slice none 0 0, .slice none 0 0] 39)).drew w5.heap.size 39 cellsV0 := Arr.new w5 39 cellsV0; have HZ : Hid (Arr w6 w5.heap.size 39 cellsV0) := HZ0.below hb HZ0.lt; have z0 : w6.cell? ⟨w5.heap.size, 0, none⟩ = some (.int .i64 0) := HZ.out.cell 0; have f0 : w6.frozen? ⟨w5.heap.size, 0, none⟩ = false := HZ.out.frozen 0; have z1 : w6.cell? ⟨w5.heap.size, 1, none⟩ = some (.int .i64 0) := HZ.out.cell 1; have f1 : w6.frozen? ⟨w5.heap.size, 1, none⟩ = false := HZ.out.frozen 1; have z2 : w6.cell? ⟨w5.heap.size, 2, none⟩ = some (.int .i64 0) := HZ.out.cell 2; have f2 : w6.frozen? ⟨w5.heap.size, 2, none⟩ = false := HZ.out.frozen 2; have z3 : w6.cell? ⟨w5.heap.size, 3, none⟩ = some (.int .i64 0) := HZ.out.cell 3; have f3 : w6.frozen? ⟨w5.heap.size, 3, none⟩ = false := HZ.out.frozen 3; have z4 : w6.cell? ⟨w5.heap.size, 4, none⟩ = some (.int .i64 0) := HZ.out.cell 4; have f4 : w6.frozen? ⟨w5.heap.size, 4, none⟩ = false := HZ.out.frozen 4; have z5 : w6.cell? ⟨w5.heap.size, 5, none⟩ = some (.int .i64 0) := HZ.out.cell 5; have f5 : w6.frozen? ⟨w5.heap.size, 5, none⟩ = false := HZ.out.frozen 5; have z6 : w6.cell? ⟨w5.heap.size, 6, none⟩ = some (.int .i64 0) := HZ.out.cell 6; have f6 : w6.frozen? ⟨w5.heap.size, 6, none⟩ = false := HZ.out.frozen 6; have z7 : w6.cell? ⟨w5.heap.size, 7, none⟩ = some (.bool false) := HZ.out.cell 7; have f7 : w6.frozen? ⟨w5.heap.size, 7, none⟩ = false := HZ.out.frozen 7; have z8 : w6.cell? ⟨w5.heap.size, 8, none⟩ = some (.slice none 0 0) := HZ.out.cell 8; have f8 : w6.frozen? ⟨w5.heap.size, 8, none⟩ = false := HZ.out.frozen 8; have z9 : w6.cell? ⟨w5.heap.size, 9, none⟩ = some (.slice none 0 0) := HZ.out.cell 9; have f9 : w6.frozen? ⟨w5.heap.size, 9, none⟩ = false := HZ.out.frozen 9; clear ho hb HZ0)
                | (go_at_call 9; refine (HG5.out _ hb1).mono ?_; rintro e w6 ⟨s6, rfl, ho, hb⟩; have Rw6 := Lib.hid ho; have Bw6 := Lib.hid (hb1.trans (hb.mono hb1.size)); have HZ0 : Arr (w5.drew.alloc (.cells #[.int .i64 0, .int .i64 0, .int .i64 0, .int .i64 0, .int .i64 0, .int .i64 0, .int .i64 0, .bool false, .slice none 0 0, .slice none 0 0] 39)) w5.heap.size 39 cellsV0 := Arr.new w5 39 cellsV0; have HZ : Hid (Arr w6 w5.heap.size 39 cellsV0) := HZ0.below hb HZ0.lt; have z0 : w6.cell? ⟨w5.heap.size, 0, none⟩ = some (.int .i64 0) := HZ.out.cell 0; have f0 : w6.frozen? ⟨w5.heap.size, 0, none⟩ = false := HZ.out.frozen 0; have z1 : w6.cell? ⟨w5.heap.size, 1, none⟩ = some (.int .i64 0) := HZ.out.cell 1; have f1 : w6.frozen? ⟨w5.heap.size, 1, none⟩ = false := HZ.out.frozen 1; have z2 : w6.cell? ⟨w5.heap.size, 2, none⟩ = some (.int .i64 0) := HZ.out.cell 2; have f2 : w6.frozen? ⟨w5.heap.size, 2, none⟩ = false := HZ.out.frozen 2; have z3 : w6.cell? ⟨w5.heap.size, 3, none⟩ = some (.int .i64 0) := HZ.out.cell 3; have f3 : w6.frozen? ⟨w5.heap.size, 3, none⟩ = false := HZ.out.frozen 3; have z4 : w6.cell? ⟨w5.heap.size, 4, none⟩ = some (.int .i64 0) := HZ.out.cell 4; have f4 : w6.frozen? ⟨w5.heap.size, 4, none⟩ = false := HZ.out.frozen 4; have z5 : w6.cell? ⟨w5.heap.size, 5, none⟩ = some (.int .i64 0) := HZ.out.cell 5; have f5 : w6.frozen? ⟨w5.heap.size, 5, none⟩ = false := HZ.out.frozen 5; have z6 : w6.cell? ⟨w5.heap.size, 6, none⟩ = some (.int .i64 0) := HZ.out.cell 6; have f6 : w6.frozen? ⟨w5.heap.size, 6, none⟩ = false := HZ.out.frozen 6; have z7 : w6.cell? ⟨w5.heap.size, 7, none⟩ = some (.bool false) := HZ.out.cell 7; have f7 : w6.frozen? ⟨w5.heap.size, 7, none⟩ = false := HZ.out.frozen 7; have z8 : w6.cell? ⟨w5.heap.size, 8, none⟩ = some (.slice none 0 0) := HZ.out.cell 8; have f8 : w6.frozen? ⟨w5.heap.size, 8, none⟩ = false := HZ.out.frozen 8; have z9 : w6.cell? ⟨w5.heap.size, 9, none⟩ = some (.slice none 0 0) := HZ.out.cell 9; have f9 : w6.frozen? ⟨w5.heap.size, 9, none⟩ = false := HZ.out.frozen 9; clear ho hb HZ0)
                | (go_at_call 9; refine (HG5.out _ hb0).mono ?_; rintro e w6 ⟨s6, rfl, ho, hb⟩; have Rw6 := Lib.hid ho; have Bw6 := Lib.hid (hb0.trans (hb.mono hb0.size)); clear ho hb))
              all_goals first
                | (have hA : Arr (w6.alloc (.cells #[.int .i64 T.hd.id.d, .int .i64 T.hd.id.o, .int .i64 T.hd.id.k, .int .i64 T.hd.id.n, .int .i64 T.hd.seq, .int .i64 T.hd.life, .int .i64 T.level, .bool T.over, .slice s6.ea T.es.length s6.ec, .slice s6.ra T.rs.length s6.rc] 39)) w6.heap.size 39 (cellsV T s6) := Arr.new _ _ _
                   have hB : Below w5.heap.size w5 (w6.alloc (.cells #[.int .i64 T.hd.id.d, .int .i64 T.hd.id.o, .int .i64 T.hd.id.k, .int .i64 T.hd.id.n, .int .i64 T.hd.seq, .int .i64 T.hd.life, .int .i64 T.level, .bool T.over, .slice s6.ea T.es.length s6.ec, .slice s6.ra T.rs.length s6.rc] 39)) := Bw6.out.alloc Bw6.out.size _
                   have hO : Own2 (w6.alloc (.cells #[.int .i64 T.hd.id.d, .int .i64 T.hd.id.o, .int .i64 T.hd.id.k, .int .i64 T.hd.id.n, .int .i64 T.hd.seq, .int .i64 T.hd.life, .int .i64 T.level, .bool T.over, .slice s6.ea T.es.length s6.ec, .slice s6.ra T.rs.length s6.rc] 39)) w5.heap.size T s6 := own2_b Rw6.out (by simp) (below_boxV _ _)
                   generalize (w6.alloc (.cells #[.int .i64 T.hd.id.d, .int .i64 T.hd.id.o, .int .i64 T.hd.id.k, .int .i64 T.hd.id.n, .int .i64 T.hd.seq, .int .i64 T.hd.life, .int .i64 T.level, .bool T.over, .slice s6.ea T.es.length s6.ec, .slice s6.ra T.rs.length s6.rc] 39)) = w7 at hA hB hO ⊢
                   generalize w6.heap.size = b6 at hA ⊢
                   exact (show ∀ (s' : Sl2) (v' : World) (b' : Nat), Arr v' b' 39 (cellsV T s') → Below w5.heap.size w5 v' → Own2 v' w5.heap.size T s' → _ from hcut) s6 w7 b6 hA hB hO)
                | (have hA : Arr ((((((((((w6.setCell ⟨w5.heap.size, 0, none⟩ (.int .i64 T.hd.id.d)).setCell ⟨w5.heap.size, 1, none⟩ (.int .i64 T.hd.id.o)).setCell ⟨w5.heap.size, 2, none⟩ (.int .i64 T.hd.id.k)).setCell ⟨w5.heap.size, 3, none⟩ (.int .i64 T.hd.id.n)).setCell ⟨w5.heap.size, 4, none⟩ (.int .i64 T.hd.seq)).setCell ⟨w5.heap.size, 5, none⟩ (.int .i64 T.hd.life)).setCell ⟨w5.heap.size, 6, none⟩ (.int .i64 T.level)).setCell ⟨w5.heap.size, 7, none⟩ (.bool T.over)).setCell ⟨w5.heap.size, 8, none⟩ (.slice s6.ea T.es.length s6.ec)).setCell ⟨w5.heap.size, 9, none⟩ (.slice s6.ra T.rs.length s6.rc)) w5.heap.size 39 (cellsV T s6) := (((((((((HZ.out.set 0 _).set 1 _).set 2 _).set 3 _).set 4 _).set 5 _).set 6 _).set 7 _).set 8 _).set 9 _
                   have hB : Below w5.heap.size w5 ((((((((((w6.setCell ⟨w5.heap.size, 0, none⟩ (.int .i64 T.hd.id.d)).setCell ⟨w5.heap.size, 1, none⟩ (.int .i64 T.hd.id.o)).setCell ⟨w5.heap.size, 2, none⟩ (.int .i64 T.hd.id.k)).setCell ⟨w5.heap.size, 3, none⟩ (.int .i64 T.hd.id.n)).setCell ⟨w5.heap.size, 4, none⟩ (.int .i64 T.hd.seq)).setCell ⟨w5.heap.size, 5, none⟩ (.int .i64 T.hd.life)).setCell ⟨w5.heap.size, 6, none⟩ (.int .i64 T.level)).setCell ⟨w5.heap.size, 7, none⟩ (.bool T.over)).setCell ⟨w5.heap.size, 8, none⟩ (.slice s6.ea T.es.length s6.ec)).setCell ⟨w5.heap.size, 9, none⟩ (.slice s6.ra T.rs.length s6.rc)) := below10 Bw6.out (Nat.le_refl _)
                   have hO : Own2 ((((((((((w6.setCell ⟨w5.heap.size, 0, none⟩ (.int .i64 T.hd.id.d)).setCell ⟨w5.heap.size, 1, none⟩ (.int .i64 T.hd.id.o)).setCell ⟨w5.heap.size, 2, none⟩ (.int .i64 T.hd.id.k)).setCell ⟨w5.heap.size, 3, none⟩ (.int .i64 T.hd.id.n)).setCell ⟨w5.heap.size, 4, none⟩ (.int .i64 T.hd.seq)).setCell ⟨w5.heap.size, 5, none⟩ (.int .i64 T.hd.life)).setCell ⟨w5.heap.size, 6, none⟩ (.int .i64 T.level)).setCell ⟨w5.heap.size, 7, none⟩ (.bool T.over)).setCell ⟨w5.heap.size, 8, none⟩ (.slice s6.ea T.es.length s6.ec)).setCell ⟨w5.heap.size, 9, none⟩ (.slice s6.ra T.rs.length s6.rc)) w5.heap.size T s6 := own2_m (own10 Rw6.out (by simp)) (by simp)
                   generalize ((((((((((w6.setCell ⟨w5.heap.size, 0, none⟩ (.int .i64 T.hd.id.d)).setCell ⟨w5.heap.size, 1, none⟩ (.int .i64 T.hd.id.o)).setCell ⟨w5.heap.size, 2, none⟩ (.int .i64 T.hd.id.k)).setCell ⟨w5.heap.size, 3, none⟩ (.int .i64 T.hd.id.n)).setCell ⟨w5.heap.size, 4, none⟩ (.int .i64 T.hd.seq)).setCell ⟨w5.heap.size, 5, none⟩ (.int .i64 T.hd.life)).setCell ⟨w5.heap.size, 6, none⟩ (.int .i64 T.level)).setCell ⟨w5.heap.size, 7, none⟩ (.bool T.over)).setCell ⟨w5.heap.size, 8, none⟩ (.slice s6.ea T.es.length s6.ec)).setCell ⟨w5.heap.size, 9, none⟩ (.slice s6.ra T.rs.length s6.rc)) = w7 at hA hB hO ⊢
                   obtain ⟨b6, hb⟩ : ∃ b, w5.heap.size = b := ⟨_, rfl⟩
                   rw [hb] at hA
                   rw [hb]
                   exact (show ∀ (s' : Sl2) (v' : World) (b' : Nat), Arr v' b' 39 (cellsV T s') → Below w5.heap.size w5 v' → Own2 v' w5.heap.size T s' → _ from hcut) s6 w7 b6 hA hB hO)
            intro s6 w7 b6 hA hB hO
            have Aw7 := Lib.hid hA
            have Bw7 := Lib.hid hB
            have Ow7 := Lib.hid hO
            clear hA hB hO
            have HG7 : Hid (∀ W, Below w7.heap.size w7 W → Calls Try.prog 10 #[.pointer (some ⟨rb, 0, none⟩), .agg #[.int .i64 x.t.hd.id.d, .int .i64 x.t.hd.id.o, .int .i64 x.t.hd.id.k, .int .i64 x.t.hd.id.n], .int .i64 x.now] W fun e w' => ∃ s : Sl2, e = .returned (.tuple #[.agg #[.int .i64 T.hd.id.d, .int .i64 T.hd.id.o, .int .i64 T.hd.id.k, .int .i64 T.hd.id.n, .int .i64 T.hd.seq, .int .i64 T.hd.life, .int .i64 T.level, .bool T.over, .slice s.ea T.es.length s.ec, .slice s.ra T.rs.length s.rc], .bool tb]) ∧ Own2 w' W.heap.size T s ∧ Below W.heap.size W w') := fun W hW => HG6.out W (Bw7.out.trans (hW.mono Bw7.out.size))
            have HKw7 : Hid (∀ W, Below w7.heap.size w7 W → W.cell? ⟨g, o + i * 12 + 1, none⟩ = some (.int .i64 x.now) ∧ W.cell? ⟨g, o + i * 12 + 2, none⟩ = some (.int .i64 x.t.hd.id.d) ∧ W.cell? ⟨g, o + i * 12 + 3, none⟩ = some (.int .i64 x.t.hd.id.o) ∧ W.cell? ⟨g, o + i * 12 + 4, none⟩ = some (.int .i64 x.t.hd.id.k) ∧ W.cell? ⟨g, o + i * 12 + 5, none⟩ = some (.int .i64 x.t.hd.id.n)) := fun W hW => HKw5.out W (Bw7.out.trans (hW.mono Bw7.out.size))
            go_wp2
            apply cutG
            · intro hcut
              have hb0 : Below w7.heap.size w7 w7.drew := (Below.refl _ _).drew
              have hb1 : Below w7.heap.size w7 (w7.drew.alloc (.cells #[.int .i64 0, .int .i64 0, .int .i64 0, .int .i64 0, .int .i64 0, .int .i64 0, .int .i64 0, .bool false, .slice none 0 0, .slice none 0 0] 39)) := hb0.alloc (Nat.le_refl _) _
              have hb2 : Below w7.heap.size w7 (w7.alloc (.cells #[.int .i64 0, .int .i64 0, .int .i64 0, .int .i64 0, .int .i64 0, .int .i64 0, .int .i64 0, .bool false, .slice none 0 0, .slice none 0 0] 39)).drew := ((Below.refl _ _).alloc (Nat.le_refl _) _).drew
              go_region_held (fun W => W.cell? ⟨g, o + i * 12 + 1, none⟩ = some (.int .i64 x.now) ∧ W.cell? ⟨g, o + i * 12 + 2, none⟩ = some (.int .i64 x.t.hd.id.d) ∧ W.cell? ⟨g, o + i * 12 + 3, none⟩ = some (.int .i64 x.t.hd.id.o) ∧ W.cell? ⟨g, o + i * 12 + 4, none⟩ = some (.int .i64 x.t.hd.id.k) ∧ W.cell? ⟨g, o + i * 12 + 5, none⟩ = some (.int .i64 x.t.hd.id.n)) (first | with_reducible exact HKw7.out _ hb0 | with_reducible exact HKw7.out _ hb2 | with_reducible exact HKw7.out _ hb1 | with_reducible exact HKw7.out _ Bw8.out | with_reducible exact HKw7.out _ (Bw8.out.alloc Bw8.out.size _) | with_reducible exact HKw7.out _ (below10 Bw8.out (Nat.le_refl _))) (first
                | (go_at_call 10; refine (HG7.out _ hb2).mono ?_; rintro e w8 ⟨s8, rfl, ho, hb⟩; have Rw8 := Lib.hid ho; have Bw8 := Lib.hid (hb2.trans (hb.mono hb2.size)); have HZ0 : Arr (w7.alloc (.cells #[.int .i64 0, .int .i64 0, .int .i64 0, .int .i64 0, .int .i64 0, .int .i64 0, .int .i64 0, .bool false, .slice none 0 0, .slice none 0 0] 39)).drew w7.heap.size 39 cellsV0 := Arr.new w7 39 cellsV0; have HZ : Hid (Arr w8 w7.heap.size 39 cellsV0) := HZ0.below hb HZ0.lt; have z0 : w8.cell? ⟨w7.heap.size, 0, none⟩ = some (.int .i64 0) := HZ.out.cell 0; have f0 : w8.frozen? ⟨w7.heap.size, 0, none⟩ = false := HZ.out.frozen 0; have z1 : w8.cell? ⟨w7.heap.size, 1, none⟩ = some (.int .i64 0) := HZ.out.cell 1; have f1 : w8.frozen? ⟨w7.heap.size, 1, none⟩ = false := HZ.out.frozen 1; have z2 : w8.cell? ⟨w7.heap.size, 2, none⟩ = some (.int .i64 0) := HZ.out.cell 2; have f2 : w8.frozen? ⟨w7.heap.size, 2, none⟩ = false := HZ.out.frozen 2; have z3 : w8.cell? ⟨w7.heap.size, 3, none⟩ = some (.int .i64 0) := HZ.out.cell 3; have f3 : w8.frozen? ⟨w7.heap.size, 3, none⟩ = false := HZ.out.frozen 3; have z4 : w8.cell? ⟨w7.heap.size, 4, none⟩ = some (.int .i64 0) := HZ.out.cell 4; have f4 : w8.frozen? ⟨w7.heap.size, 4, none⟩ = false := HZ.out.frozen 4; have z5 : w8.cell? ⟨w7.heap.size, 5, none⟩ = some (.int .i64 0) := HZ.out.cell 5; have f5 : w8.frozen? ⟨w7.heap.size, 5, none⟩ = false := HZ.out.frozen 5; have z6 : w8.cell? ⟨w7.heap.size, 6, none⟩ = some (.int .i64 0) := HZ.out.cell 6; have f6 : w8.frozen? ⟨w7.heap.size, 6, none⟩ = false := HZ.out.frozen 6; have z7 : w8.cell? ⟨w7.heap.size, 7, none⟩ = some (.bool false) := HZ.out.cell 7; have f7 : w8.frozen? ⟨w7.heap.size, 7, none⟩ = false := HZ.out.frozen 7; have z8 : w8.cell? ⟨w7.heap.size, 8, none⟩ = some (.slice none 0 0) := HZ.out.cell 8; have f8 : w8.frozen? ⟨w7.heap.size, 8, none⟩ = false := HZ.out.frozen 8; have z9 : w8.cell? ⟨w7.heap.size, 9, none⟩ = some (.slice none 0 0) := HZ.out.cell 9; have f9 : w8.frozen? ⟨w7.heap.size, 9, none⟩ = false := HZ.out.frozen 9; clear ho hb HZ0)
                | (go_at_call 10; refine (HG7.out _ hb1).mono ?_; rintro e w8 ⟨s8, rfl, ho, hb⟩; have Rw8 := Lib.hid ho; have Bw8 := Lib.hid (hb1.trans (hb.mono hb1.size)); have HZ0 : Arr (w7.drew.alloc (.cells #[.int .i64 0, .int .i64 0, .int .i64 0, .int .i64 0, .int .i64 0, .int .i64 0, .int .i64 0, .bool false, .slice none 0 0, .slice none 0 0] 39)) w7.heap.size 39 cellsV0 := Arr.new w7 39 cellsV0; have HZ : Hid (Arr w8 w7.heap.size 39 cellsV0) := HZ0.below hb HZ0.lt; have z0 : w8.cell? ⟨w7.heap.size, 0, none⟩ = some (.int .i64 0) := HZ.out.cell 0; have f0 : w8.frozen? ⟨w7.heap.size, 0, none⟩ = false := HZ.out.frozen 0; have z1 : w8.cell? ⟨w7.heap.size, 1, none⟩ = some (.int .i64 0) := HZ.out.cell 1; have f1 : w8.frozen? ⟨w7.heap.size, 1, none⟩ = false := HZ.out.frozen 1; have z2 : w8.cell? ⟨w7.heap.size, 2, none⟩ = some (.int .i64 0) := HZ.out.cell 2; have f2 : w8.frozen? ⟨w7.heap.size, 2, none⟩ = false := HZ.out.frozen 2; have z3 : w8.cell? ⟨w7.heap.size, 3, none⟩ = some (.int .i64 0) := HZ.out.cell 3; have f3 : w8.frozen? ⟨w7.heap.size, 3, none⟩ = false := HZ.out.frozen 3; have z4 : w8.cell? ⟨w7.heap.size, 4, none⟩ = some (.int .i64 0) := HZ.out.cell 4; have f4 : w8.frozen? ⟨w7.heap.size, 4, none⟩ = false := HZ.out.frozen 4; have z5 : w8.cell? ⟨w7.heap.size, 5, none⟩ = some (.int .i64 0) := HZ.out.cell 5; have f5 : w8.frozen? ⟨w7.heap.size, 5, none⟩ = false := HZ.out.frozen 5; have z6 : w8.cell? ⟨w7.heap.size, 6, none⟩ = some (.int .i64 0) := HZ.out.cell 6; have f6 : w8.frozen? ⟨w7.heap.size, 6, none⟩ = false := HZ.out.frozen 6; have z7 : w8.cell? ⟨w7.heap.size, 7, none⟩ = some (.bool false) := HZ.out.cell 7; have f7 : w8.frozen? ⟨w7.heap.size, 7, none⟩ = false := HZ.out.frozen 7; have z8 : w8.cell? ⟨w7.heap.size, 8, none⟩ = some (.slice none 0 0) := HZ.out.cell 8; have f8 : w8.frozen? ⟨w7.heap.size, 8, none⟩ = false := HZ.out.frozen 8; have z9 : w8.cell? ⟨w7.heap.size, 9, none⟩ = some (.slice none 0 0) := HZ.out.cell 9; have f9 : w8.frozen? ⟨w7.heap.size, 9, none⟩ = false := HZ.out.frozen 9; clear ho hb HZ0)
                | (go_at_call 10; refine (HG7.out _ hb0).mono ?_; rintro e w8 ⟨s8, rfl, ho, hb⟩; have Rw8 := Lib.hid ho; have Bw8 := Lib.hid (hb0.trans (hb.mono hb0.size)); clear ho hb))
              all_goals first
                | (have hA : Arr (w8.alloc (.cells #[.int .i64 T.hd.id.d, .int .i64 T.hd.id.o, .int .i64 T.hd.id.k, .int .i64 T.hd.id.n, .int .i64 T.hd.seq, .int .i64 T.hd.life, .int .i64 T.level, .bool T.over, .slice s8.ea T.es.length s8.ec, .slice s8.ra T.rs.length s8.rc] 39)) w8.heap.size 39 (cellsV T s8) := Arr.new _ _ _
                   have hB : Below w7.heap.size w7 (w8.alloc (.cells #[.int .i64 T.hd.id.d, .int .i64 T.hd.id.o, .int .i64 T.hd.id.k, .int .i64 T.hd.id.n, .int .i64 T.hd.seq, .int .i64 T.hd.life, .int .i64 T.level, .bool T.over, .slice s8.ea T.es.length s8.ec, .slice s8.ra T.rs.length s8.rc] 39)) := Bw8.out.alloc Bw8.out.size _
                   have hO : Own2 (w8.alloc (.cells #[.int .i64 T.hd.id.d, .int .i64 T.hd.id.o, .int .i64 T.hd.id.k, .int .i64 T.hd.id.n, .int .i64 T.hd.seq, .int .i64 T.hd.life, .int .i64 T.level, .bool T.over, .slice s8.ea T.es.length s8.ec, .slice s8.ra T.rs.length s8.rc] 39)) w7.heap.size T s8 := own2_b Rw8.out (by simp) (below_boxV _ _)
                   generalize (w8.alloc (.cells #[.int .i64 T.hd.id.d, .int .i64 T.hd.id.o, .int .i64 T.hd.id.k, .int .i64 T.hd.id.n, .int .i64 T.hd.seq, .int .i64 T.hd.life, .int .i64 T.level, .bool T.over, .slice s8.ea T.es.length s8.ec, .slice s8.ra T.rs.length s8.rc] 39)) = w9 at hA hB hO ⊢
                   generalize w8.heap.size = b8 at hA ⊢
                   exact (show ∀ (s' : Sl2) (v' : World) (b' : Nat), Arr v' b' 39 (cellsV T s') → Below w7.heap.size w7 v' → Own2 v' w7.heap.size T s' → _ from hcut) s8 w9 b8 hA hB hO)
                | (have hA : Arr ((((((((((w8.setCell ⟨w7.heap.size, 0, none⟩ (.int .i64 T.hd.id.d)).setCell ⟨w7.heap.size, 1, none⟩ (.int .i64 T.hd.id.o)).setCell ⟨w7.heap.size, 2, none⟩ (.int .i64 T.hd.id.k)).setCell ⟨w7.heap.size, 3, none⟩ (.int .i64 T.hd.id.n)).setCell ⟨w7.heap.size, 4, none⟩ (.int .i64 T.hd.seq)).setCell ⟨w7.heap.size, 5, none⟩ (.int .i64 T.hd.life)).setCell ⟨w7.heap.size, 6, none⟩ (.int .i64 T.level)).setCell ⟨w7.heap.size, 7, none⟩ (.bool T.over)).setCell ⟨w7.heap.size, 8, none⟩ (.slice s8.ea T.es.length s8.ec)).setCell ⟨w7.heap.size, 9, none⟩ (.slice s8.ra T.rs.length s8.rc)) w7.heap.size 39 (cellsV T s8) := (((((((((HZ.out.set 0 _).set 1 _).set 2 _).set 3 _).set 4 _).set 5 _).set 6 _).set 7 _).set 8 _).set 9 _
                   have hB : Below w7.heap.size w7 ((((((((((w8.setCell ⟨w7.heap.size, 0, none⟩ (.int .i64 T.hd.id.d)).setCell ⟨w7.heap.size, 1, none⟩ (.int .i64 T.hd.id.o)).setCell ⟨w7.heap.size, 2, none⟩ (.int .i64 T.hd.id.k)).setCell ⟨w7.heap.size, 3, none⟩ (.int .i64 T.hd.id.n)).setCell ⟨w7.heap.size, 4, none⟩ (.int .i64 T.hd.seq)).setCell ⟨w7.heap.size, 5, none⟩ (.int .i64 T.hd.life)).setCell ⟨w7.heap.size, 6, none⟩ (.int .i64 T.level)).setCell ⟨w7.heap.size, 7, none⟩ (.bool T.over)).setCell ⟨w7.heap.size, 8, none⟩ (.slice s8.ea T.es.length s8.ec)).setCell ⟨w7.heap.size, 9, none⟩ (.slice s8.ra T.rs.length s8.rc)) := below10 Bw8.out (Nat.le_refl _)
                   have hO : Own2 ((((((((((w8.setCell ⟨w7.heap.size, 0, none⟩ (.int .i64 T.hd.id.d)).setCell ⟨w7.heap.size, 1, none⟩ (.int .i64 T.hd.id.o)).setCell ⟨w7.heap.size, 2, none⟩ (.int .i64 T.hd.id.k)).setCell ⟨w7.heap.size, 3, none⟩ (.int .i64 T.hd.id.n)).setCell ⟨w7.heap.size, 4, none⟩ (.int .i64 T.hd.seq)).setCell ⟨w7.heap.size, 5, none⟩ (.int .i64 T.hd.life)).setCell ⟨w7.heap.size, 6, none⟩ (.int .i64 T.level)).setCell ⟨w7.heap.size, 7, none⟩ (.bool T.over)).setCell ⟨w7.heap.size, 8, none⟩ (.slice s8.ea T.es.length s8.ec)).setCell ⟨w7.heap.size, 9, none⟩ (.slice s8.ra T.rs.length s8.rc)) w7.heap.size T s8 := own2_m (own10 Rw8.out (by simp)) (by simp)
                   generalize ((((((((((w8.setCell ⟨w7.heap.size, 0, none⟩ (.int .i64 T.hd.id.d)).setCell ⟨w7.heap.size, 1, none⟩ (.int .i64 T.hd.id.o)).setCell ⟨w7.heap.size, 2, none⟩ (.int .i64 T.hd.id.k)).setCell ⟨w7.heap.size, 3, none⟩ (.int .i64 T.hd.id.n)).setCell ⟨w7.heap.size, 4, none⟩ (.int .i64 T.hd.seq)).setCell ⟨w7.heap.size, 5, none⟩ (.int .i64 T.hd.life)).setCell ⟨w7.heap.size, 6, none⟩ (.int .i64 T.level)).setCell ⟨w7.heap.size, 7, none⟩ (.bool T.over)).setCell ⟨w7.heap.size, 8, none⟩ (.slice s8.ea T.es.length s8.ec)).setCell ⟨w7.heap.size, 9, none⟩ (.slice s8.ra T.rs.length s8.rc)) = w9 at hA hB hO ⊢
                   obtain ⟨b8, hb⟩ : ∃ b, w7.heap.size = b := ⟨_, rfl⟩
                   rw [hb] at hA
                   rw [hb]
                   exact (show ∀ (s' : Sl2) (v' : World) (b' : Nat), Arr v' b' 39 (cellsV T s') → Below w7.heap.size w7 v' → Own2 v' w7.heap.size T s' → _ from hcut) s8 w9 b8 hA hB hO)
            intro s8 w9 b8 hA hB hO
            have Aw9 := Lib.hid hA
            have Bw9 := Lib.hid hB
            have Ow9 := Lib.hid hO
            clear hA hB hO
            all_goals have A79 := Lib.hid (Aw7.out.below Bw9.out Aw7.out.lt)
            all_goals have R6 := Lib.hid (HRF.out _ _ _ (own2_b Ow7.out (Nat.le_refl _) Bw9.out))
            all_goals have R8 := Lib.hid (HRF.out _ _ _ Ow9.out)
            all_goals have BO9 : Hid (BothD w w9 n0 pb n0 rb room K2) := (BO5.out.below Bw7.out).below Bw9.out
            all_goals go_wp2_with (first
              | (refine wpList_load_arr rfl 39 (.tmp 12) rfl b6 rfl A79.out Try.underlying39 rfl sizeV rfl ?_)
              | (refine wpList_load_arr rfl 39 (.tmp 14) rfl b8 rfl Aw9.out Try.underlying39 rfl sizeV rfl ?_)
              | (go_at_call 11; refine (tie_selfV T s6 s8 _ R6.out R8.out).mono ?_; rintro e w10 ⟨rfl, hb⟩; have BO10 := Lib.hid (BO9.out.below hb); clear hb))
            all_goals obtain ⟨k, hk⟩ : ∃ k, K2.length = k := ⟨_, rfl⟩
            all_goals obtain ⟨A2, c2, y0, y1⟩ := ref_cells BO10.out.r
            all_goals rw [hk] at y1
            all_goals have y1' : ∀ n, (w10.drewN n).cell? ⟨rb, 1, none⟩ = some (.slice A2 k c2) := fun _ => y1
            all_goals have HLN := Lib.hid (len_k BO10.out.p hk)
            all_goals have HFN := Lib.hid (full_k BO10.out.p hk)
            all_goals clear hk y0
            all_goals cases tb
            all_goals go_quiet ((first | (go_at_call 12; exact Calls.quiet_of_same (HLN.out _)) | (go_at_call 13; exact Calls.quiet_of (HFN.out _))))
            all_goals go_wp2
            all_goals exact ⟨⟨i + 1, K2, by omega, by go_num, ⟨HK2L.out, by omega⟩, BO10.out.below (below_drewN (Below.refl _ _) _)⟩, by simp [intOf]; omega⟩
        · go_wp2
          go_ret
          exact ⟨rfl, HBO.out.r.bel⟩
      · go_wp2
        go_ret
        exact ⟨rfl, HBO.out.r.bel⟩
  · have HNW : Hid (∀ W, Calls Try.prog 5 #[.int .i64 room] W fun e w' => e = .returned (.tuple #[.pointer none, .int .i64 1]) ∧ w' = W) := fun W => dnew_not room hrm W
    have HRN : Hid (∀ W, Calls Try.prog 6 #[.int .i64 room] W fun e w' => e = .returned (.tuple #[.pointer none, .int .i64 1]) ∧ Below W.heap.size W w') := fun W => rnew_bad room hrm W
    clear hrm hroom
    go_enter Try.func3, Try.ntmps3
    go_wp2_with (first
      | (go_at_call 4; refine (awake_any _).mono ?_; rintro e w1 ⟨rfl, hb⟩; have B1 := Lib.hid hb; clear hb)
      | (go_at_call 5; refine (HNW.out _).mono ?_; rintro e w2 ⟨rfl, hp⟩; subst hp)
      | (go_at_call 6; refine (HRN.out _).mono ?_; rintro e w3 ⟨rfl, hb⟩; have B3 := Lib.hid (B1.out.trans (hb.mono B1.out.size)); clear hb))
    go_loopw [10] (fun iv wr => iv = .int .i64 0 ∧ Hid (Below w.heap.size w wr)) (fun iv _ => 0)
    case atStart => exact ⟨rfl, B3.out⟩
    case round =>
      obtain ⟨rfl, HB⟩ := hrel
      by_cases hlt : 0 < m
      · have hlt2 : (0 : Int) < m := by omega
        go_wp2
        go_ret
        exact ⟨rfl, HB.out⟩
      · obtain rfl : m = 0 := by omega
        go_wp2
        go_ret
        exact ⟨rfl, HB.out⟩
end Go.Proofs.Ytpaooddmgcekhaa.ti

namespace Go.Proofs.Ytpaooddmgcekhaa.tiedbScripts
open Go.ChangeShapes Go.WideShapes Go.ChangeAt Go.RowKit ti
set_option linter.unusedVariables false
theorem own : ownKnob Try.prog.godebug = none := by kernel_rfl
theorem laidOut : laidOutB Try.prog = true := by kernel_rfl
set_option maxRecDepth 100000 in
theorem lifted (os : Os) (started : os.Started) (H : Type) (enc : TypeId × Value → H) :
    ReturnsInHanded {} Try.checked os 3 .any (Rows.tiedbScriptsSpec.pre6 enc Try.prog Try.f3 Rows.tiedbScriptsRow.domain false) (Rows.tiedbScriptsSpec.post enc Try.prog Try.f3 false true false false) := by
  refine returnsInHanded_of_change_sized (C := Try.checked) own started (by kernel_rfl) Try.func3
    (ChangeSpec.witness6 (enc := enc) (C := Try.checked) false ⟨#[], #[.int .i64 0, .slice none 0 0], []⟩ 8 (by kernel_rfl) (by kernel_rfl) (by kernel_rfl) (by kernel_rfl)) ?_
  intro W base args ds gs before hval0 hW hcnd hsz0 _
  have hval : ∀ (j : Nat) t v, Try.f3.params[j]? = some t → args[j]? = some v → Value.okWide Try.prog W .any base t v := hval0
  have hW' := hW
  obtain ⟨p, q, hA0, hV, rfl, hfz, hnd⟩ := hW
  have hA : DataW.TrodAll enc Try.prog W 0 (fun _ => true) true Try.f3.params.toList args.toList ds p := hA0
  rw [Try.params3] at hA hval
  obtain ⟨v0, vs0, d0, ds0, p0, q0, hargs, rfl, rfl, h0, r0⟩ := trodAll_cons hA
  obtain ⟨v1, vs1, d1, ds1, p1, q1, rfl, rfl, rfl, h1, r1⟩ := trodAll_cons r0
  obtain ⟨rfl, rfl, rfl⟩ := trodAll_nil r1
  obtain rfl : args = #[v0, v1] := by cases args; simp_all
  obtain ⟨rfl, rfl⟩ := trodVars_none hV
  obtain ⟨a0, rfl, rfl, rfl, w0⟩ := open_int Try.underlying3 (hval 0 3 v0 rfl rfl) h0
  obtain ⟨a1, len1, cap1, rfl⟩ := okWide_slice Try.underlying22 (hval 1 22 v1 rfl rfl)
  have k1 := h1
  have lt1 : ∀ x ∈ p1, x.block < W.heap.size := by obtain ⟨m, hm⟩ := k1; exact DataW.trod_lt m _ _ _ hm
  obtain ⟨z1, zl1, zr1, zk1⟩ := steps_of h1
  obtain rfl := zl1
  clear hA0 hval0
  refine (scripts_walk a0 (bounds64 w0) a1 cap1 z1 W zr1 zk1).mono fun e W' ⟨he, bel⟩ => ?_
  subst he
  exact ⟨_, rfl, _, _, _, [], _, [], hW', trodAll_mk1 (shut_bool Try.underlying4 _), (trodAll_cons_mk (shut_int Try.underlying3 w0) (trodAll_cons_mk (Below.trod laidOut (by kernel_rfl) (of_decide_eq_true (by kernel_rfl)) k1 bel lt1) trodAll_mk0)), rfl, bel.frame _, fun h => by cases h⟩
theorem over : Rows.tiedbScriptsRow.holds Try.pinned (OpenSpec.ofChange Rows.tiedbScriptsSpec) :=
  OpenClaim.holds_of_wide 3 Try.f3 rfl rfl rfl rfl rfl rfl rfl ⟨rfl, rfl, rfl, rfl, rfl⟩ rfl rfl rfl rfl rfl (by kernel_rfl) Try.func3 (by kernel_rfl)
    (of_decide_eq_true (by kernel_rfl)) (by unfold Func.isWrapper; first | (rw [if_pos (by decide +kernel)]; kernel_rfl) | (rw [if_neg (by decide +kernel)]; exact ⟨rfl, rfl⟩))
    (fun os started H enc _ => lifted os started H enc)
theorem proved : Rows.TiedbScriptsSaid := over
#print axioms proved
end Go.Proofs.Ytpaooddmgcekhaa.tiedbScripts
