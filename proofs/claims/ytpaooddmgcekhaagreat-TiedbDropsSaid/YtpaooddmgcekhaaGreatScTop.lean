/-
  TiedbDrops: what is dropped is not known any more, and all else as it was; put again, all is as it was. No condition.
-/
import Derived.Test.YtpaooddmgcekhaaGreatScRef
import Derived.Test.YtpaooddmgcekhaaGreatVAge
import Derived.Test.YtpaooddmgcekhaaGreatVAwk
import Derived.Test.YtpaooddmgcekhaaGreatVHeads
import Derived.Test.YtpaooddmgcekhaaGreatVDrpM
import Derived.Test.YtpaooddmgcekhaaGreatTSame
import Derived.Test.YtpaooddmgcekhaaGreatChecked
import Derived.Test.YtpaooddmgcekhaaGreatRows

/-
  A STEP at both bases.
-/
namespace Go.Proofs.YtpaooddmgcekhaaGreat.ti
set_option linter.unusedSimpArgs false
set_option linter.unusedVariables false
open Go.RowKit
set_option maxHeartbeats 3200000 in
set_option maxRecDepth 100000 in
theorem sameIds_any (a b : Option Addr) (c d : Nat) (l : List TId) (hl : l.length ≤ 5000) (w : World) (h1 : RdE 4 cellsI w a l) (h2 : RdE 4 cellsI w b l) :
    Calls Tryz.prog 25 #[.slice a l.length c, .slice b l.length d] w fun e w' => e = .returned (.bool true) ∧ Below w.heap.size w w' := by
  have H1 := Lib.hid h1
  have H2 := Lib.hid h2
  obtain ⟨n, hn⟩ : ∃ n, l.length = n := ⟨_, rfl⟩
  have HN := Lib.hid hn
  rw [hn] at hl ⊢
  clear hn h1 h2
  go_enter Tryz.func25, Tryz.ntmps25
  go_wp2
  go_loopw [5] (fun iv wr => ∃ i : Nat, i ≤ n ∧ iv = .int .i64 i ∧ Hid (Below w.heap.size w wr)) (fun iv _ => n - (intOf iv).toNat)
  case atStart => exact ⟨0, by omega, rfl, Below.refl _ _⟩
  case round =>
    obtain ⟨i, hi, rfl, HB⟩ := hrel
    by_cases hlt : i < n
    · obtain ⟨x, hx⟩ : ∃ x, l[i]? = some x := ⟨_, List.getElem?_eq_getElem (by have := HN.out; omega)⟩
      obtain ⟨g1, o1, rfl, hg1, hc1⟩ := (H1.out.below HB.out) i x hx
      obtain ⟨g2, o2, rfl, hg2, hc2⟩ := (H2.out.below HB.out) i x hx
      have p0 : wr.cell? ⟨g1, o1 + i * 4, none⟩ = some (.int .i64 x.d) := hc1 0 _ rfl
      have p1 : wr.cell? ⟨g1, o1 + i * 4 + 1, none⟩ = some (.int .i64 x.o) := hc1 1 _ rfl
      have p2 : wr.cell? ⟨g1, o1 + i * 4 + 2, none⟩ = some (.int .i64 x.k) := hc1 2 _ rfl
      have p3 : wr.cell? ⟨g1, o1 + i * 4 + 3, none⟩ = some (.int .i64 x.n) := hc1 3 _ rfl
      have q0 : wr.cell? ⟨g2, o2 + i * 4, none⟩ = some (.int .i64 x.d) := hc2 0 _ rfl
      have q1 : wr.cell? ⟨g2, o2 + i * 4 + 1, none⟩ = some (.int .i64 x.o) := hc2 1 _ rfl
      have q2 : wr.cell? ⟨g2, o2 + i * 4 + 2, none⟩ = some (.int .i64 x.k) := hc2 2 _ rfl
      have q3 : wr.cell? ⟨g2, o2 + i * 4 + 3, none⟩ = some (.int .i64 x.n) := hc2 3 _ rfl
      have hlt2 : (i : Int) < n := by omega
      clear hc1 hc2 hx
      go_wp2
      go_quiet (fail)
      go_wp2
      go_roundw
      case rel => exact ⟨i + 1, by omega, by go_num, below_drewN HB.out _⟩
      case measure => simp [intOf]; omega
    · obtain rfl : n = i := by omega
      go_wp2
      go_ret
      exact ⟨rfl, HB.out⟩
def stepD (room : Int) (K : List EnT) (x : StT) : List EnT := if (x.d == 0) = true then (putD room K x.t x.now).2.2 else if (x.d == 1) = true then restD K x.t.hd.id else (ageD K x.now).2
/-- Both bases. -/
structure BothD (w0 W : World) (n0 pb mb rb : Nat) (room : Int) (K : List EnT) : Prop where
  p : ProgD W n0 pb mb room K
  r : RefD w0 W rb room K
  hn : w0.heap.size ≤ n0
theorem BothD.below {w0 W W' : World} {n0 pb mb rb : Nat} {room : Int} {K : List EnT} (h : BothD w0 W n0 pb mb rb room K) (k : Below W.heap.size W W') : BothD w0 W' n0 pb mb rb room K := ⟨h.p.below k, h.r.below k, h.hn⟩
theorem map_is {W : World} {n0 pb mb : Nat} {room : Int} {K : List EnT} (h : ProgD W n0 pb mb room K) : ∃ es ck, W.heap[mb]? = some (.map es ck) := by
  obtain ⟨L, hL, _⟩ := h.has
  exact hL.isMap
theorem arrI {w W1 W2 W3 : World} {g mb : Nat} {vs : List Value} (h : Arr w g 33 vs) (hne : g ≠ mb) (hb : Below w.heap.size w W1) (hg : W1.grownBy W2 (some mb)) (hk : KeepR W2 W3) : Arr W3 g 33 vs := by
  have h1 := h.below hb h.lt
  have h2 : Arr W2 g 33 vs := (hg.block g h1.lt (fun e => hne (Option.some.inj e))).trans h1
  exact hk.at' g _ h2 fun q => by rcases q with q | q <;> cases q
theorem ownR {E : Type} {sz : Nat} {enc : E → List Value} {W W' : World} {b : Nat} {v : Value} {l : List E} (h : OwnE 33 sz enc W b v l) (k : KeepR W W') : OwnE 33 sz enc W' b v l := h.same fun g hg => by
  obtain ⟨cur, hc⟩ := h.block hg
  rw [hc]
  exact k.at' g _ hc fun q => by rcases q with q | q <;> cases q
theorem box_step (w : World) (x : StT) : Hid (Arr (w.alloc (.cells #[.int .i64 x.d, .int .i64 x.now, .int .i64 x.t.hd.id.d, .int .i64 x.t.hd.id.o, .int .i64 x.t.hd.id.k, .int .i64 x.t.hd.id.n, .int .i64 x.t.hd.seq, .int .i64 x.t.hd.life, .int .i64 x.t.level, .bool x.t.over, .slice x.s.ea x.t.es.length x.s.ec, .slice x.s.ra x.t.rs.length x.s.rc] 41)) w.heap.size 41 (cellsS x)) := Arr.new w _ (cellsS x)
theorem Arr.grown {W W' : World} {g mb : Nat} {t : TypeId} {vs : List Value} (h : Arr W g t vs) (hg : W.grownBy W' (some mb)) (hne : g ≠ mb) : Arr W' g t vs := (hg.block g h.lt (fun e => hne (Option.some.inj e))).trans h
theorem step_range {W : World} {g : Nat} {x : StT} (h : Arr W g 41 (cellsS x)) : W.rangeAt g 2 [.int .i64 x.t.hd.id.d, .int .i64 x.t.hd.id.o, .int .i64 x.t.hd.id.k, .int .i64 x.t.hd.id.n, .int .i64 x.t.hd.seq, .int .i64 x.t.hd.life, .int .i64 x.t.level, .bool x.t.over, .slice x.s.ea x.t.es.length x.s.ec, .slice x.s.ra x.t.rs.length x.s.rc] := fun j v hv => by
  rw [h.cell]
  have : (cellsS x)[2 + j]? = some v := by
    rw [Nat.add_comm]
    exact hv
  exact this
set_option maxHeartbeats 3200000 in
set_option maxRecDepth 100000 in
theorem step_put {w0 w : World} {n0 pb mb rb : Nat} {room : Int} {K : List EnT} (h : BothD w0 w n0 pb mb rb room K) (x : StT) (hx : Rd2 w0 x.t x.s) (hid : okI x.t.hd.id) (hlen : K.length ≤ 4000) (hroom : room ≤ 4096) (hd : (x.d == 0) = true) : Calls Tryz.prog 9 #[.pointer (some ⟨pb, 0, none⟩), .pointer (some ⟨rb, 0, none⟩), .agg #[.int .i64 x.d, .int .i64 x.now, .int .i64 x.t.hd.id.d, .int .i64 x.t.hd.id.o, .int .i64 x.t.hd.id.k, .int .i64 x.t.hd.id.n, .int .i64 x.t.hd.seq, .int .i64 x.t.hd.life, .int .i64 x.t.level, .bool x.t.over, .slice x.s.ea x.t.es.length x.s.ec, .slice x.s.ra x.t.rs.length x.s.rc]] w fun e w' => e = .returned (.bool true) ∧ BothD w0 w' n0 pb mb rb room (stepD room K x) ∧ (∀ g vs, g ≠ mb → Arr w g 33 vs → Arr w' g 33 vs) := by
  have HBX : Hid (BothD w0 (w.alloc (.cells #[.int .i64 x.d, .int .i64 x.now, .int .i64 x.t.hd.id.d, .int .i64 x.t.hd.id.o, .int .i64 x.t.hd.id.k, .int .i64 x.t.hd.id.n, .int .i64 x.t.hd.seq, .int .i64 x.t.hd.life, .int .i64 x.t.level, .bool x.t.over, .slice x.s.ea x.t.es.length x.s.ec, .slice x.s.ra x.t.rs.length x.s.rc] 41)) n0 pb mb rb room K) := h.below ((Below.refl _ _).alloc (Nat.le_refl _) _)
  have HA1 := box_step w x
  have HR1 := Lib.hid (step_range HA1.out)
  have hmb : mb < w.heap.size := h.p.lt.2
  have HMB : Hid (w.heap.size ≠ mb) := by unfold Hid; omega
  have HX : Hid (Rd2 (w.alloc (.cells #[.int .i64 x.d, .int .i64 x.now, .int .i64 x.t.hd.id.d, .int .i64 x.t.hd.id.o, .int .i64 x.t.hd.id.k, .int .i64 x.t.hd.id.n, .int .i64 x.t.hd.seq, .int .i64 x.t.hd.life, .int .i64 x.t.level, .bool x.t.over, .slice x.s.ea x.t.es.length x.s.ec, .slice x.s.ra x.t.rs.length x.s.rc] 41)) x.t x.s) := (hx.below h.r.bel).below ((Below.refl _ _).alloc (Nat.le_refl _) _)
  have HX0 := Lib.hid hx
  have HHM : Hid (w0.heap.size ≤ mb) := Nat.le_trans h.hn h.p.hm
  have HSD : Hid (stepD room K x = (putD room K x.t x.now).2.2) := by unfold Hid stepD; rw [if_pos hd]
  have HPP : Hid (Calls Tryz.prog 19 #[.pointer (some ⟨pb, 0, none⟩), aggV x.t x.s, .int .i64 x.now] (w.alloc (.cells #[.int .i64 x.d, .int .i64 x.now, .int .i64 x.t.hd.id.d, .int .i64 x.t.hd.id.o, .int .i64 x.t.hd.id.k, .int .i64 x.t.hd.id.n, .int .i64 x.t.hd.seq, .int .i64 x.t.hd.life, .int .i64 x.t.level, .bool x.t.over, .slice x.s.ea x.t.es.length x.s.ec, .slice x.s.ra x.t.rs.length x.s.rc] 41)) (PutE room K x.t x.now n0 pb mb (w.alloc (.cells #[.int .i64 x.d, .int .i64 x.now, .int .i64 x.t.hd.id.d, .int .i64 x.t.hd.id.o, .int .i64 x.t.hd.id.k, .int .i64 x.t.hd.id.n, .int .i64 x.t.hd.seq, .int .i64 x.t.hd.life, .int .i64 x.t.level, .bool x.t.over, .slice x.s.ea x.t.es.length x.s.ec, .slice x.s.ra x.t.rs.length x.s.rc] 41)))) := dput_any HBX.out.p HX.out x.now hroom
  have HRR : Hid (∀ W, RefD w0 W rb room K → Calls Tryz.prog 22 #[.pointer (some ⟨rb, 0, none⟩), aggV x.t x.s, .int .i64 x.now] W fun e w' => e = .returned (.tuple #[.int .i64 (putD room K x.t x.now).1, .int .i64 (putD room K x.t x.now).2.1]) ∧ RefD w0 w' rb room (putD room K x.t x.now).2.2 ∧ KeepR W w') := fun W hW => rput_any hW x.t x.s HX0.out x.now (by omega)
  obtain ⟨P, hP⟩ : ∃ P, putD room K x.t x.now = P := ⟨_, rfl⟩
  unfold PutE at HPP
  rw [hP] at HPP HSD
  simp only [hP] at HRR
  have HN := Lib.hid h.hn
  clear h hx hid hP
  go_enter Tryz.func9, Tryz.ntmps9
  go_wp2_with (first
    | (refine wpList_load_mid rfl 39 (.tmp 19) rfl w.heap.size 2 rfl _ _ HR1.out Tryz.underlying39 rfl sizeV ?_)
    | (go_at_call 19; refine HPP.out.mono ?_; rintro e w2 ⟨rfl, hp2, hg2⟩; have HG2 := Lib.hid hg2; have HP2 := Lib.hid hp2; have HR2 := Lib.hid (HBX.out.r.grown hg2 HHM.out (map_is HBX.out.p)); have HA2 := Lib.hid (HA1.out.grown hg2 HMB.out); have HRG2 := Lib.hid (step_range HA2.out); have c0 : w2.cell? ⟨w.heap.size, 0, none⟩ = some (.int .i64 x.d) := HA2.out.cell 0; have c1 : w2.cell? ⟨w.heap.size, 1, none⟩ = some (.int .i64 x.now) := HA2.out.cell 1; have c2 : w2.cell? ⟨w.heap.size, 2, none⟩ = some (.int .i64 x.t.hd.id.d) := HA2.out.cell 2; have c3 : w2.cell? ⟨w.heap.size, 3, none⟩ = some (.int .i64 x.t.hd.id.o) := HA2.out.cell 3; have c4 : w2.cell? ⟨w.heap.size, 4, none⟩ = some (.int .i64 x.t.hd.id.k) := HA2.out.cell 4; have c5 : w2.cell? ⟨w.heap.size, 5, none⟩ = some (.int .i64 x.t.hd.id.n) := HA2.out.cell 5; have hz2 : w.heap.size < w2.heap.size := HA2.out.lt; clear hp2 hg2)
    | (refine wpList_load_mid rfl 39 (.tmp 28) rfl w.heap.size 2 rfl _ _ HRG2.out Tryz.underlying39 rfl sizeV ?_)
    | (go_at_call 22; refine (HRR.out _ HR2.out).mono ?_; rintro e w3 ⟨rfl, hr3, hk3⟩; have HR3 := Lib.hid hr3; have HK3 := Lib.hid hk3; have HP3 := Lib.hid (HP2.out.keepR hk3); clear hr3 hk3))
  go_ret
  exact ⟨by simp, by rw [HSD.out]; exact ⟨HP3.out, HR3.out, HN.out⟩, fun g vs hne ha => arrI ha hne ((Below.refl _ _).alloc (Nat.le_refl _) _) HG2.out HK3.out⟩
set_option maxHeartbeats 3200000 in
set_option maxRecDepth 100000 in
theorem step_drop {w0 w : World} {n0 pb mb rb : Nat} {room : Int} {K : List EnT} (h : BothD w0 w n0 pb mb rb room K) (x : StT) (hx : Rd2 w0 x.t x.s) (hid : okI x.t.hd.id) (hlen : K.length ≤ 4000) (hroom : room ≤ 4096) (hd0 : (x.d == 0) = false) (hd : (x.d == 1) = true) : Calls Tryz.prog 9 #[.pointer (some ⟨pb, 0, none⟩), .pointer (some ⟨rb, 0, none⟩), .agg #[.int .i64 x.d, .int .i64 x.now, .int .i64 x.t.hd.id.d, .int .i64 x.t.hd.id.o, .int .i64 x.t.hd.id.k, .int .i64 x.t.hd.id.n, .int .i64 x.t.hd.seq, .int .i64 x.t.hd.life, .int .i64 x.t.level, .bool x.t.over, .slice x.s.ea x.t.es.length x.s.ec, .slice x.s.ra x.t.rs.length x.s.rc]] w fun e w' => e = .returned (.bool true) ∧ BothD w0 w' n0 pb mb rb room (stepD room K x) ∧ (∀ g vs, g ≠ mb → Arr w g 33 vs → Arr w' g 33 vs) := by
  have HBX : Hid (BothD w0 (w.alloc (.cells #[.int .i64 x.d, .int .i64 x.now, .int .i64 x.t.hd.id.d, .int .i64 x.t.hd.id.o, .int .i64 x.t.hd.id.k, .int .i64 x.t.hd.id.n, .int .i64 x.t.hd.seq, .int .i64 x.t.hd.life, .int .i64 x.t.level, .bool x.t.over, .slice x.s.ea x.t.es.length x.s.ec, .slice x.s.ra x.t.rs.length x.s.rc] 41)) n0 pb mb rb room K) := h.below ((Below.refl _ _).alloc (Nat.le_refl _) _)
  have HA1 := box_step w x
  have HR1 := Lib.hid (step_range HA1.out)
  have hmb : mb < w.heap.size := h.p.lt.2
  have HMB : Hid (w.heap.size ≠ mb) := by unfold Hid; omega
  have HX : Hid (Rd2 (w.alloc (.cells #[.int .i64 x.d, .int .i64 x.now, .int .i64 x.t.hd.id.d, .int .i64 x.t.hd.id.o, .int .i64 x.t.hd.id.k, .int .i64 x.t.hd.id.n, .int .i64 x.t.hd.seq, .int .i64 x.t.hd.life, .int .i64 x.t.level, .bool x.t.over, .slice x.s.ea x.t.es.length x.s.ec, .slice x.s.ra x.t.rs.length x.s.rc] 41)) x.t x.s) := (hx.below h.r.bel).below ((Below.refl _ _).alloc (Nat.le_refl _) _)
  have HX0 := Lib.hid hx
  have HHM : Hid (w0.heap.size ≤ mb) := Nat.le_trans h.hn h.p.hm
  have HSD : Hid (stepD room K x = restD K x.t.hd.id) := by unfold Hid stepD; rw [if_neg (by rw [hd0]; simp), if_pos hd]
  have HPP : Hid (Calls Tryz.prog 18 #[.pointer (some ⟨pb, 0, none⟩), .agg #[.int .i64 x.t.hd.id.d, .int .i64 x.t.hd.id.o, .int .i64 x.t.hd.id.k, .int .i64 x.t.hd.id.n]] (w.alloc (.cells #[.int .i64 x.d, .int .i64 x.now, .int .i64 x.t.hd.id.d, .int .i64 x.t.hd.id.o, .int .i64 x.t.hd.id.k, .int .i64 x.t.hd.id.n, .int .i64 x.t.hd.seq, .int .i64 x.t.hd.life, .int .i64 x.t.level, .bool x.t.over, .slice x.s.ea x.t.es.length x.s.ec, .slice x.s.ra x.t.rs.length x.s.rc] 41)) (DropE room K x.t.hd.id n0 pb mb (w.alloc (.cells #[.int .i64 x.d, .int .i64 x.now, .int .i64 x.t.hd.id.d, .int .i64 x.t.hd.id.o, .int .i64 x.t.hd.id.k, .int .i64 x.t.hd.id.n, .int .i64 x.t.hd.seq, .int .i64 x.t.hd.life, .int .i64 x.t.level, .bool x.t.over, .slice x.s.ea x.t.es.length x.s.ec, .slice x.s.ra x.t.rs.length x.s.rc] 41)))) := ddrop_any HBX.out.p x.t.hd.id hid
  have HRR : Hid (∀ W, RefD w0 W rb room K → Calls Tryz.prog 23 #[.pointer (some ⟨rb, 0, none⟩), .agg #[.int .i64 x.t.hd.id.d, .int .i64 x.t.hd.id.o, .int .i64 x.t.hd.id.k, .int .i64 x.t.hd.id.n]] W fun e w' => e = .returned (.bool (findD K x.t.hd.id).isSome) ∧ RefD w0 w' rb room (restD K x.t.hd.id) ∧ KeepR W w') := fun W hW => rdrop_any hW (by omega) x.t.hd.id
  unfold DropE at HPP
  have HN := Lib.hid h.hn
  clear h hx hid
  go_enter Tryz.func9, Tryz.ntmps9
  go_wp2_with (first
    | (go_at_call 18; refine HPP.out.mono ?_; rintro e w2 ⟨rfl, hp2, hg2⟩; have HG2 := Lib.hid hg2; have HP2 := Lib.hid hp2; have HR2 := Lib.hid (HBX.out.r.grown hg2 HHM.out (map_is HBX.out.p)); have HA2 := Lib.hid (HA1.out.grown hg2 HMB.out); have HRG2 := Lib.hid (step_range HA2.out); have c0 : w2.cell? ⟨w.heap.size, 0, none⟩ = some (.int .i64 x.d) := HA2.out.cell 0; have c1 : w2.cell? ⟨w.heap.size, 1, none⟩ = some (.int .i64 x.now) := HA2.out.cell 1; have c2 : w2.cell? ⟨w.heap.size, 2, none⟩ = some (.int .i64 x.t.hd.id.d) := HA2.out.cell 2; have c3 : w2.cell? ⟨w.heap.size, 3, none⟩ = some (.int .i64 x.t.hd.id.o) := HA2.out.cell 3; have c4 : w2.cell? ⟨w.heap.size, 4, none⟩ = some (.int .i64 x.t.hd.id.k) := HA2.out.cell 4; have c5 : w2.cell? ⟨w.heap.size, 5, none⟩ = some (.int .i64 x.t.hd.id.n) := HA2.out.cell 5; have hz2 : w.heap.size < w2.heap.size := HA2.out.lt; clear hp2 hg2)
    | (go_at_call 23; refine (HRR.out _ HR2.out).mono ?_; rintro e w3 ⟨rfl, hr3, hk3⟩; have HR3 := Lib.hid hr3; have HK3 := Lib.hid hk3; have HP3 := Lib.hid (HP2.out.keepR hk3); clear hr3 hk3))
  go_ret
  exact ⟨by simp, by rw [HSD.out]; exact ⟨HP3.out, HR3.out, HN.out⟩, fun g vs hne ha => arrI ha hne ((Below.refl _ _).alloc (Nat.le_refl _) _) HG2.out HK3.out⟩
set_option maxHeartbeats 3200000 in
set_option maxRecDepth 100000 in
theorem step_age {w0 w : World} {n0 pb mb rb : Nat} {room : Int} {K : List EnT} (h : BothD w0 w n0 pb mb rb room K) (x : StT) (hx : Rd2 w0 x.t x.s) (hid : okI x.t.hd.id) (hlen : K.length ≤ 4000) (hroom : room ≤ 4096) (hd0 : (x.d == 0) = false) (hd : (x.d == 1) = false) : Calls Tryz.prog 9 #[.pointer (some ⟨pb, 0, none⟩), .pointer (some ⟨rb, 0, none⟩), .agg #[.int .i64 x.d, .int .i64 x.now, .int .i64 x.t.hd.id.d, .int .i64 x.t.hd.id.o, .int .i64 x.t.hd.id.k, .int .i64 x.t.hd.id.n, .int .i64 x.t.hd.seq, .int .i64 x.t.hd.life, .int .i64 x.t.level, .bool x.t.over, .slice x.s.ea x.t.es.length x.s.ec, .slice x.s.ra x.t.rs.length x.s.rc]] w fun e w' => e = .returned (.bool true) ∧ BothD w0 w' n0 pb mb rb room (stepD room K x) ∧ (∀ g vs, g ≠ mb → Arr w g 33 vs → Arr w' g 33 vs) := by
  have HBX : Hid (BothD w0 (w.alloc (.cells #[.int .i64 x.d, .int .i64 x.now, .int .i64 x.t.hd.id.d, .int .i64 x.t.hd.id.o, .int .i64 x.t.hd.id.k, .int .i64 x.t.hd.id.n, .int .i64 x.t.hd.seq, .int .i64 x.t.hd.life, .int .i64 x.t.level, .bool x.t.over, .slice x.s.ea x.t.es.length x.s.ec, .slice x.s.ra x.t.rs.length x.s.rc] 41)) n0 pb mb rb room K) := h.below ((Below.refl _ _).alloc (Nat.le_refl _) _)
  have HA1 := box_step w x
  have HR1 := Lib.hid (step_range HA1.out)
  have hmb : mb < w.heap.size := h.p.lt.2
  have HMB : Hid (w.heap.size ≠ mb) := by unfold Hid; omega
  have HX : Hid (Rd2 (w.alloc (.cells #[.int .i64 x.d, .int .i64 x.now, .int .i64 x.t.hd.id.d, .int .i64 x.t.hd.id.o, .int .i64 x.t.hd.id.k, .int .i64 x.t.hd.id.n, .int .i64 x.t.hd.seq, .int .i64 x.t.hd.life, .int .i64 x.t.level, .bool x.t.over, .slice x.s.ea x.t.es.length x.s.ec, .slice x.s.ra x.t.rs.length x.s.rc] 41)) x.t x.s) := (hx.below h.r.bel).below ((Below.refl _ _).alloc (Nat.le_refl _) _)
  have HX0 := Lib.hid hx
  have HHM : Hid (w0.heap.size ≤ mb) := Nat.le_trans h.hn h.p.hm
  have HSD : Hid (stepD room K x = (ageD K x.now).2) := by unfold Hid stepD; rw [if_neg (by rw [hd0]; simp), if_neg (by rw [hd]; simp)]
  have HPP : Hid (Calls Tryz.prog 24 #[.pointer (some ⟨pb, 0, none⟩), .int .i64 x.now] (w.alloc (.cells #[.int .i64 x.d, .int .i64 x.now, .int .i64 x.t.hd.id.d, .int .i64 x.t.hd.id.o, .int .i64 x.t.hd.id.k, .int .i64 x.t.hd.id.n, .int .i64 x.t.hd.seq, .int .i64 x.t.hd.life, .int .i64 x.t.level, .bool x.t.over, .slice x.s.ea x.t.es.length x.s.ec, .slice x.s.ra x.t.rs.length x.s.rc] 41)) (AgeE room K x.now n0 pb mb (w.alloc (.cells #[.int .i64 x.d, .int .i64 x.now, .int .i64 x.t.hd.id.d, .int .i64 x.t.hd.id.o, .int .i64 x.t.hd.id.k, .int .i64 x.t.hd.id.n, .int .i64 x.t.hd.seq, .int .i64 x.t.hd.life, .int .i64 x.t.level, .bool x.t.over, .slice x.s.ea x.t.es.length x.s.ec, .slice x.s.ra x.t.rs.length x.s.rc] 41)))) := dage_any HBX.out.p x.now hlen
  have HRR : Hid (∀ W, RefD w0 W rb room K → Calls Tryz.prog 26 #[.pointer (some ⟨rb, 0, none⟩), .int .i64 x.now] W fun e w' => ∃ v, e = .returned v ∧ OwnE 33 4 cellsI w' W.heap.size v (ageD K x.now).1 ∧ RefD w0 w' rb room (ageD K x.now).2 ∧ KeepR W w') := fun W hW => rage_any hW (by omega) x.now
  have HLE : Hid ((ageD K x.now).1.length ≤ 5000) := by
    unfold Hid ageD
    split
    · rw [List.length_map]; have := List.length_filter_le (fun y : EnT => decide (y.exp ≤ x.now)) K; unfold overD; omega
    · simp
  unfold AgeE at HPP
  have HN := Lib.hid h.hn
  clear h hx hid
  go_enter Tryz.func9, Tryz.ntmps9
  go_wp2_with (first
    | (go_at_call 24; refine HPP.out.mono ?_; rintro e w2 ⟨v2, rfl, ho2, hp2, hg2⟩; obtain ⟨A2, cp2, rfl, _⟩ := ho2.shape; have HO2 := Lib.hid ho2; have HG2 := Lib.hid hg2; have HP2 := Lib.hid hp2; have HR2 := Lib.hid (HBX.out.r.grown hg2 HHM.out (map_is HBX.out.p)); have HA2 := Lib.hid (HA1.out.grown hg2 HMB.out); have HRG2 := Lib.hid (step_range HA2.out); have c0 : w2.cell? ⟨w.heap.size, 0, none⟩ = some (.int .i64 x.d) := HA2.out.cell 0; have c1 : w2.cell? ⟨w.heap.size, 1, none⟩ = some (.int .i64 x.now) := HA2.out.cell 1; have c2 : w2.cell? ⟨w.heap.size, 2, none⟩ = some (.int .i64 x.t.hd.id.d) := HA2.out.cell 2; have c3 : w2.cell? ⟨w.heap.size, 3, none⟩ = some (.int .i64 x.t.hd.id.o) := HA2.out.cell 3; have c4 : w2.cell? ⟨w.heap.size, 4, none⟩ = some (.int .i64 x.t.hd.id.k) := HA2.out.cell 4; have c5 : w2.cell? ⟨w.heap.size, 5, none⟩ = some (.int .i64 x.t.hd.id.n) := HA2.out.cell 5; have hz2 : w.heap.size < w2.heap.size := HA2.out.lt; clear hp2 hg2; clear ho2)
    | (go_at_call 26; refine (HRR.out _ HR2.out).mono ?_; rintro e w3 ⟨v3, rfl, ho3, hr3, hk3⟩; obtain ⟨A3, c3', rfl, _⟩ := ho3.shape; have HR3 := Lib.hid hr3; have HK3 := Lib.hid hk3; have HP3 := Lib.hid (HP2.out.keepR hk3); have I2 : Hid (RdE 4 cellsI w3 A2 (ageD K x.now).1) := kindJ.rd (ownR HO2.out hk3); have I3 : Hid (RdE 4 cellsI w3 A3 (ageD K x.now).1) := kindJ.rd ho3; clear hr3 hk3 ho3)
    | (go_at_call 25; refine (sameIds_any A2 A3 cp2 c3' (ageD K x.now).1 HLE.out _ I2.out I3.out).mono ?_; rintro e w4 ⟨rfl, hb4⟩; have HB4 := Lib.hid hb4; have BO4 : Hid (BothD w0 w4 n0 pb mb rb room (ageD K x.now).2) := BothD.below ⟨HP3.out, HR3.out, HN.out⟩ hb4; clear hb4))
  go_ret
  exact ⟨rfl, by rw [HSD.out]; exact BO4.out, fun g vs hne ha => by have h1 := arrI ha hne ((Below.refl _ _).alloc (Nat.le_refl _) _) HG2.out HK3.out; exact h1.below HB4.out h1.lt⟩
theorem step_any {w0 w : World} {n0 pb mb rb : Nat} {room : Int} {K : List EnT} (h : BothD w0 w n0 pb mb rb room K) (x : StT) (hx : Rd2 w0 x.t x.s) (hid : okI x.t.hd.id) (hlen : K.length ≤ 4000) (hroom : room ≤ 4096) : Calls Tryz.prog 9 #[.pointer (some ⟨pb, 0, none⟩), .pointer (some ⟨rb, 0, none⟩), .agg #[.int .i64 x.d, .int .i64 x.now, .int .i64 x.t.hd.id.d, .int .i64 x.t.hd.id.o, .int .i64 x.t.hd.id.k, .int .i64 x.t.hd.id.n, .int .i64 x.t.hd.seq, .int .i64 x.t.hd.life, .int .i64 x.t.level, .bool x.t.over, .slice x.s.ea x.t.es.length x.s.ec, .slice x.s.ra x.t.rs.length x.s.rc]] w fun e w' => e = .returned (.bool true) ∧ BothD w0 w' n0 pb mb rb room (stepD room K x) ∧ (∀ g vs, g ≠ mb → Arr w g 33 vs → Arr w' g 33 vs) := by
  cases h0 : (x.d == 0) with
  | true => exact step_put h x hx hid hlen hroom h0
  | false =>
    cases h1 : (x.d == 1) with
    | true => exact step_drop h x hx hid hlen hroom h0 h1
    | false => exact step_age h x hx hid hlen hroom h0 h1
end Go.Proofs.YtpaooddmgcekhaaGreat.ti

/-
  TiedbDrops: the walk.
-/
namespace Go.Proofs.YtpaooddmgcekhaaGreat.ti
set_option linter.unusedSimpArgs false
set_option linter.unusedVariables false
open Go.RowKit
theorem sizeSt : (Tryz.prog.info? 41).map (·.size) = some 12 := by kernel_rfl
theorem kk_ne (k : Nat) : ((k : Int) == (k : Int) - 1) = false := by
  have : ¬ (k : Int) = (k : Int) - 1 := by omega
  simpa using this
theorem sizeId : (Tryz.prog.info? 33).map (·.size) = some 4 := by kernel_rfl
theorem below_boxV (W : World) (o : Obj) : Below W.heap.size W (W.alloc o) := (Below.refl _ _).alloc (Nat.le_refl _) _
theorem own2_b {W W' : World} {n n1 : Nat} {t : TiV} {s : Sl2} (h : Own2 W n t s) (hn : n1 ≤ n) (k : Below W.heap.size W W') : Own2 W' n1 t s := ⟨(h.e.below k).mono hn, (h.r.below k).mono hn⟩
theorem own_g {E : Type} {T : TypeId} {sz : Nat} {enc : E → List Value} {W W' : World} {b mb : Nat} {v : Value} {l : List E} (h : OwnE T sz enc W b v l) (hg : W.grownBy W' (some mb)) (hm : ∃ es ck, W.heap[mb]? = some (.map es ck)) : OwnE T sz enc W' b v l := h.same fun g hgv => by
  obtain ⟨cur, hc⟩ := h.block hgv
  obtain ⟨es, ck, hmb⟩ := hm
  exact hg.block g (Array.getElem?_eq_some_iff.1 hc).1 fun e => by cases e; rw [hmb] at hc; cases hc
theorem own2_g {W W' : World} {b mb : Nat} {t : TiV} {s : Sl2} (h : Own2 W b t s) (hg : W.grownBy W' (some mb)) (hm : ∃ es ck, W.heap[mb]? = some (.map es ck)) : Own2 W' b t s := ⟨own_g h.e hg hm, own_g h.r hg hm⟩
theorem arr_g {W W' : World} {g mb : Nat} {t : TypeId} {vs : List Value} (h : Arr W g t vs) (hg : W.grownBy W' (some mb)) (hm : ∃ es ck, W.heap[mb]? = some (.map es ck)) : Arr W' g t vs := (hg.block g h.lt fun e => by
  cases e
  obtain ⟨es, ck, hmb⟩ := hm
  unfold Arr at h
  rw [hmb] at h
  cases h).trans h
theorem sameH (A B : Option Addr) (ca cb n m : Nat) (l1 l2 : List THd) (e1 : l1.length = n) (e2 : l2.length = m) (he : l1 = l2) (hl : n ≤ 4000) (hca : l1.length ≤ ca) (hcb : l2.length ≤ cb) (W : World) (h1 : RdE 6 cellsT W A l1) (h2 : RdE 6 cellsT W B l2) :
    Calls Tryz.prog 13 #[.slice A n ca, .slice B m cb] W fun e w' => e = .returned (.bool true) ∧ Below W.heap.size W w' := by
  subst e1 e2
  refine (same_any l1 l2 A B ca cb W h1 h2 hl (by rw [← he]; exact hl) hca hcb).mono ?_
  rintro e w' ⟨rfl, n, rfl⟩
  exact ⟨by rw [decide_eq_true he], below_drewN (Below.refl _ _) _⟩
theorem get_rd {W : World} {n0 : Nat} {room : Int} {K : List EnT} (hi : InvD room K) (i : TId) (now : Int) {s : Sl2} (h : Own2 W n0 (getD K i now).1 s) : Rd2 W (getD K i now).1 s := by
  have h1 := own_slice h.e
  have h2 := own_slice h.r
  have hl : (getD K i now).1.es.length ≤ 100 ∧ (getD K i now).1.rs.length ≤ 100 ∧ ∀ y ∈ (getD K i now).1.rs, 0 ≤ y.net ∧ y.net < 4294967296 := by
    unfold getD
    cases hf : findD K i with
    | none => exact ⟨by simp [TiV.nil], by simp [TiV.nil], fun y hy => by simp [TiV.nil] at hy⟩
    | some x =>
      dsimp only
      split
      · have hr := (hi.ok x (findD_is hf).1).1
        have := right_lens hr
        exact ⟨by show x.t.es.length ≤ 100; omega, by show x.t.rs.length ≤ 100; omega, (right_nets hr : ∀ y ∈ x.t.rs, 0 ≤ y.net ∧ y.net < 4294967296)⟩
      · exact ⟨by simp [TiV.nil], by simp [TiV.nil], fun y hy => by simp [TiV.nil] at hy⟩
  exact ⟨kindE.rd h.e, kindR.rd h.r, ⟨hl.1, h1.2.1, h1.2.2.1⟩, ⟨hl.2.1, h2.2.1, h2.2.2.1⟩, h1.2.2.2, h2.2.2.2, hl.2.2⟩
theorem stepD_exp {room : Int} {K : List EnT} {x : StT} {now : Int} (h : ExpK K now) (hx : x.now ≤ now) : ExpK (stepD room K x) now := by
  intro y hy
  unfold stepD at hy
  split at hy
  · unfold putD at hy
    split at hy
    · exact h y hy
    · rename_i hr
      have hrv : rightV x.t = true := by
        cases hq : rightV x.t with
        | true => rfl
        | false => exact absurd hr (fun q => q (fun z => by rw [hq] at z; cases z.1))
      have hl := (right_head hrv).2.2.2.2
      have hins : ∀ z, z ∈ insD K (enD x.t x.now) → z.exp ≤ now + 604800 := fun z hz => by
        rcases insD_mem hz with q | q
        · rw [q]; show x.now + x.t.hd.life ≤ _; omega
        · exact h z q
      split at hy
      · split at hy
        · exact hins y hy
        · exact h y hy
      · split at hy
        · exact h y hy
        · exact hins y hy
  · split at hy
    · exact h y (List.mem_filter.1 hy).1
    · unfold ageD at hy
      split at hy
      · exact h y (List.mem_filter.1 hy).1
      · exact h y hy
theorem stepD_len2 (room : Int) (K : List EnT) (hK : AscD K) (x : StT) : (stepD room K x).length ≤ K.length + 1 := by
  have hi : ∀ e, (insD K e).length ≤ K.length + 1 := fun e => by rw [insD_len hK]; split <;> omega
  unfold stepD
  split
  · unfold putD
    split
    · simp
    · split
      · split
        · exact hi _
        · simp
      · split
        · simp
        · exact hi _
  · split
    · have := List.length_filter_le (fun y : EnT => !decide (y.id = x.t.hd.id)) K
      unfold restD; omega
    · unfold ageD
      split
      · have := List.length_filter_le (fun y : EnT => !decide (y.exp ≤ x.now)) K
        show (keptD K x.now).length ≤ _
        unfold keptD; omega
      · simp
theorem again_math {K : List EnT} {y : EnT} {now : Int} (ha : AscD K) (hf : findD K y.id = some y) (hal : isD y now) : headsD (insD (restD K y.id) (enD (toldD y now) now)) now = headsD K now := by
  have hl : leftD y now = y.exp - now := by unfold leftD; rw [if_neg (by have := hal.2; omega)]
  have he : (enD (toldD y now) now).exp = y.exp := by show now + leftD y now = _; rw [hl]; omega
  obtain ⟨h1, _, h3⟩ := ins_rest ha hf (e := enD (toldD y now) now) rfl
  rw [h1]
  unfold headsD aliveD
  refine h3 (fun x => headD x now) (fun x => decide (isD x now)) ?_ ?_
  · show headD (enD (toldD y now) now) now = headD y now
    unfold headD leftD
    rw [he]
    rfl
  · exact decide_eq_decide.2 (by unfold isD; rw [he])
theorem put_again {K : List EnT} {y : EnT} {now : Int} (hi : InvD 200 K) (hlen : K.length ≤ 101) (hx : ExpK K now) (hf : findD K y.id = some y) (hal : isD y now) : putD 200 (restD K y.id) (toldD y now) now = (1, 0, insD (restD K y.id) (enD (toldD y now) now)) := by
  have hy := (findD_is hf).1
  have h1 := hx y hy
  have h2 := hal.2
  unfold putD
  rw [if_neg (fun q => q ⟨right_toldL (hi.ok y hy).1 (by omega) (by omega), hal.1⟩)]
  have : findD (restD K y.id) (toldD y now).hd.id = none := rest_find
  rw [this]
  dsimp only
  rw [if_neg]
  have h4 := (List.filter_sublist (p := fun x => !decide (x.id = y.id)) (l := K)).length_le
  unfold restD
  omega
set_option maxHeartbeats 12800000 in
set_option maxRecDepth 100000 in
theorem drops_walk (a : Option Addr) (cap : Nat) (l : List StT) (id : TId) (hid0 : okI id) (now : Int) (hnow : In64 now) (w : World) (hr : RdE 12 cellsS w a l) (hk : ∀ x ∈ l, In64 x.now ∧ In2 w x.t x.s) :
    Calls Tryz.prog 4 #[.slice a l.length cap, .agg #[.int .i64 id.d, .int .i64 id.o, .int .i64 id.k, .int .i64 id.n], .int .i64 now] w fun e w' => e = .returned (.bool true) ∧ Below w.heap.size w w' := by
  have HRW := Lib.hid hr
  have HKK := Lib.hid hk
  have hid := Lib.hid hid0
  obtain ⟨m, hm⟩ : ∃ m, l.length = m := ⟨_, rfl⟩
  have HM := Lib.hid hm
  rw [hm]
  have HBX : Hid (Below w.heap.size w (w.alloc (.cells #[.int .i64 id.d, .int .i64 id.o, .int .i64 id.k, .int .i64 id.n] 33))) := below_boxV _ _
  have HAX : Hid (Arr (w.alloc (.cells #[.int .i64 id.d, .int .i64 id.o, .int .i64 id.k, .int .i64 id.n] 33)) w.heap.size 33 (cellsI id)) := Arr.new _ _ _
  have HNW : Hid (∀ W, Calls Tryz.prog 6 #[.int .i64 200] W fun e w' => e = .returned (.tuple #[.pointer (some ⟨W.heap.size + 1, 0, none⟩), .int .i64 0]) ∧ ProgD w' W.heap.size (W.heap.size + 1) W.heap.size 200 [] ∧ Below W.heap.size W w') := fun W => dnew_any 200 (by omega) W
  have HRN : Hid (∀ W, Below w.heap.size w W → Calls Tryz.prog 7 #[.int .i64 200] W fun e w' => e = .returned (.tuple #[.pointer (some ⟨W.heap.size, 0, none⟩), .int .i64 0]) ∧ RefD w w' W.heap.size 200 [] ∧ Below W.heap.size W w') := fun W hW => rnew_ok 200 (by omega) w W hW
  clear hr hk hm hid0
  by_cases hn1 : now < 0
  · go_enter Tryz.func4, Tryz.ntmps4
    go_wp2_with (first
      | (go_at_call 5; refine (awake_any _).mono ?_; rintro e w1 ⟨rfl, hb⟩; have B1 := Lib.hid (HBX.out.trans (hb.mono HBX.out.size)); clear hb)
      | (go_at_call 6; refine (HNW.out _).mono ?_; rintro e w2 ⟨rfl, hp, hb⟩; have B2 := Lib.hid (B1.out.trans (hb.mono B1.out.size)); clear hb hp)
      | (go_at_call 7; refine (HRN.out _ B2.out).mono ?_; rintro e w3 ⟨rfl, hp, hb⟩; have B3 := Lib.hid (B2.out.trans (hb.mono B2.out.size)); clear hb hp))
    all_goals go_ret
    all_goals exact ⟨rfl, B3.out⟩
  by_cases hn2 : 549755813888 < now
  · go_enter Tryz.func4, Tryz.ntmps4
    go_wp2_with (first
      | (go_at_call 5; refine (awake_any _).mono ?_; rintro e w1 ⟨rfl, hb⟩; have B1 := Lib.hid (HBX.out.trans (hb.mono HBX.out.size)); clear hb)
      | (go_at_call 6; refine (HNW.out _).mono ?_; rintro e w2 ⟨rfl, hp, hb⟩; have B2 := Lib.hid (B1.out.trans (hb.mono B1.out.size)); clear hb hp)
      | (go_at_call 7; refine (HRN.out _ B2.out).mono ?_; rintro e w3 ⟨rfl, hp, hb⟩; have B3 := Lib.hid (B2.out.trans (hb.mono B2.out.size)); clear hb hp))
    all_goals go_ret
    all_goals exact ⟨rfl, B3.out⟩
  have HMO : Hid (momD now) := ⟨by omega, by omega⟩
  go_enter Tryz.func4, Tryz.ntmps4
  go_wp2_with (first
    | (go_at_call 5; refine (awake_any _).mono ?_; rintro e w1 ⟨rfl, hb⟩; have B1 := Lib.hid (HBX.out.trans (hb.mono HBX.out.size)); have X1 := Lib.hid (HAX.out.below hb HAX.out.lt); clear hb)
    | (go_at_call 6; refine (HNW.out _).mono ?_; rintro e w2 ⟨rfl, hp, hb⟩; have HP2 := Lib.hid hp; have B2 := Lib.hid (B1.out.trans (hb.mono B1.out.size)); have X2 := Lib.hid (X1.out.below hb X1.out.lt); have hz : w.heap.size < w1.heap.size := X1.out.lt; obtain ⟨n0, hn0⟩ : ∃ n, w1.heap.size = n := ⟨_, rfl⟩; rw [hn0] at HP2; rw [hn0]; obtain ⟨pb, hpb⟩ : ∃ p, n0 + 1 = p := ⟨_, rfl⟩; rw [hpb] at HP2; rw [hpb]; clear hpb; have HN0 : Hid (w.heap.size ≤ n0) := (by rw [← hn0]; exact B1.out.size); have HNX : Hid (w.heap.size ≠ n0) := (by unfold Hid; omega); clear hb hp hn0 hz)
    | (go_at_call 7; refine (HRN.out _ B2.out).mono ?_; rintro e w3 ⟨rfl, hp, hb⟩; have X3 := Lib.hid (X2.out.below hb X2.out.lt); obtain ⟨rb, hrb⟩ : ∃ n, w2.heap.size = n := ⟨_, rfl⟩; have BO3 : Hid (BothD w w3 n0 pb n0 rb 200 []) := (by rw [← hrb]; exact ⟨HP2.out.below hb, hp, HN0.out⟩); rw [hrb]; clear hb hp hrb))
  go_loopw [12] (fun iv wr => ∃ (i : Nat) (K : List EnT), i ≤ m ∧ iv = .int .i64 i ∧ Hid (K.length ≤ i ∧ i ≤ 100) ∧ Hid (ExpK K now) ∧ Hid (BothD w wr n0 pb n0 rb 200 K) ∧ Hid (Arr wr w.heap.size 33 (cellsI id))) (fun iv _ => m - (intOf iv).toNat)
  case atStart => exact ⟨0, [], by omega, rfl, ⟨by simp, by omega⟩, fun y hy => by simp at hy, BO3.out, X3.out⟩
  case round =>
    obtain ⟨i, K, him, rfl, HKL, HEX, HBO, HAI⟩ := hrel
    by_cases hgo : i < m ∧ (i : Int) < 100
    · obtain ⟨hlt, h120⟩ := hgo
      obtain ⟨x, hx⟩ : ∃ x, l[i]? = some x := ⟨_, List.getElem?_eq_getElem (by have := HM.out; omega)⟩
      obtain ⟨g, o, rfl, hg, hc⟩ := HRW.out i x hx
      obtain ⟨hxn, hxi⟩ := HKK.out x (List.mem_of_getElem? hx)
      have HRG : Hid (∀ W, Below w.heap.size w W → W.rangeAt g (o + i * 12) [.int .i64 x.d, .int .i64 x.now, .int .i64 x.t.hd.id.d, .int .i64 x.t.hd.id.o, .int .i64 x.t.hd.id.k, .int .i64 x.t.hd.id.n, .int .i64 x.t.hd.seq, .int .i64 x.t.hd.life, .int .i64 x.t.level, .bool x.t.over, .slice x.s.ea x.t.es.length x.s.ec, .slice x.s.ra x.t.rs.length x.s.rc]) := fun W hW j v hv => (hW.cell (p := ⟨g, _, none⟩) hg).trans (hc j v hv)
      have HC1 := Lib.hid (HRG.out _ HBO.out.r.bel)
      have HIN := Lib.hid hxi
      have hlt2 : (i : Int) < m := by omega
      have hlo := fun W => long_any x.d x.now x.t x.s W
      have HLO := Lib.hid hlo
      clear hc hx hxi hlo hxn hlt
      by_cases hlong : 100 < x.t.es.length ∨ 100 < x.t.rs.length
      · have HD : Hid (decide (100 < x.t.es.length ∨ 100 < x.t.rs.length) = true) := decide_eq_true hlong
        clear hlong
        go_wp2_with (first
          | (refine wpList_load_mid rfl 41 (.tmp 68) rfl g (o + i * 12) rfl [.int .i64 x.d, .int .i64 x.now, .int .i64 x.t.hd.id.d, .int .i64 x.t.hd.id.o, .int .i64 x.t.hd.id.k, .int .i64 x.t.hd.id.n, .int .i64 x.t.hd.seq, .int .i64 x.t.hd.life, .int .i64 x.t.level, .bool x.t.over, .slice x.s.ea x.t.es.length x.s.ec, .slice x.s.ra x.t.rs.length x.s.rc] _ HC1.out Tryz.underlying41 rfl sizeSt ?_)
          | (refine wpList_load_mid rfl 41 (.tmp 67) rfl g (o + i * 12) rfl [.int .i64 x.d, .int .i64 x.now, .int .i64 x.t.hd.id.d, .int .i64 x.t.hd.id.o, .int .i64 x.t.hd.id.k, .int .i64 x.t.hd.id.n, .int .i64 x.t.hd.seq, .int .i64 x.t.hd.life, .int .i64 x.t.level, .bool x.t.over, .slice x.s.ea x.t.es.length x.s.ec, .slice x.s.ra x.t.rs.length x.s.rc] _ HC1.out Tryz.underlying41 rfl sizeSt ?_)
          | (go_at_call 8; refine (HLO.out _).mono ?_; rw [HD.out]; rintro e w4 ⟨rfl, hb⟩; have BO4 := Lib.hid (HBO.out.below hb); clear hb))
        go_ret
        exact ⟨rfl, BO4.out.r.bel⟩
      · have HD : Hid (decide (100 < x.t.es.length ∨ 100 < x.t.rs.length) = false) := decide_eq_false hlong
        have HX0 : Hid (Rd2 w x.t x.s) := HIN.out.rd (by omega) (by omega)
        have HIX : Hid (okI x.t.hd.id) := HIN.out.hd.1
        clear hlong
        by_cases hlate : now < x.now
        · go_wp2_with (first
            | (refine wpList_load_mid rfl 41 (.tmp 67) rfl g (o + i * 12) rfl [.int .i64 x.d, .int .i64 x.now, .int .i64 x.t.hd.id.d, .int .i64 x.t.hd.id.o, .int .i64 x.t.hd.id.k, .int .i64 x.t.hd.id.n, .int .i64 x.t.hd.seq, .int .i64 x.t.hd.life, .int .i64 x.t.level, .bool x.t.over, .slice x.s.ea x.t.es.length x.s.ec, .slice x.s.ra x.t.rs.length x.s.rc] _ HC1.out Tryz.underlying41 rfl sizeSt ?_)
            | (go_at_call 8; refine (HLO.out _).mono ?_; rw [HD.out]; rintro e w4 ⟨rfl, hb⟩; have BO4 := Lib.hid (HBO.out.below hb); have n1 : w4.cell? ⟨g, o + i * 12 + 1, none⟩ = some (.int .i64 x.now) := HRG.out _ BO4.out.r.bel 1 _ rfl; clear hb))
          go_ret
          exact ⟨rfl, BO4.out.r.bel⟩
        · obtain ⟨K2, hK2⟩ : ∃ K2, stepD 200 K x = K2 := ⟨_, rfl⟩
          have HK2L : Hid (K2.length ≤ i + 1) := by have := stepD_len2 200 K HBO.out.p.inv.asc x; have h9 := HKL.out; rw [hK2] at this; unfold Hid; omega
          have HE2 : Hid (ExpK K2 now) := by have := stepD_exp (room := 200) HEX.out (x := x) (by omega); rw [hK2] at this; exact this
          have HST : Hid (∀ W, BothD w W n0 pb n0 rb 200 K → Calls Tryz.prog 9 #[.pointer (some ⟨pb, 0, none⟩), .pointer (some ⟨rb, 0, none⟩), .agg #[.int .i64 x.d, .int .i64 x.now, .int .i64 x.t.hd.id.d, .int .i64 x.t.hd.id.o, .int .i64 x.t.hd.id.k, .int .i64 x.t.hd.id.n, .int .i64 x.t.hd.seq, .int .i64 x.t.hd.life, .int .i64 x.t.level, .bool x.t.over, .slice x.s.ea x.t.es.length x.s.ec, .slice x.s.ra x.t.rs.length x.s.rc]] W fun e w' => e = .returned (.bool true) ∧ BothD w w' n0 pb n0 rb 200 K2 ∧ (∀ vs, Arr W w.heap.size 33 vs → Arr w' w.heap.size 33 vs)) := fun W hW => by
            refine (step_any hW x HX0.out HIX.out (by have := HKL.out; omega) (by omega)).mono ?_
            rintro e w' ⟨he, hb, hf⟩
            rw [hK2] at hb
            exact ⟨he, hb, fun vs => hf _ vs HNX.out⟩
          clear hK2
          go_wp2_with (first
            | (refine wpList_load_mid rfl 41 (.tmp 67) rfl g (o + i * 12) rfl [.int .i64 x.d, .int .i64 x.now, .int .i64 x.t.hd.id.d, .int .i64 x.t.hd.id.o, .int .i64 x.t.hd.id.k, .int .i64 x.t.hd.id.n, .int .i64 x.t.hd.seq, .int .i64 x.t.hd.life, .int .i64 x.t.level, .bool x.t.over, .slice x.s.ea x.t.es.length x.s.ec, .slice x.s.ra x.t.rs.length x.s.rc] _ HC1.out Tryz.underlying41 rfl sizeSt ?_)
            | (go_at_call 8; refine (HLO.out _).mono ?_; rw [HD.out]; rintro e w4 ⟨rfl, hb⟩; have BO4 := Lib.hid (HBO.out.below hb); have AI4 := Lib.hid (HAI.out.below hb HAI.out.lt); have HC4 := Lib.hid (HRG.out _ BO4.out.r.bel); have n1 : w4.cell? ⟨g, o + i * 12 + 1, none⟩ = some (.int .i64 x.now) := HC4.out 1 _ rfl; clear hb)
            | (refine wpList_load_mid rfl 41 (.tmp 83) rfl g (o + i * 12) rfl [.int .i64 x.d, .int .i64 x.now, .int .i64 x.t.hd.id.d, .int .i64 x.t.hd.id.o, .int .i64 x.t.hd.id.k, .int .i64 x.t.hd.id.n, .int .i64 x.t.hd.seq, .int .i64 x.t.hd.life, .int .i64 x.t.level, .bool x.t.over, .slice x.s.ea x.t.es.length x.s.ec, .slice x.s.ra x.t.rs.length x.s.rc] _ HC4.out Tryz.underlying41 rfl sizeSt ?_)
            | (go_at_call 9; refine (HST.out _ BO4.out).mono ?_; rintro e w5 ⟨rfl, hbo, hai⟩; have BO5 := Lib.hid hbo; have AI5 := Lib.hid (hai _ AI4.out); clear hbo hai))
          all_goals first
            | exact ⟨⟨i + 1, K2, by omega, by go_num, ⟨HK2L.out, by omega⟩, HE2.out, BO5.out, AI5.out⟩, by simp [intOf]; omega⟩
            | (go_roundw; exact ⟨i + 1, K2, by omega, by go_num, ⟨HK2L.out, by omega⟩, HE2.out, BO5.out, AI5.out⟩; simp [intOf]; omega)
    · by_cases hlt : i < m
      · have h120 : ¬ (i : Int) < 100 := fun q => hgo ⟨hlt, q⟩
        have hlt2 : (i : Int) < m := by omega
        clear hgo hlt him
        have P0 := Lib.hid HBO.out.p
        have BW0 := Lib.hid HBO.out.r.bel
        have ID0 := HAI
        obtain ⟨W0, hW0⟩ : ∃ W0, W0 = wr := ⟨_, rfl⟩
        subst hW0
        obtain ⟨K2, hK2⟩ : ∃ K2, restD K id = K2 := ⟨_, rfl⟩
        obtain ⟨n2, hn2⟩ : ∃ n, (headsD K2 now).length = n := ⟨_, rfl⟩
        obtain ⟨k2, hk2⟩ : ∃ k, K2.length = k := ⟨_, rfl⟩
        have HH2 := Lib.hid hn2
        have HK2 := Lib.hid hk2
        have hK2le : K2.length ≤ K.length := by rw [← hK2]; exact (List.filter_sublist (p := fun x => !decide (x.id = id)) (l := K)).length_le
        have hh : ∀ q, (headsD q now).length ≤ q.length := fun q => by unfold headsD; rw [List.length_map]; unfold aliveD; exact List.length_filter_le _ _
        have hkl := HKL.out
        have HLK : Hid (K.length ≤ 4000 ∧ K2.length ≤ 4000) := ⟨by omega, by omega⟩
        obtain ⟨T5, hT5⟩ : ∃ T5, getD K2 id now = (T5, false) := ⟨TiV.nil, by unfold getD; rw [← hK2, rest_find]⟩
        have HG2 : Hid (∀ W, ProgD W n0 pb n0 200 K2 → Calls Tryz.prog 16 #[.pointer (some ⟨pb, 0, none⟩), .agg #[.int .i64 id.d, .int .i64 id.o, .int .i64 id.k, .int .i64 id.n], .int .i64 now] W fun e w' => ∃ s : Sl2, e = .returned (.tuple #[.agg #[.int .i64 T5.hd.id.d, .int .i64 T5.hd.id.o, .int .i64 T5.hd.id.k, .int .i64 T5.hd.id.n, .int .i64 T5.hd.seq, .int .i64 T5.hd.life, .int .i64 T5.level, .bool T5.over, .slice s.ea T5.es.length s.ec, .slice s.ra T5.rs.length s.rc], .bool false]) ∧ Below W.heap.size W w') := fun W hW => by
          refine (dget_any hW id hid.out now).mono ?_
          rintro e w' ⟨s, he, _, hb⟩
          rw [hT5] at he
          exact ⟨s, he, hb⟩
        cases hf : findD K id with
        | none =>
          obtain ⟨T, hT⟩ : ∃ T, getD K id now = (T, false) := ⟨TiV.nil, by unfold getD; rw [hf]⟩
          have HG1 : Hid (∀ W, ProgD W n0 pb n0 200 K → Calls Tryz.prog 16 #[.pointer (some ⟨pb, 0, none⟩), .agg #[.int .i64 id.d, .int .i64 id.o, .int .i64 id.k, .int .i64 id.n], .int .i64 now] W fun e w' => ∃ s : Sl2, e = .returned (.tuple #[.agg #[.int .i64 T.hd.id.d, .int .i64 T.hd.id.o, .int .i64 T.hd.id.k, .int .i64 T.hd.id.n, .int .i64 T.hd.seq, .int .i64 T.hd.life, .int .i64 T.level, .bool T.over, .slice s.ea T.es.length s.ec, .slice s.ra T.rs.length s.rc], .bool false]) ∧ Own2 w' W.heap.size T s ∧ Below W.heap.size W w') := fun W hW => by
            refine (dget_any hW id hid.out now).mono ?_
            rintro e w' ⟨s, he, ho, hb⟩
            rw [hT] at he ho
            exact ⟨s, he, ho, hb⟩
          have hKK : K2 = K := by rw [← hK2]; exact restD_none hf
          have HH1 : Hid ((headsD K now).length = n2) := by rw [hKK] at hn2; exact hn2
          have HK1 : Hid (K.length = k2) := by rw [hKK] at hk2; exact hk2
          have HFB : Hid ((findD K id).isSome = false) := by unfold Hid; rw [hf]; rfl
          have HHE : Hid (headsD K2 now = headsD K now) := by unfold Hid; rw [hKK]
          have HLN : Hid (n2 ≤ 4000) := by have := hh K2; unfold Hid; omega
          have HR2 := Lib.hid hK2
          have hkk := kk_ne k2
          have hwk : wrap64 ((k2 : Int) - 1) = (k2 : Int) - 1 := IntWalk.wrap64_in _ (by omega)
          have TG1 : True := trivial
          have TH1 : True := trivial
          have TL1 : True := trivial
          have TG2 : True := trivial
          have TH2 : True := trivial
          have TL2 : True := trivial
          have TH3 : True := trivial
          clear hf hT hT5 hn2 hk2 hK2le hh hkl hKK hK2
          go_wp2_with (first
            | (go_at_call 16; have tt := TG1; clear TG1 tt; refine (HG1.out _ P0.out).mono ?_; rintro e w1 ⟨s1, rfl, ho, hb⟩; have hq : Below W0.heap.size W0 (w1.alloc (.cells #[.int .i64 T.hd.id.d, .int .i64 T.hd.id.o, .int .i64 T.hd.id.k, .int .i64 T.hd.id.n, .int .i64 T.hd.seq, .int .i64 T.hd.life, .int .i64 T.level, .bool T.over, .slice s1.ea T.es.length s1.ec, .slice s1.ra T.rs.length s1.rc] 39)) := hb.alloc hb.size _; have BW1 := Lib.hid (BW0.out.trans (hq.mono BW0.out.size)); have P1 := Lib.hid (P0.out.below hq); have ID1 := Lib.hid (ID0.out.below hq ID0.out.lt); have OT1 : Hid (Own2 (w1.alloc (.cells #[.int .i64 T.hd.id.d, .int .i64 T.hd.id.o, .int .i64 T.hd.id.k, .int .i64 T.hd.id.n, .int .i64 T.hd.seq, .int .i64 T.hd.life, .int .i64 T.level, .bool T.over, .slice s1.ea T.es.length s1.ec, .slice s1.ra T.rs.length s1.rc] 39)) W0.heap.size T s1) := own2_b ho (Nat.le_refl _) (below_boxV _ _); have BX1 : Hid (Arr (w1.alloc (.cells #[.int .i64 T.hd.id.d, .int .i64 T.hd.id.o, .int .i64 T.hd.id.k, .int .i64 T.hd.id.n, .int .i64 T.hd.seq, .int .i64 T.hd.life, .int .i64 T.level, .bool T.over, .slice s1.ea T.es.length s1.ec, .slice s1.ra T.rs.length s1.rc] 39)) w1.heap.size 39 (cellsV T s1)) := Arr.new _ _ _; clear ho hb hq)
            | (go_at_call 14; have tt := TH1; clear TH1 tt; refine (dheads_any P1.out now HLK.out.1).mono ?_; rintro e w2 ⟨⟨v, rfl, ho⟩, hb⟩; obtain ⟨A1, c1, rfl, hc1, _⟩ := ho.shape; have BW2 := Lib.hid (BW1.out.trans (hb.mono BW1.out.size)); have P2 := Lib.hid (P1.out.below hb); have ID2 := Lib.hid (ID1.out.below hb ID1.out.lt); have OT2 := Lib.hid (own2_b OT1.out (Nat.le_refl _) hb); have BX2 := Lib.hid (BX1.out.below hb BX1.out.lt); have H12 := Lib.hid ho; have HC1 := Lib.hid hc1; rw [HH1.out]; clear ho hb hc1)
            | (go_at_call 17; have tt := TL1; clear TL1 tt; refine (dlen_any P2.out w2 (fun _ _ => rfl)).mono ?_; rintro e w3 ⟨rfl, h3⟩; have h3 := h3.symm; subst h3; rw [HK1.out])
            | (refine wpList_load_arr rfl 33 (.tmp 4) rfl w.heap.size rfl ID0.out Tryz.underlying33 rfl sizeId rfl ?_)
            | (refine wpList_load_arr rfl 33 (.tmp 4) rfl w.heap.size rfl ID2.out Tryz.underlying33 rfl sizeId rfl ?_)
            | (refine wpList_load_arr rfl 33 (.tmp 4) rfl w.heap.size rfl ID4.out Tryz.underlying33 rfl sizeId rfl ?_)
            | (go_at_call 18; refine (ddrop_any P2.out id hid.out).mono ?_; rintro e w4 ⟨rfl, hp, hg⟩; rw [HFB.out]; rw [HR2.out] at hp; have BW4 := Lib.hid (BW2.out.grown hg BW2.out.size (fun q e => by cases e; exact HN0.out)); have ID4 := Lib.hid (arr_g ID2.out hg (map_is P2.out)); have H14 := Lib.hid (own_g H12.out hg (map_is P2.out)); have OT4 := Lib.hid (own2_g OT2.out hg (map_is P2.out)); have BX4 := Lib.hid (arr_g BX2.out hg (map_is P2.out)); have P4 := Lib.hid hp; clear hp hg)
            | (go_at_call 16; have tt := TG2; clear TG2 tt; refine (HG2.out _ P4.out).mono ?_; rintro e w5 ⟨s5, rfl, hb⟩; have hq : Below w4.heap.size w4 (w5.alloc (.cells #[.int .i64 T5.hd.id.d, .int .i64 T5.hd.id.o, .int .i64 T5.hd.id.k, .int .i64 T5.hd.id.n, .int .i64 T5.hd.seq, .int .i64 T5.hd.life, .int .i64 T5.level, .bool T5.over, .slice s5.ea T5.es.length s5.ec, .slice s5.ra T5.rs.length s5.rc] 39)) := hb.alloc hb.size _; have BW5 := Lib.hid (BW4.out.trans (hq.mono BW4.out.size)); have P5 := Lib.hid (P4.out.below hq); have ID5 := Lib.hid (ID4.out.below hq ID4.out.lt); have H15 := Lib.hid (H14.out.below hq); have OT5 := Lib.hid (own2_b OT4.out (Nat.le_refl _) hq); have BX5 := Lib.hid (BX4.out.below hq BX4.out.lt); clear hb hq)
            | (go_at_call 14; have tt := TH2; clear TH2 tt; refine (dheads_any P5.out now HLK.out.2).mono ?_; rintro e w6 ⟨⟨v, rfl, ho⟩, hb⟩; obtain ⟨A6, c6, rfl, hc6, _⟩ := ho.shape; have BW6 := Lib.hid (BW5.out.trans (hb.mono BW5.out.size)); have P6 := Lib.hid (P5.out.below hb); have ID6 := Lib.hid (ID5.out.below hb ID5.out.lt); have H16 := Lib.hid (H15.out.below hb); have OT6 := Lib.hid (own2_b OT5.out (Nat.le_refl _) hb); have BX6 := Lib.hid (BX5.out.below hb BX5.out.lt); have H26 := Lib.hid ho; have HC6 := Lib.hid hc6; rw [HH2.out]; clear ho hb hc6)
            | (go_at_call 17; have tt := TL2; clear TL2 tt; refine (dlen_any P6.out w6 (fun _ _ => rfl)).mono ?_; rintro e w7 ⟨rfl, h3⟩; have h3 := h3.symm; subst h3; rw [HK2.out])
            | (go_at_call 13; refine (sameH A6 A1 c6 c1 n2 n2 _ _ HH2.out HH1.out HHE.out HLN.out HC6.out HC1.out _ (kindT.rd H26.out) (kindT.rd H16.out)).mono ?_; rintro e w8 ⟨rfl, hb8⟩; have BW8 := Lib.hid (BW6.out.trans (hb8.mono BW6.out.size)); clear hb8))
          all_goals go_ret
          all_goals exact ⟨rfl, BW8.out⟩
        | some y =>
          by_cases hal : isD y now
          · have hy : y.id = id := (findD_is hf).2
            have hfy : findD K y.id = some y := by rw [hy]; exact hf
            obtain ⟨T, hT0⟩ : ∃ T, toldD y now = T := ⟨_, rfl⟩
            have hT : getD K id now = (T, true) := by unfold getD; rw [hf]; dsimp only; rw [if_pos hal, hT0]
            have HG1 : Hid (∀ W, ProgD W n0 pb n0 200 K → Calls Tryz.prog 16 #[.pointer (some ⟨pb, 0, none⟩), .agg #[.int .i64 id.d, .int .i64 id.o, .int .i64 id.k, .int .i64 id.n], .int .i64 now] W fun e w' => ∃ s : Sl2, e = .returned (.tuple #[.agg #[.int .i64 T.hd.id.d, .int .i64 T.hd.id.o, .int .i64 T.hd.id.k, .int .i64 T.hd.id.n, .int .i64 T.hd.seq, .int .i64 T.hd.life, .int .i64 T.level, .bool T.over, .slice s.ea T.es.length s.ec, .slice s.ra T.rs.length s.rc], .bool true]) ∧ Own2 w' W.heap.size T s ∧ Below W.heap.size W w') := fun W hW => by
              refine (dget_any hW id hid.out now).mono ?_
              rintro e w' ⟨s, he, ho, hb⟩
              rw [hT] at he ho
              exact ⟨s, he, ho, hb⟩
            have hra := rest_alive HBO.out.p.inv.asc hfy (fun x => decide (isD x now))
            have hpa := put_again HBO.out.p.inv (by omega) HEX.out hfy hal
            have hma := again_math HBO.out.p.inv.asc hfy hal
            obtain ⟨K3, hK3⟩ : ∃ K3, insD (restD K y.id) (enD (toldD y now) now) = K3 := ⟨_, rfl⟩
            rw [hK3] at hpa hma
            rw [hy, hK2] at hra hpa
            rw [hT0] at hpa
            have hl1 : (headsD K now).length = n2 + 1 := by
              have h1 := hra.1
              have h2 := hra.2.2.1 (decide_eq_true hal)
              rw [if_pos (decide_eq_true hal)] at h1
              unfold headsD aliveD at hn2 ⊢
              rw [List.length_map] at hn2 ⊢
              omega
            obtain ⟨n1, hn1'⟩ : ∃ n1, (headsD K now).length = n1 := ⟨_, rfl⟩
            have HH1 := Lib.hid hn1'
            have hh1 := hh K
            have hwn : wrap64 ((n1 : Int) - 1) = (n2 : Int) := by rw [IntWalk.wrap64_in _ (by omega)]; omega
            obtain ⟨k1, hk1⟩ : ∃ k1, K.length = k1 := ⟨_, rfl⟩
            have HK1 := Lib.hid hk1
            have hwk : wrap64 ((k1 : Int) - 1) = (k2 : Int) := by rw [IntWalk.wrap64_in _ (by omega)]; have := hra.2.2.2; omega
            have HFB : Hid ((findD K id).isSome = true) := by unfold Hid; rw [hf]; rfl
            have HHE := Lib.hid hma
            have HH3 : Hid ((headsD K3 now).length = n1) := by unfold Hid; rw [hma]; exact hn1'
            have HLN : Hid (n1 ≤ 4000) := by have := hh K; unfold Hid; omega
            have hk3 : K3.length ≤ K2.length + 1 := by
              rw [← hK3, hy, hK2, insD_len (by rw [← hK2]; exact (HBO.out.p.inv.drop id).asc)]
              split <;> omega
            have HL3 : Hid (K3.length ≤ 4000) := by unfold Hid; omega
            have HPT : Hid (∀ (W : World) (s : Sl2) (n : Nat), ProgD W n0 pb n0 200 K2 → Own2 W n T s → Calls Tryz.prog 19 #[.pointer (some ⟨pb, 0, none⟩), .agg #[.int .i64 T.hd.id.d, .int .i64 T.hd.id.o, .int .i64 T.hd.id.k, .int .i64 T.hd.id.n, .int .i64 T.hd.seq, .int .i64 T.hd.life, .int .i64 T.level, .bool T.over, .slice s.ea T.es.length s.ec, .slice s.ra T.rs.length s.rc], .int .i64 now] W fun e w' => e = .returned (.tuple #[.int .i64 1, .int .i64 0]) ∧ ProgD w' n0 pb n0 200 K3 ∧ W.grownBy w' (some n0)) := fun W s n hW ho => by
              have hrd := get_rd (W := W) (n0 := n) HBO.out.p.inv id now (s := s)
              rw [hT] at hrd
              have := dput_any hW (hrd ho) now (by omega)
              unfold PutE at this
              rw [hpa] at this
              exact this
            have HR2 := Lib.hid hK2
            have TG1 : True := trivial
            have TH1 : True := trivial
            have TL1 : True := trivial
            have TG2 : True := trivial
            have TH2 : True := trivial
            have TL2 : True := trivial
            have TH3 : True := trivial
            clear hf hT hT5 hn2 hk2 hK2le hh hkl hK2 hra hal hy hfy hT0 hpa hma hK3 hl1 hk3 hk1 hn1' hh1
            go_wp2_with (first
              | (go_at_call 16; have tt := TG1; clear TG1 tt; refine (HG1.out _ P0.out).mono ?_; rintro e w1 ⟨s1, rfl, ho, hb⟩; have hq : Below W0.heap.size W0 (w1.alloc (.cells #[.int .i64 T.hd.id.d, .int .i64 T.hd.id.o, .int .i64 T.hd.id.k, .int .i64 T.hd.id.n, .int .i64 T.hd.seq, .int .i64 T.hd.life, .int .i64 T.level, .bool T.over, .slice s1.ea T.es.length s1.ec, .slice s1.ra T.rs.length s1.rc] 39)) := hb.alloc hb.size _; have BW1 := Lib.hid (BW0.out.trans (hq.mono BW0.out.size)); have P1 := Lib.hid (P0.out.below hq); have ID1 := Lib.hid (ID0.out.below hq ID0.out.lt); have OT1 : Hid (Own2 (w1.alloc (.cells #[.int .i64 T.hd.id.d, .int .i64 T.hd.id.o, .int .i64 T.hd.id.k, .int .i64 T.hd.id.n, .int .i64 T.hd.seq, .int .i64 T.hd.life, .int .i64 T.level, .bool T.over, .slice s1.ea T.es.length s1.ec, .slice s1.ra T.rs.length s1.rc] 39)) W0.heap.size T s1) := own2_b ho (Nat.le_refl _) (below_boxV _ _); have BX1 : Hid (Arr (w1.alloc (.cells #[.int .i64 T.hd.id.d, .int .i64 T.hd.id.o, .int .i64 T.hd.id.k, .int .i64 T.hd.id.n, .int .i64 T.hd.seq, .int .i64 T.hd.life, .int .i64 T.level, .bool T.over, .slice s1.ea T.es.length s1.ec, .slice s1.ra T.rs.length s1.rc] 39)) w1.heap.size 39 (cellsV T s1)) := Arr.new _ _ _; clear ho hb hq)
              | (go_at_call 14; have tt := TH1; clear TH1 tt; refine (dheads_any P1.out now HLK.out.1).mono ?_; rintro e w2 ⟨⟨v, rfl, ho⟩, hb⟩; obtain ⟨A1, c1, rfl, hc1, _⟩ := ho.shape; have BW2 := Lib.hid (BW1.out.trans (hb.mono BW1.out.size)); have P2 := Lib.hid (P1.out.below hb); have ID2 := Lib.hid (ID1.out.below hb ID1.out.lt); have OT2 := Lib.hid (own2_b OT1.out (Nat.le_refl _) hb); have BX2 := Lib.hid (BX1.out.below hb BX1.out.lt); have H12 := Lib.hid ho; have HC1 := Lib.hid hc1; rw [HH1.out]; clear ho hb hc1)
              | (go_at_call 17; have tt := TL1; clear TL1 tt; refine (dlen_any P2.out w2 (fun _ _ => rfl)).mono ?_; rintro e w3 ⟨rfl, h3⟩; have h3 := h3.symm; subst h3; rw [HK1.out])
              | (refine wpList_load_arr rfl 33 (.tmp 4) rfl w.heap.size rfl ID0.out Tryz.underlying33 rfl sizeId rfl ?_)
              | (refine wpList_load_arr rfl 33 (.tmp 4) rfl w.heap.size rfl ID2.out Tryz.underlying33 rfl sizeId rfl ?_)
              | (refine wpList_load_arr rfl 33 (.tmp 4) rfl w.heap.size rfl ID4.out Tryz.underlying33 rfl sizeId rfl ?_)
              | (go_at_call 18; refine (ddrop_any P2.out id hid.out).mono ?_; rintro e w4 ⟨rfl, hp, hg⟩; rw [HFB.out]; rw [HR2.out] at hp; have BW4 := Lib.hid (BW2.out.grown hg BW2.out.size (fun q e => by cases e; exact HN0.out)); have ID4 := Lib.hid (arr_g ID2.out hg (map_is P2.out)); have H14 := Lib.hid (own_g H12.out hg (map_is P2.out)); have OT4 := Lib.hid (own2_g OT2.out hg (map_is P2.out)); have BX4 := Lib.hid (arr_g BX2.out hg (map_is P2.out)); have P4 := Lib.hid hp; clear hp hg)
              | (go_at_call 16; have tt := TG2; clear TG2 tt; refine (HG2.out _ P4.out).mono ?_; rintro e w5 ⟨s5, rfl, hb⟩; have hq : Below w4.heap.size w4 (w5.alloc (.cells #[.int .i64 T5.hd.id.d, .int .i64 T5.hd.id.o, .int .i64 T5.hd.id.k, .int .i64 T5.hd.id.n, .int .i64 T5.hd.seq, .int .i64 T5.hd.life, .int .i64 T5.level, .bool T5.over, .slice s5.ea T5.es.length s5.ec, .slice s5.ra T5.rs.length s5.rc] 39)) := hb.alloc hb.size _; have BW5 := Lib.hid (BW4.out.trans (hq.mono BW4.out.size)); have P5 := Lib.hid (P4.out.below hq); have ID5 := Lib.hid (ID4.out.below hq ID4.out.lt); have H15 := Lib.hid (H14.out.below hq); have OT5 := Lib.hid (own2_b OT4.out (Nat.le_refl _) hq); have BX5 := Lib.hid (BX4.out.below hq BX4.out.lt); clear hb hq)
              | (go_at_call 14; have tt := TH2; clear TH2 tt; refine (dheads_any P5.out now HLK.out.2).mono ?_; rintro e w6 ⟨⟨v, rfl, ho⟩, hb⟩; obtain ⟨A6, c6, rfl, hc6, _⟩ := ho.shape; have BW6 := Lib.hid (BW5.out.trans (hb.mono BW5.out.size)); have P6 := Lib.hid (P5.out.below hb); have ID6 := Lib.hid (ID5.out.below hb ID5.out.lt); have H16 := Lib.hid (H15.out.below hb); have OT6 := Lib.hid (own2_b OT5.out (Nat.le_refl _) hb); have BX6 := Lib.hid (BX5.out.below hb BX5.out.lt); have H26 := Lib.hid ho; have HC6 := Lib.hid hc6; rw [HH2.out]; clear ho hb hc6)
              | (go_at_call 17; have tt := TL2; clear TL2 tt; refine (dlen_any P6.out w6 (fun _ _ => rfl)).mono ?_; rintro e w7 ⟨rfl, h3⟩; have h3 := h3.symm; subst h3; rw [HK2.out])
              | (refine wpList_load_arr rfl 39 (.tmp 13) rfl w1.heap.size rfl BX6.out Tryz.underlying39 rfl sizeV rfl ?_)
              | (go_at_call 19; refine (HPT.out _ _ _ P6.out OT6.out).mono ?_; rintro e w8 ⟨rfl, hp, hg⟩; have BW8 := Lib.hid (BW6.out.grown hg BW6.out.size (fun q e => by cases e; exact HN0.out)); have H18 := Lib.hid (own_g H16.out hg (map_is P6.out)); have P8 := Lib.hid hp; clear hp hg)
              | (go_at_call 14; have tt := TH3; clear TH3 tt; refine (dheads_any P8.out now HL3.out).mono ?_; rintro e w9 ⟨⟨v, rfl, ho⟩, hb⟩; obtain ⟨A9, c9, rfl, hc9, _⟩ := ho.shape; have BW9 := Lib.hid (BW8.out.trans (hb.mono BW8.out.size)); have H19 := Lib.hid (H18.out.below hb); have H39 := Lib.hid ho; have HC9 := Lib.hid hc9; rw [HH3.out]; clear ho hb hc9)
              | (go_at_call 13; refine (sameH A9 A1 c9 c1 n1 n1 _ _ HH3.out HH1.out HHE.out HLN.out HC9.out HC1.out _ (kindT.rd H39.out) (kindT.rd H19.out)).mono ?_; rintro e w10 ⟨rfl, hb8⟩; have BW10 := Lib.hid (BW9.out.trans (hb8.mono BW9.out.size)); clear hb8))
            all_goals go_ret
            all_goals exact ⟨rfl, BW10.out⟩
          · have hy : y.id = id := (findD_is hf).2
            obtain ⟨T, hT⟩ : ∃ T, getD K id now = (T, false) := ⟨TiV.nil, by unfold getD; rw [hf]; dsimp only; rw [if_neg hal]⟩
            have HG1 : Hid (∀ W, ProgD W n0 pb n0 200 K → Calls Tryz.prog 16 #[.pointer (some ⟨pb, 0, none⟩), .agg #[.int .i64 id.d, .int .i64 id.o, .int .i64 id.k, .int .i64 id.n], .int .i64 now] W fun e w' => ∃ s : Sl2, e = .returned (.tuple #[.agg #[.int .i64 T.hd.id.d, .int .i64 T.hd.id.o, .int .i64 T.hd.id.k, .int .i64 T.hd.id.n, .int .i64 T.hd.seq, .int .i64 T.hd.life, .int .i64 T.level, .bool T.over, .slice s.ea T.es.length s.ec, .slice s.ra T.rs.length s.rc], .bool false]) ∧ Own2 w' W.heap.size T s ∧ Below W.heap.size W w') := fun W hW => by
              refine (dget_any hW id hid.out now).mono ?_
              rintro e w' ⟨s, he, ho, hb⟩
              rw [hT] at he ho
              exact ⟨s, he, ho, hb⟩
            have hra := rest_alive HBO.out.p.inv.asc (y := y) (by rw [hy]; exact hf) (fun x => decide (isD x now))
            rw [hy, hK2] at hra
            have hE : headsD K2 now = headsD K now := by unfold headsD aliveD; rw [hra.2.1 (decide_eq_false hal)]
            have HH1 : Hid ((headsD K now).length = n2) := by rw [hE] at hn2; exact hn2
            obtain ⟨k1, hk1⟩ : ∃ k1, K.length = k1 := ⟨_, rfl⟩
            have HK1 := Lib.hid hk1
            have hwk : wrap64 ((k1 : Int) - 1) = (k2 : Int) := by rw [IntWalk.wrap64_in _ (by omega)]; have := hra.2.2.2; omega
            have HFB : Hid ((findD K id).isSome = true) := by unfold Hid; rw [hf]; rfl
            have HHE := Lib.hid hE
            have HLN : Hid (n2 ≤ 4000) := by have := hh K2; unfold Hid; omega
            have HR2 := Lib.hid hK2
            have TG1 : True := trivial
            have TH1 : True := trivial
            have TL1 : True := trivial
            have TG2 : True := trivial
            have TH2 : True := trivial
            have TL2 : True := trivial
            have TH3 : True := trivial
            clear hf hT hT5 hn2 hk2 hK2le hh hkl hK2 hra hE hal hy hk1
            go_wp2_with (first
              | (go_at_call 16; have tt := TG1; clear TG1 tt; refine (HG1.out _ P0.out).mono ?_; rintro e w1 ⟨s1, rfl, ho, hb⟩; have hq : Below W0.heap.size W0 (w1.alloc (.cells #[.int .i64 T.hd.id.d, .int .i64 T.hd.id.o, .int .i64 T.hd.id.k, .int .i64 T.hd.id.n, .int .i64 T.hd.seq, .int .i64 T.hd.life, .int .i64 T.level, .bool T.over, .slice s1.ea T.es.length s1.ec, .slice s1.ra T.rs.length s1.rc] 39)) := hb.alloc hb.size _; have BW1 := Lib.hid (BW0.out.trans (hq.mono BW0.out.size)); have P1 := Lib.hid (P0.out.below hq); have ID1 := Lib.hid (ID0.out.below hq ID0.out.lt); have OT1 : Hid (Own2 (w1.alloc (.cells #[.int .i64 T.hd.id.d, .int .i64 T.hd.id.o, .int .i64 T.hd.id.k, .int .i64 T.hd.id.n, .int .i64 T.hd.seq, .int .i64 T.hd.life, .int .i64 T.level, .bool T.over, .slice s1.ea T.es.length s1.ec, .slice s1.ra T.rs.length s1.rc] 39)) W0.heap.size T s1) := own2_b ho (Nat.le_refl _) (below_boxV _ _); have BX1 : Hid (Arr (w1.alloc (.cells #[.int .i64 T.hd.id.d, .int .i64 T.hd.id.o, .int .i64 T.hd.id.k, .int .i64 T.hd.id.n, .int .i64 T.hd.seq, .int .i64 T.hd.life, .int .i64 T.level, .bool T.over, .slice s1.ea T.es.length s1.ec, .slice s1.ra T.rs.length s1.rc] 39)) w1.heap.size 39 (cellsV T s1)) := Arr.new _ _ _; clear ho hb hq)
              | (go_at_call 14; have tt := TH1; clear TH1 tt; refine (dheads_any P1.out now HLK.out.1).mono ?_; rintro e w2 ⟨⟨v, rfl, ho⟩, hb⟩; obtain ⟨A1, c1, rfl, hc1, _⟩ := ho.shape; have BW2 := Lib.hid (BW1.out.trans (hb.mono BW1.out.size)); have P2 := Lib.hid (P1.out.below hb); have ID2 := Lib.hid (ID1.out.below hb ID1.out.lt); have OT2 := Lib.hid (own2_b OT1.out (Nat.le_refl _) hb); have BX2 := Lib.hid (BX1.out.below hb BX1.out.lt); have H12 := Lib.hid ho; have HC1 := Lib.hid hc1; rw [HH1.out]; clear ho hb hc1)
              | (go_at_call 17; have tt := TL1; clear TL1 tt; refine (dlen_any P2.out w2 (fun _ _ => rfl)).mono ?_; rintro e w3 ⟨rfl, h3⟩; have h3 := h3.symm; subst h3; rw [HK1.out])
              | (refine wpList_load_arr rfl 33 (.tmp 4) rfl w.heap.size rfl ID0.out Tryz.underlying33 rfl sizeId rfl ?_)
              | (refine wpList_load_arr rfl 33 (.tmp 4) rfl w.heap.size rfl ID2.out Tryz.underlying33 rfl sizeId rfl ?_)
              | (refine wpList_load_arr rfl 33 (.tmp 4) rfl w.heap.size rfl ID4.out Tryz.underlying33 rfl sizeId rfl ?_)
              | (go_at_call 18; refine (ddrop_any P2.out id hid.out).mono ?_; rintro e w4 ⟨rfl, hp, hg⟩; rw [HFB.out]; rw [HR2.out] at hp; have BW4 := Lib.hid (BW2.out.grown hg BW2.out.size (fun q e => by cases e; exact HN0.out)); have ID4 := Lib.hid (arr_g ID2.out hg (map_is P2.out)); have H14 := Lib.hid (own_g H12.out hg (map_is P2.out)); have OT4 := Lib.hid (own2_g OT2.out hg (map_is P2.out)); have BX4 := Lib.hid (arr_g BX2.out hg (map_is P2.out)); have P4 := Lib.hid hp; clear hp hg)
              | (go_at_call 16; have tt := TG2; clear TG2 tt; refine (HG2.out _ P4.out).mono ?_; rintro e w5 ⟨s5, rfl, hb⟩; have hq : Below w4.heap.size w4 (w5.alloc (.cells #[.int .i64 T5.hd.id.d, .int .i64 T5.hd.id.o, .int .i64 T5.hd.id.k, .int .i64 T5.hd.id.n, .int .i64 T5.hd.seq, .int .i64 T5.hd.life, .int .i64 T5.level, .bool T5.over, .slice s5.ea T5.es.length s5.ec, .slice s5.ra T5.rs.length s5.rc] 39)) := hb.alloc hb.size _; have BW5 := Lib.hid (BW4.out.trans (hq.mono BW4.out.size)); have P5 := Lib.hid (P4.out.below hq); have ID5 := Lib.hid (ID4.out.below hq ID4.out.lt); have H15 := Lib.hid (H14.out.below hq); have OT5 := Lib.hid (own2_b OT4.out (Nat.le_refl _) hq); have BX5 := Lib.hid (BX4.out.below hq BX4.out.lt); clear hb hq)
              | (go_at_call 14; have tt := TH2; clear TH2 tt; refine (dheads_any P5.out now HLK.out.2).mono ?_; rintro e w6 ⟨⟨v, rfl, ho⟩, hb⟩; obtain ⟨A6, c6, rfl, hc6, _⟩ := ho.shape; have BW6 := Lib.hid (BW5.out.trans (hb.mono BW5.out.size)); have P6 := Lib.hid (P5.out.below hb); have ID6 := Lib.hid (ID5.out.below hb ID5.out.lt); have H16 := Lib.hid (H15.out.below hb); have OT6 := Lib.hid (own2_b OT5.out (Nat.le_refl _) hb); have BX6 := Lib.hid (BX5.out.below hb BX5.out.lt); have H26 := Lib.hid ho; have HC6 := Lib.hid hc6; rw [HH2.out]; clear ho hb hc6)
              | (go_at_call 17; have tt := TL2; clear TL2 tt; refine (dlen_any P6.out w6 (fun _ _ => rfl)).mono ?_; rintro e w7 ⟨rfl, h3⟩; have h3 := h3.symm; subst h3; rw [HK2.out])
              | (go_at_call 13; refine (sameH A6 A1 c6 c1 n2 n2 _ _ HH2.out HH1.out HHE.out HLN.out HC6.out HC1.out _ (kindT.rd H26.out) (kindT.rd H16.out)).mono ?_; rintro e w8 ⟨rfl, hb8⟩; have BW8 := Lib.hid (BW6.out.trans (hb8.mono BW6.out.size)); clear hb8))
            all_goals go_ret
            all_goals exact ⟨rfl, BW8.out⟩
      · clear hgo
        have P0 := Lib.hid HBO.out.p
        have BW0 := Lib.hid HBO.out.r.bel
        have ID0 := HAI
        obtain ⟨W0, hW0⟩ : ∃ W0, W0 = wr := ⟨_, rfl⟩
        subst hW0
        obtain ⟨K2, hK2⟩ : ∃ K2, restD K id = K2 := ⟨_, rfl⟩
        obtain ⟨n2, hn2⟩ : ∃ n, (headsD K2 now).length = n := ⟨_, rfl⟩
        obtain ⟨k2, hk2⟩ : ∃ k, K2.length = k := ⟨_, rfl⟩
        have HH2 := Lib.hid hn2
        have HK2 := Lib.hid hk2
        have hK2le : K2.length ≤ K.length := by rw [← hK2]; exact (List.filter_sublist (p := fun x => !decide (x.id = id)) (l := K)).length_le
        have hh : ∀ q, (headsD q now).length ≤ q.length := fun q => by unfold headsD; rw [List.length_map]; unfold aliveD; exact List.length_filter_le _ _
        have hkl := HKL.out
        have HLK : Hid (K.length ≤ 4000 ∧ K2.length ≤ 4000) := ⟨by omega, by omega⟩
        obtain ⟨T5, hT5⟩ : ∃ T5, getD K2 id now = (T5, false) := ⟨TiV.nil, by unfold getD; rw [← hK2, rest_find]⟩
        have HG2 : Hid (∀ W, ProgD W n0 pb n0 200 K2 → Calls Tryz.prog 16 #[.pointer (some ⟨pb, 0, none⟩), .agg #[.int .i64 id.d, .int .i64 id.o, .int .i64 id.k, .int .i64 id.n], .int .i64 now] W fun e w' => ∃ s : Sl2, e = .returned (.tuple #[.agg #[.int .i64 T5.hd.id.d, .int .i64 T5.hd.id.o, .int .i64 T5.hd.id.k, .int .i64 T5.hd.id.n, .int .i64 T5.hd.seq, .int .i64 T5.hd.life, .int .i64 T5.level, .bool T5.over, .slice s.ea T5.es.length s.ec, .slice s.ra T5.rs.length s.rc], .bool false]) ∧ Below W.heap.size W w') := fun W hW => by
          refine (dget_any hW id hid.out now).mono ?_
          rintro e w' ⟨s, he, _, hb⟩
          rw [hT5] at he
          exact ⟨s, he, hb⟩
        cases hf : findD K id with
        | none =>
          obtain ⟨T, hT⟩ : ∃ T, getD K id now = (T, false) := ⟨TiV.nil, by unfold getD; rw [hf]⟩
          have HG1 : Hid (∀ W, ProgD W n0 pb n0 200 K → Calls Tryz.prog 16 #[.pointer (some ⟨pb, 0, none⟩), .agg #[.int .i64 id.d, .int .i64 id.o, .int .i64 id.k, .int .i64 id.n], .int .i64 now] W fun e w' => ∃ s : Sl2, e = .returned (.tuple #[.agg #[.int .i64 T.hd.id.d, .int .i64 T.hd.id.o, .int .i64 T.hd.id.k, .int .i64 T.hd.id.n, .int .i64 T.hd.seq, .int .i64 T.hd.life, .int .i64 T.level, .bool T.over, .slice s.ea T.es.length s.ec, .slice s.ra T.rs.length s.rc], .bool false]) ∧ Own2 w' W.heap.size T s ∧ Below W.heap.size W w') := fun W hW => by
            refine (dget_any hW id hid.out now).mono ?_
            rintro e w' ⟨s, he, ho, hb⟩
            rw [hT] at he ho
            exact ⟨s, he, ho, hb⟩
          have hKK : K2 = K := by rw [← hK2]; exact restD_none hf
          have HH1 : Hid ((headsD K now).length = n2) := by rw [hKK] at hn2; exact hn2
          have HK1 : Hid (K.length = k2) := by rw [hKK] at hk2; exact hk2
          have HFB : Hid ((findD K id).isSome = false) := by unfold Hid; rw [hf]; rfl
          have HHE : Hid (headsD K2 now = headsD K now) := by unfold Hid; rw [hKK]
          have HLN : Hid (n2 ≤ 4000) := by have := hh K2; unfold Hid; omega
          have HR2 := Lib.hid hK2
          have hkk := kk_ne k2
          have hwk : wrap64 ((k2 : Int) - 1) = (k2 : Int) - 1 := IntWalk.wrap64_in _ (by omega)
          have TG1 : True := trivial
          have TH1 : True := trivial
          have TL1 : True := trivial
          have TG2 : True := trivial
          have TH2 : True := trivial
          have TL2 : True := trivial
          have TH3 : True := trivial
          clear hf hT hT5 hn2 hk2 hK2le hh hkl hKK hK2
          go_wp2_with (first
            | (go_at_call 16; have tt := TG1; clear TG1 tt; refine (HG1.out _ P0.out).mono ?_; rintro e w1 ⟨s1, rfl, ho, hb⟩; have hq : Below W0.heap.size W0 (w1.alloc (.cells #[.int .i64 T.hd.id.d, .int .i64 T.hd.id.o, .int .i64 T.hd.id.k, .int .i64 T.hd.id.n, .int .i64 T.hd.seq, .int .i64 T.hd.life, .int .i64 T.level, .bool T.over, .slice s1.ea T.es.length s1.ec, .slice s1.ra T.rs.length s1.rc] 39)) := hb.alloc hb.size _; have BW1 := Lib.hid (BW0.out.trans (hq.mono BW0.out.size)); have P1 := Lib.hid (P0.out.below hq); have ID1 := Lib.hid (ID0.out.below hq ID0.out.lt); have OT1 : Hid (Own2 (w1.alloc (.cells #[.int .i64 T.hd.id.d, .int .i64 T.hd.id.o, .int .i64 T.hd.id.k, .int .i64 T.hd.id.n, .int .i64 T.hd.seq, .int .i64 T.hd.life, .int .i64 T.level, .bool T.over, .slice s1.ea T.es.length s1.ec, .slice s1.ra T.rs.length s1.rc] 39)) W0.heap.size T s1) := own2_b ho (Nat.le_refl _) (below_boxV _ _); have BX1 : Hid (Arr (w1.alloc (.cells #[.int .i64 T.hd.id.d, .int .i64 T.hd.id.o, .int .i64 T.hd.id.k, .int .i64 T.hd.id.n, .int .i64 T.hd.seq, .int .i64 T.hd.life, .int .i64 T.level, .bool T.over, .slice s1.ea T.es.length s1.ec, .slice s1.ra T.rs.length s1.rc] 39)) w1.heap.size 39 (cellsV T s1)) := Arr.new _ _ _; clear ho hb hq)
            | (go_at_call 14; have tt := TH1; clear TH1 tt; refine (dheads_any P1.out now HLK.out.1).mono ?_; rintro e w2 ⟨⟨v, rfl, ho⟩, hb⟩; obtain ⟨A1, c1, rfl, hc1, _⟩ := ho.shape; have BW2 := Lib.hid (BW1.out.trans (hb.mono BW1.out.size)); have P2 := Lib.hid (P1.out.below hb); have ID2 := Lib.hid (ID1.out.below hb ID1.out.lt); have OT2 := Lib.hid (own2_b OT1.out (Nat.le_refl _) hb); have BX2 := Lib.hid (BX1.out.below hb BX1.out.lt); have H12 := Lib.hid ho; have HC1 := Lib.hid hc1; rw [HH1.out]; clear ho hb hc1)
            | (go_at_call 17; have tt := TL1; clear TL1 tt; refine (dlen_any P2.out w2 (fun _ _ => rfl)).mono ?_; rintro e w3 ⟨rfl, h3⟩; have h3 := h3.symm; subst h3; rw [HK1.out])
            | (refine wpList_load_arr rfl 33 (.tmp 4) rfl w.heap.size rfl ID0.out Tryz.underlying33 rfl sizeId rfl ?_)
            | (refine wpList_load_arr rfl 33 (.tmp 4) rfl w.heap.size rfl ID2.out Tryz.underlying33 rfl sizeId rfl ?_)
            | (refine wpList_load_arr rfl 33 (.tmp 4) rfl w.heap.size rfl ID4.out Tryz.underlying33 rfl sizeId rfl ?_)
            | (go_at_call 18; refine (ddrop_any P2.out id hid.out).mono ?_; rintro e w4 ⟨rfl, hp, hg⟩; rw [HFB.out]; rw [HR2.out] at hp; have BW4 := Lib.hid (BW2.out.grown hg BW2.out.size (fun q e => by cases e; exact HN0.out)); have ID4 := Lib.hid (arr_g ID2.out hg (map_is P2.out)); have H14 := Lib.hid (own_g H12.out hg (map_is P2.out)); have OT4 := Lib.hid (own2_g OT2.out hg (map_is P2.out)); have BX4 := Lib.hid (arr_g BX2.out hg (map_is P2.out)); have P4 := Lib.hid hp; clear hp hg)
            | (go_at_call 16; have tt := TG2; clear TG2 tt; refine (HG2.out _ P4.out).mono ?_; rintro e w5 ⟨s5, rfl, hb⟩; have hq : Below w4.heap.size w4 (w5.alloc (.cells #[.int .i64 T5.hd.id.d, .int .i64 T5.hd.id.o, .int .i64 T5.hd.id.k, .int .i64 T5.hd.id.n, .int .i64 T5.hd.seq, .int .i64 T5.hd.life, .int .i64 T5.level, .bool T5.over, .slice s5.ea T5.es.length s5.ec, .slice s5.ra T5.rs.length s5.rc] 39)) := hb.alloc hb.size _; have BW5 := Lib.hid (BW4.out.trans (hq.mono BW4.out.size)); have P5 := Lib.hid (P4.out.below hq); have ID5 := Lib.hid (ID4.out.below hq ID4.out.lt); have H15 := Lib.hid (H14.out.below hq); have OT5 := Lib.hid (own2_b OT4.out (Nat.le_refl _) hq); have BX5 := Lib.hid (BX4.out.below hq BX4.out.lt); clear hb hq)
            | (go_at_call 14; have tt := TH2; clear TH2 tt; refine (dheads_any P5.out now HLK.out.2).mono ?_; rintro e w6 ⟨⟨v, rfl, ho⟩, hb⟩; obtain ⟨A6, c6, rfl, hc6, _⟩ := ho.shape; have BW6 := Lib.hid (BW5.out.trans (hb.mono BW5.out.size)); have P6 := Lib.hid (P5.out.below hb); have ID6 := Lib.hid (ID5.out.below hb ID5.out.lt); have H16 := Lib.hid (H15.out.below hb); have OT6 := Lib.hid (own2_b OT5.out (Nat.le_refl _) hb); have BX6 := Lib.hid (BX5.out.below hb BX5.out.lt); have H26 := Lib.hid ho; have HC6 := Lib.hid hc6; rw [HH2.out]; clear ho hb hc6)
            | (go_at_call 17; have tt := TL2; clear TL2 tt; refine (dlen_any P6.out w6 (fun _ _ => rfl)).mono ?_; rintro e w7 ⟨rfl, h3⟩; have h3 := h3.symm; subst h3; rw [HK2.out])
            | (go_at_call 13; refine (sameH A6 A1 c6 c1 n2 n2 _ _ HH2.out HH1.out HHE.out HLN.out HC6.out HC1.out _ (kindT.rd H26.out) (kindT.rd H16.out)).mono ?_; rintro e w8 ⟨rfl, hb8⟩; have BW8 := Lib.hid (BW6.out.trans (hb8.mono BW6.out.size)); clear hb8))
          all_goals go_ret
          all_goals exact ⟨rfl, BW8.out⟩
        | some y =>
          by_cases hal : isD y now
          · have hy : y.id = id := (findD_is hf).2
            have hfy : findD K y.id = some y := by rw [hy]; exact hf
            obtain ⟨T, hT0⟩ : ∃ T, toldD y now = T := ⟨_, rfl⟩
            have hT : getD K id now = (T, true) := by unfold getD; rw [hf]; dsimp only; rw [if_pos hal, hT0]
            have HG1 : Hid (∀ W, ProgD W n0 pb n0 200 K → Calls Tryz.prog 16 #[.pointer (some ⟨pb, 0, none⟩), .agg #[.int .i64 id.d, .int .i64 id.o, .int .i64 id.k, .int .i64 id.n], .int .i64 now] W fun e w' => ∃ s : Sl2, e = .returned (.tuple #[.agg #[.int .i64 T.hd.id.d, .int .i64 T.hd.id.o, .int .i64 T.hd.id.k, .int .i64 T.hd.id.n, .int .i64 T.hd.seq, .int .i64 T.hd.life, .int .i64 T.level, .bool T.over, .slice s.ea T.es.length s.ec, .slice s.ra T.rs.length s.rc], .bool true]) ∧ Own2 w' W.heap.size T s ∧ Below W.heap.size W w') := fun W hW => by
              refine (dget_any hW id hid.out now).mono ?_
              rintro e w' ⟨s, he, ho, hb⟩
              rw [hT] at he ho
              exact ⟨s, he, ho, hb⟩
            have hra := rest_alive HBO.out.p.inv.asc hfy (fun x => decide (isD x now))
            have hpa := put_again HBO.out.p.inv (by omega) HEX.out hfy hal
            have hma := again_math HBO.out.p.inv.asc hfy hal
            obtain ⟨K3, hK3⟩ : ∃ K3, insD (restD K y.id) (enD (toldD y now) now) = K3 := ⟨_, rfl⟩
            rw [hK3] at hpa hma
            rw [hy, hK2] at hra hpa
            rw [hT0] at hpa
            have hl1 : (headsD K now).length = n2 + 1 := by
              have h1 := hra.1
              have h2 := hra.2.2.1 (decide_eq_true hal)
              rw [if_pos (decide_eq_true hal)] at h1
              unfold headsD aliveD at hn2 ⊢
              rw [List.length_map] at hn2 ⊢
              omega
            obtain ⟨n1, hn1'⟩ : ∃ n1, (headsD K now).length = n1 := ⟨_, rfl⟩
            have HH1 := Lib.hid hn1'
            have hh1 := hh K
            have hwn : wrap64 ((n1 : Int) - 1) = (n2 : Int) := by rw [IntWalk.wrap64_in _ (by omega)]; omega
            obtain ⟨k1, hk1⟩ : ∃ k1, K.length = k1 := ⟨_, rfl⟩
            have HK1 := Lib.hid hk1
            have hwk : wrap64 ((k1 : Int) - 1) = (k2 : Int) := by rw [IntWalk.wrap64_in _ (by omega)]; have := hra.2.2.2; omega
            have HFB : Hid ((findD K id).isSome = true) := by unfold Hid; rw [hf]; rfl
            have HHE := Lib.hid hma
            have HH3 : Hid ((headsD K3 now).length = n1) := by unfold Hid; rw [hma]; exact hn1'
            have HLN : Hid (n1 ≤ 4000) := by have := hh K; unfold Hid; omega
            have hk3 : K3.length ≤ K2.length + 1 := by
              rw [← hK3, hy, hK2, insD_len (by rw [← hK2]; exact (HBO.out.p.inv.drop id).asc)]
              split <;> omega
            have HL3 : Hid (K3.length ≤ 4000) := by unfold Hid; omega
            have HPT : Hid (∀ (W : World) (s : Sl2) (n : Nat), ProgD W n0 pb n0 200 K2 → Own2 W n T s → Calls Tryz.prog 19 #[.pointer (some ⟨pb, 0, none⟩), .agg #[.int .i64 T.hd.id.d, .int .i64 T.hd.id.o, .int .i64 T.hd.id.k, .int .i64 T.hd.id.n, .int .i64 T.hd.seq, .int .i64 T.hd.life, .int .i64 T.level, .bool T.over, .slice s.ea T.es.length s.ec, .slice s.ra T.rs.length s.rc], .int .i64 now] W fun e w' => e = .returned (.tuple #[.int .i64 1, .int .i64 0]) ∧ ProgD w' n0 pb n0 200 K3 ∧ W.grownBy w' (some n0)) := fun W s n hW ho => by
              have hrd := get_rd (W := W) (n0 := n) HBO.out.p.inv id now (s := s)
              rw [hT] at hrd
              have := dput_any hW (hrd ho) now (by omega)
              unfold PutE at this
              rw [hpa] at this
              exact this
            have HR2 := Lib.hid hK2
            have TG1 : True := trivial
            have TH1 : True := trivial
            have TL1 : True := trivial
            have TG2 : True := trivial
            have TH2 : True := trivial
            have TL2 : True := trivial
            have TH3 : True := trivial
            clear hf hT hT5 hn2 hk2 hK2le hh hkl hK2 hra hal hy hfy hT0 hpa hma hK3 hl1 hk3 hk1 hn1' hh1
            go_wp2_with (first
              | (go_at_call 16; have tt := TG1; clear TG1 tt; refine (HG1.out _ P0.out).mono ?_; rintro e w1 ⟨s1, rfl, ho, hb⟩; have hq : Below W0.heap.size W0 (w1.alloc (.cells #[.int .i64 T.hd.id.d, .int .i64 T.hd.id.o, .int .i64 T.hd.id.k, .int .i64 T.hd.id.n, .int .i64 T.hd.seq, .int .i64 T.hd.life, .int .i64 T.level, .bool T.over, .slice s1.ea T.es.length s1.ec, .slice s1.ra T.rs.length s1.rc] 39)) := hb.alloc hb.size _; have BW1 := Lib.hid (BW0.out.trans (hq.mono BW0.out.size)); have P1 := Lib.hid (P0.out.below hq); have ID1 := Lib.hid (ID0.out.below hq ID0.out.lt); have OT1 : Hid (Own2 (w1.alloc (.cells #[.int .i64 T.hd.id.d, .int .i64 T.hd.id.o, .int .i64 T.hd.id.k, .int .i64 T.hd.id.n, .int .i64 T.hd.seq, .int .i64 T.hd.life, .int .i64 T.level, .bool T.over, .slice s1.ea T.es.length s1.ec, .slice s1.ra T.rs.length s1.rc] 39)) W0.heap.size T s1) := own2_b ho (Nat.le_refl _) (below_boxV _ _); have BX1 : Hid (Arr (w1.alloc (.cells #[.int .i64 T.hd.id.d, .int .i64 T.hd.id.o, .int .i64 T.hd.id.k, .int .i64 T.hd.id.n, .int .i64 T.hd.seq, .int .i64 T.hd.life, .int .i64 T.level, .bool T.over, .slice s1.ea T.es.length s1.ec, .slice s1.ra T.rs.length s1.rc] 39)) w1.heap.size 39 (cellsV T s1)) := Arr.new _ _ _; clear ho hb hq)
              | (go_at_call 14; have tt := TH1; clear TH1 tt; refine (dheads_any P1.out now HLK.out.1).mono ?_; rintro e w2 ⟨⟨v, rfl, ho⟩, hb⟩; obtain ⟨A1, c1, rfl, hc1, _⟩ := ho.shape; have BW2 := Lib.hid (BW1.out.trans (hb.mono BW1.out.size)); have P2 := Lib.hid (P1.out.below hb); have ID2 := Lib.hid (ID1.out.below hb ID1.out.lt); have OT2 := Lib.hid (own2_b OT1.out (Nat.le_refl _) hb); have BX2 := Lib.hid (BX1.out.below hb BX1.out.lt); have H12 := Lib.hid ho; have HC1 := Lib.hid hc1; rw [HH1.out]; clear ho hb hc1)
              | (go_at_call 17; have tt := TL1; clear TL1 tt; refine (dlen_any P2.out w2 (fun _ _ => rfl)).mono ?_; rintro e w3 ⟨rfl, h3⟩; have h3 := h3.symm; subst h3; rw [HK1.out])
              | (refine wpList_load_arr rfl 33 (.tmp 4) rfl w.heap.size rfl ID0.out Tryz.underlying33 rfl sizeId rfl ?_)
              | (refine wpList_load_arr rfl 33 (.tmp 4) rfl w.heap.size rfl ID2.out Tryz.underlying33 rfl sizeId rfl ?_)
              | (refine wpList_load_arr rfl 33 (.tmp 4) rfl w.heap.size rfl ID4.out Tryz.underlying33 rfl sizeId rfl ?_)
              | (go_at_call 18; refine (ddrop_any P2.out id hid.out).mono ?_; rintro e w4 ⟨rfl, hp, hg⟩; rw [HFB.out]; rw [HR2.out] at hp; have BW4 := Lib.hid (BW2.out.grown hg BW2.out.size (fun q e => by cases e; exact HN0.out)); have ID4 := Lib.hid (arr_g ID2.out hg (map_is P2.out)); have H14 := Lib.hid (own_g H12.out hg (map_is P2.out)); have OT4 := Lib.hid (own2_g OT2.out hg (map_is P2.out)); have BX4 := Lib.hid (arr_g BX2.out hg (map_is P2.out)); have P4 := Lib.hid hp; clear hp hg)
              | (go_at_call 16; have tt := TG2; clear TG2 tt; refine (HG2.out _ P4.out).mono ?_; rintro e w5 ⟨s5, rfl, hb⟩; have hq : Below w4.heap.size w4 (w5.alloc (.cells #[.int .i64 T5.hd.id.d, .int .i64 T5.hd.id.o, .int .i64 T5.hd.id.k, .int .i64 T5.hd.id.n, .int .i64 T5.hd.seq, .int .i64 T5.hd.life, .int .i64 T5.level, .bool T5.over, .slice s5.ea T5.es.length s5.ec, .slice s5.ra T5.rs.length s5.rc] 39)) := hb.alloc hb.size _; have BW5 := Lib.hid (BW4.out.trans (hq.mono BW4.out.size)); have P5 := Lib.hid (P4.out.below hq); have ID5 := Lib.hid (ID4.out.below hq ID4.out.lt); have H15 := Lib.hid (H14.out.below hq); have OT5 := Lib.hid (own2_b OT4.out (Nat.le_refl _) hq); have BX5 := Lib.hid (BX4.out.below hq BX4.out.lt); clear hb hq)
              | (go_at_call 14; have tt := TH2; clear TH2 tt; refine (dheads_any P5.out now HLK.out.2).mono ?_; rintro e w6 ⟨⟨v, rfl, ho⟩, hb⟩; obtain ⟨A6, c6, rfl, hc6, _⟩ := ho.shape; have BW6 := Lib.hid (BW5.out.trans (hb.mono BW5.out.size)); have P6 := Lib.hid (P5.out.below hb); have ID6 := Lib.hid (ID5.out.below hb ID5.out.lt); have H16 := Lib.hid (H15.out.below hb); have OT6 := Lib.hid (own2_b OT5.out (Nat.le_refl _) hb); have BX6 := Lib.hid (BX5.out.below hb BX5.out.lt); have H26 := Lib.hid ho; have HC6 := Lib.hid hc6; rw [HH2.out]; clear ho hb hc6)
              | (go_at_call 17; have tt := TL2; clear TL2 tt; refine (dlen_any P6.out w6 (fun _ _ => rfl)).mono ?_; rintro e w7 ⟨rfl, h3⟩; have h3 := h3.symm; subst h3; rw [HK2.out])
              | (refine wpList_load_arr rfl 39 (.tmp 13) rfl w1.heap.size rfl BX6.out Tryz.underlying39 rfl sizeV rfl ?_)
              | (go_at_call 19; refine (HPT.out _ _ _ P6.out OT6.out).mono ?_; rintro e w8 ⟨rfl, hp, hg⟩; have BW8 := Lib.hid (BW6.out.grown hg BW6.out.size (fun q e => by cases e; exact HN0.out)); have H18 := Lib.hid (own_g H16.out hg (map_is P6.out)); have P8 := Lib.hid hp; clear hp hg)
              | (go_at_call 14; have tt := TH3; clear TH3 tt; refine (dheads_any P8.out now HL3.out).mono ?_; rintro e w9 ⟨⟨v, rfl, ho⟩, hb⟩; obtain ⟨A9, c9, rfl, hc9, _⟩ := ho.shape; have BW9 := Lib.hid (BW8.out.trans (hb.mono BW8.out.size)); have H19 := Lib.hid (H18.out.below hb); have H39 := Lib.hid ho; have HC9 := Lib.hid hc9; rw [HH3.out]; clear ho hb hc9)
              | (go_at_call 13; refine (sameH A9 A1 c9 c1 n1 n1 _ _ HH3.out HH1.out HHE.out HLN.out HC9.out HC1.out _ (kindT.rd H39.out) (kindT.rd H19.out)).mono ?_; rintro e w10 ⟨rfl, hb8⟩; have BW10 := Lib.hid (BW9.out.trans (hb8.mono BW9.out.size)); clear hb8))
            all_goals go_ret
            all_goals exact ⟨rfl, BW10.out⟩
          · have hy : y.id = id := (findD_is hf).2
            obtain ⟨T, hT⟩ : ∃ T, getD K id now = (T, false) := ⟨TiV.nil, by unfold getD; rw [hf]; dsimp only; rw [if_neg hal]⟩
            have HG1 : Hid (∀ W, ProgD W n0 pb n0 200 K → Calls Tryz.prog 16 #[.pointer (some ⟨pb, 0, none⟩), .agg #[.int .i64 id.d, .int .i64 id.o, .int .i64 id.k, .int .i64 id.n], .int .i64 now] W fun e w' => ∃ s : Sl2, e = .returned (.tuple #[.agg #[.int .i64 T.hd.id.d, .int .i64 T.hd.id.o, .int .i64 T.hd.id.k, .int .i64 T.hd.id.n, .int .i64 T.hd.seq, .int .i64 T.hd.life, .int .i64 T.level, .bool T.over, .slice s.ea T.es.length s.ec, .slice s.ra T.rs.length s.rc], .bool false]) ∧ Own2 w' W.heap.size T s ∧ Below W.heap.size W w') := fun W hW => by
              refine (dget_any hW id hid.out now).mono ?_
              rintro e w' ⟨s, he, ho, hb⟩
              rw [hT] at he ho
              exact ⟨s, he, ho, hb⟩
            have hra := rest_alive HBO.out.p.inv.asc (y := y) (by rw [hy]; exact hf) (fun x => decide (isD x now))
            rw [hy, hK2] at hra
            have hE : headsD K2 now = headsD K now := by unfold headsD aliveD; rw [hra.2.1 (decide_eq_false hal)]
            have HH1 : Hid ((headsD K now).length = n2) := by rw [hE] at hn2; exact hn2
            obtain ⟨k1, hk1⟩ : ∃ k1, K.length = k1 := ⟨_, rfl⟩
            have HK1 := Lib.hid hk1
            have hwk : wrap64 ((k1 : Int) - 1) = (k2 : Int) := by rw [IntWalk.wrap64_in _ (by omega)]; have := hra.2.2.2; omega
            have HFB : Hid ((findD K id).isSome = true) := by unfold Hid; rw [hf]; rfl
            have HHE := Lib.hid hE
            have HLN : Hid (n2 ≤ 4000) := by have := hh K2; unfold Hid; omega
            have HR2 := Lib.hid hK2
            have TG1 : True := trivial
            have TH1 : True := trivial
            have TL1 : True := trivial
            have TG2 : True := trivial
            have TH2 : True := trivial
            have TL2 : True := trivial
            have TH3 : True := trivial
            clear hf hT hT5 hn2 hk2 hK2le hh hkl hK2 hra hE hal hy hk1
            go_wp2_with (first
              | (go_at_call 16; have tt := TG1; clear TG1 tt; refine (HG1.out _ P0.out).mono ?_; rintro e w1 ⟨s1, rfl, ho, hb⟩; have hq : Below W0.heap.size W0 (w1.alloc (.cells #[.int .i64 T.hd.id.d, .int .i64 T.hd.id.o, .int .i64 T.hd.id.k, .int .i64 T.hd.id.n, .int .i64 T.hd.seq, .int .i64 T.hd.life, .int .i64 T.level, .bool T.over, .slice s1.ea T.es.length s1.ec, .slice s1.ra T.rs.length s1.rc] 39)) := hb.alloc hb.size _; have BW1 := Lib.hid (BW0.out.trans (hq.mono BW0.out.size)); have P1 := Lib.hid (P0.out.below hq); have ID1 := Lib.hid (ID0.out.below hq ID0.out.lt); have OT1 : Hid (Own2 (w1.alloc (.cells #[.int .i64 T.hd.id.d, .int .i64 T.hd.id.o, .int .i64 T.hd.id.k, .int .i64 T.hd.id.n, .int .i64 T.hd.seq, .int .i64 T.hd.life, .int .i64 T.level, .bool T.over, .slice s1.ea T.es.length s1.ec, .slice s1.ra T.rs.length s1.rc] 39)) W0.heap.size T s1) := own2_b ho (Nat.le_refl _) (below_boxV _ _); have BX1 : Hid (Arr (w1.alloc (.cells #[.int .i64 T.hd.id.d, .int .i64 T.hd.id.o, .int .i64 T.hd.id.k, .int .i64 T.hd.id.n, .int .i64 T.hd.seq, .int .i64 T.hd.life, .int .i64 T.level, .bool T.over, .slice s1.ea T.es.length s1.ec, .slice s1.ra T.rs.length s1.rc] 39)) w1.heap.size 39 (cellsV T s1)) := Arr.new _ _ _; clear ho hb hq)
              | (go_at_call 14; have tt := TH1; clear TH1 tt; refine (dheads_any P1.out now HLK.out.1).mono ?_; rintro e w2 ⟨⟨v, rfl, ho⟩, hb⟩; obtain ⟨A1, c1, rfl, hc1, _⟩ := ho.shape; have BW2 := Lib.hid (BW1.out.trans (hb.mono BW1.out.size)); have P2 := Lib.hid (P1.out.below hb); have ID2 := Lib.hid (ID1.out.below hb ID1.out.lt); have OT2 := Lib.hid (own2_b OT1.out (Nat.le_refl _) hb); have BX2 := Lib.hid (BX1.out.below hb BX1.out.lt); have H12 := Lib.hid ho; have HC1 := Lib.hid hc1; rw [HH1.out]; clear ho hb hc1)
              | (go_at_call 17; have tt := TL1; clear TL1 tt; refine (dlen_any P2.out w2 (fun _ _ => rfl)).mono ?_; rintro e w3 ⟨rfl, h3⟩; have h3 := h3.symm; subst h3; rw [HK1.out])
              | (refine wpList_load_arr rfl 33 (.tmp 4) rfl w.heap.size rfl ID0.out Tryz.underlying33 rfl sizeId rfl ?_)
              | (refine wpList_load_arr rfl 33 (.tmp 4) rfl w.heap.size rfl ID2.out Tryz.underlying33 rfl sizeId rfl ?_)
              | (refine wpList_load_arr rfl 33 (.tmp 4) rfl w.heap.size rfl ID4.out Tryz.underlying33 rfl sizeId rfl ?_)
              | (go_at_call 18; refine (ddrop_any P2.out id hid.out).mono ?_; rintro e w4 ⟨rfl, hp, hg⟩; rw [HFB.out]; rw [HR2.out] at hp; have BW4 := Lib.hid (BW2.out.grown hg BW2.out.size (fun q e => by cases e; exact HN0.out)); have ID4 := Lib.hid (arr_g ID2.out hg (map_is P2.out)); have H14 := Lib.hid (own_g H12.out hg (map_is P2.out)); have OT4 := Lib.hid (own2_g OT2.out hg (map_is P2.out)); have BX4 := Lib.hid (arr_g BX2.out hg (map_is P2.out)); have P4 := Lib.hid hp; clear hp hg)
              | (go_at_call 16; have tt := TG2; clear TG2 tt; refine (HG2.out _ P4.out).mono ?_; rintro e w5 ⟨s5, rfl, hb⟩; have hq : Below w4.heap.size w4 (w5.alloc (.cells #[.int .i64 T5.hd.id.d, .int .i64 T5.hd.id.o, .int .i64 T5.hd.id.k, .int .i64 T5.hd.id.n, .int .i64 T5.hd.seq, .int .i64 T5.hd.life, .int .i64 T5.level, .bool T5.over, .slice s5.ea T5.es.length s5.ec, .slice s5.ra T5.rs.length s5.rc] 39)) := hb.alloc hb.size _; have BW5 := Lib.hid (BW4.out.trans (hq.mono BW4.out.size)); have P5 := Lib.hid (P4.out.below hq); have ID5 := Lib.hid (ID4.out.below hq ID4.out.lt); have H15 := Lib.hid (H14.out.below hq); have OT5 := Lib.hid (own2_b OT4.out (Nat.le_refl _) hq); have BX5 := Lib.hid (BX4.out.below hq BX4.out.lt); clear hb hq)
              | (go_at_call 14; have tt := TH2; clear TH2 tt; refine (dheads_any P5.out now HLK.out.2).mono ?_; rintro e w6 ⟨⟨v, rfl, ho⟩, hb⟩; obtain ⟨A6, c6, rfl, hc6, _⟩ := ho.shape; have BW6 := Lib.hid (BW5.out.trans (hb.mono BW5.out.size)); have P6 := Lib.hid (P5.out.below hb); have ID6 := Lib.hid (ID5.out.below hb ID5.out.lt); have H16 := Lib.hid (H15.out.below hb); have OT6 := Lib.hid (own2_b OT5.out (Nat.le_refl _) hb); have BX6 := Lib.hid (BX5.out.below hb BX5.out.lt); have H26 := Lib.hid ho; have HC6 := Lib.hid hc6; rw [HH2.out]; clear ho hb hc6)
              | (go_at_call 17; have tt := TL2; clear TL2 tt; refine (dlen_any P6.out w6 (fun _ _ => rfl)).mono ?_; rintro e w7 ⟨rfl, h3⟩; have h3 := h3.symm; subst h3; rw [HK2.out])
              | (go_at_call 13; refine (sameH A6 A1 c6 c1 n2 n2 _ _ HH2.out HH1.out HHE.out HLN.out HC6.out HC1.out _ (kindT.rd H26.out) (kindT.rd H16.out)).mono ?_; rintro e w8 ⟨rfl, hb8⟩; have BW8 := Lib.hid (BW6.out.trans (hb8.mono BW6.out.size)); clear hb8))
            all_goals go_ret
            all_goals exact ⟨rfl, BW8.out⟩
end Go.Proofs.YtpaooddmgcekhaaGreat.ti

namespace Go.Proofs.YtpaooddmgcekhaaGreat.tiedbDrops
open Go.ChangeShapes Go.WideShapes Go.ChangeAt Go.RowKit ti
set_option linter.unusedVariables false
theorem own : ownKnob Tryz.prog.godebug = none := by kernel_rfl
theorem laidOut : laidOutB Tryz.prog = true := by kernel_rfl
set_option maxRecDepth 100000 in
theorem lifted (os : Os) (started : os.Started) (H : Type) (enc : TypeId × Value → H) :
    ReturnsInHanded {} Tryz.checked os 4 .any (Rows.tiedbDropsSpec.pre6 enc Tryz.prog Tryz.f4 Rows.tiedbDropsRow.domain false) (Rows.tiedbDropsSpec.post enc Tryz.prog Tryz.f4 false true false false) := by
  refine returnsInHanded_of_change_sized (C := Tryz.checked) own started (by kernel_rfl) Tryz.func4
    (ChangeSpec.witness6 (enc := enc) (C := Tryz.checked) false ⟨#[], #[.slice none 0 0, .agg #[.int .i64 0, .int .i64 0, .int .i64 0, .int .i64 0], .int .i64 0], []⟩ 8 (by kernel_rfl) (by kernel_rfl) (by kernel_rfl) (by kernel_rfl)) ?_
  intro W base args ds gs before hval0 hW hcnd hsz0 _
  have hval : ∀ (j : Nat) t v, Tryz.f4.params[j]? = some t → args[j]? = some v → Value.okWide Tryz.prog W .any base t v := hval0
  have hW' := hW
  obtain ⟨p, q, hA0, hV, rfl, hfz, hnd⟩ := hW
  have hA : DataW.TrodAll enc Tryz.prog W 0 (fun _ => true) true Tryz.f4.params.toList args.toList ds p := hA0
  rw [Tryz.params4] at hA hval
  obtain ⟨v0, vs0, d0, ds0, p0, q0, hargs, rfl, rfl, h0, r0⟩ := trodAll_cons hA
  obtain ⟨v1, vs1, d1, ds1, p1, q1, rfl, rfl, rfl, h1, r1⟩ := trodAll_cons r0
  obtain ⟨v2, vs2, d2, ds2, p2, q2, rfl, rfl, rfl, h2, r2⟩ := trodAll_cons r1
  obtain ⟨rfl, rfl, rfl⟩ := trodAll_nil r2
  obtain rfl : args = #[v0, v1, v2] := by cases args; simp_all
  obtain ⟨rfl, rfl⟩ := trodVars_none hV
  obtain ⟨a0, len0, cap0, rfl⟩ := okWide_slice Tryz.underlying22 (hval 0 22 v0 rfl rfl)
  have k0 := h0
  have lt0 : ∀ x ∈ p0, x.block < W.heap.size := by obtain ⟨m, hm⟩ := k0; exact DataW.trod_lt m _ _ _ hm
  obtain ⟨z0, zl0, zr0, zk0⟩ := steps_of h0
  obtain rfl := zl0
  obtain ⟨cs1, rfl, _⟩ := okWide_struct Tryz.underlying33 (hval 1 33 v1 rfl rfl)
  have k1 := h1
  have lt1 : ∀ x ∈ p1, x.block < W.heap.size := by obtain ⟨m, hm⟩ := k1; exact DataW.trod_lt m _ _ _ hm
  obtain ⟨x1, rfl, nb1⟩ := id_of h1
  obtain ⟨a2, rfl, rfl, rfl, w2⟩ := open_int Tryz.underlying3 (hval 2 3 v2 rfl rfl) h2
  clear hA0 hval0
  refine (drops_walk a0 cap0 z0 x1 nb1 a2 (bounds64 w2) W zr0 zk0).mono fun e W' ⟨he, bel⟩ => ?_
  subst he
  exact ⟨_, rfl, _, _, _, [], _, [], hW', trodAll_mk1 (shut_bool Tryz.underlying4 _), (trodAll_cons_mk (Below.trod laidOut (by kernel_rfl) (of_decide_eq_true (by kernel_rfl)) k0 bel lt0) (trodAll_cons_mk (Below.trod laidOut (by kernel_rfl) (of_decide_eq_true (by kernel_rfl)) k1 bel lt1) (trodAll_cons_mk (shut_int Tryz.underlying3 w2) trodAll_mk0))), rfl, bel.frame _, fun h => by cases h⟩
theorem over : Rows.tiedbDropsRow.holds Tryz.pinned (OpenSpec.ofChange Rows.tiedbDropsSpec) :=
  OpenClaim.holds_of_wide 4 Tryz.f4 rfl rfl rfl rfl rfl rfl rfl ⟨rfl, rfl, rfl, rfl, rfl⟩ rfl rfl rfl rfl rfl (by kernel_rfl) Tryz.func4 (by kernel_rfl)
    (of_decide_eq_true (by kernel_rfl)) (by unfold Func.isWrapper; first | (rw [if_pos (by decide +kernel)]; kernel_rfl) | (rw [if_neg (by decide +kernel)]; exact ⟨rfl, rfl⟩))
    (fun os started H enc _ => lifted os started H enc)
theorem proved : Rows.TiedbDropsSaid := over
#print axioms proved
end Go.Proofs.YtpaooddmgcekhaaGreat.tiedbDrops
