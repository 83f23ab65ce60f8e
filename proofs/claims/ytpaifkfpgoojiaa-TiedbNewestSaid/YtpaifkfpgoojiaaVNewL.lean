/-
  TiedbNewest: the walk.
-/
import Derived.Test.YtpaifkfpgoojiaaVNewM
namespace Go.Proofs.Ytpaifkfpgoojiaa.ti
set_option linter.unusedSimpArgs false
set_option linter.unusedVariables false
open Go.RowKit
theorem sizeSt : (Try.prog.info? 41).map (·.size) = some 12 := by kernel_rfl
/-- A step's cells, wherever they are read. -/
theorem step_rg {w W : World} {g o k : Nat} {x : StT} (hg : g < w.heap.size) (h : w.rangeAt g (o + k * 12) (cellsS x)) (b : Below w.heap.size w W) : W.rangeAt g (o + k * 12) [.int .i64 x.d, .int .i64 x.now, .int .i64 x.t.hd.id.d, .int .i64 x.t.hd.id.o, .int .i64 x.t.hd.id.k, .int .i64 x.t.hd.id.n, .int .i64 x.t.hd.seq, .int .i64 x.t.hd.life, .int .i64 x.t.level, .bool x.t.over, .slice x.s.ea x.t.es.length x.s.ec, .slice x.s.ra x.t.rs.length x.s.rc] ∧ W.rangeAt g (o + k * 12 + 2) [.int .i64 x.t.hd.id.d, .int .i64 x.t.hd.id.o, .int .i64 x.t.hd.id.k, .int .i64 x.t.hd.id.n, .int .i64 x.t.hd.seq, .int .i64 x.t.hd.life, .int .i64 x.t.level, .bool x.t.over, .slice x.s.ea x.t.es.length x.s.ec, .slice x.s.ra x.t.rs.length x.s.rc] ∧
    (W.cell? ⟨g, o + k * 12 + 2, none⟩ = some (.int .i64 x.t.hd.id.d) ∧ W.cell? ⟨g, o + k * 12 + 3, none⟩ = some (.int .i64 x.t.hd.id.o) ∧ W.cell? ⟨g, o + k * 12 + 4, none⟩ = some (.int .i64 x.t.hd.id.k) ∧ W.cell? ⟨g, o + k * 12 + 5, none⟩ = some (.int .i64 x.t.hd.id.n) ∧ W.cell? ⟨g, o + k * 12 + 6, none⟩ = some (.int .i64 x.t.hd.seq)) := by
  have r : W.rangeAt g (o + k * 12) (cellsS x) := fun i v hv => (b.cell (p := ⟨g, _, none⟩) hg).trans (h i v hv)
  refine ⟨r, fun i v hv => ?_, r 2 _ rfl, r 3 _ rfl, r 4 _ rfl, r 5 _ rfl, r 6 _ rfl⟩
  have := r (i + 2) v (by unfold cellsS; simpa using hv)
  rwa [show o + k * 12 + (i + 2) = o + k * 12 + 2 + i by omega] at this
/-- What the rest of the law asks: all heads are the newest. -/
def RestN (now : Int) (w : World) (n0 pb mb nb : Nat) : Prop := ∀ (K : List EnT) (W : World), NewS w n0 pb mb nb K W → K.length ≤ 120 → True
set_option maxHeartbeats 1600000 in
set_option maxRecDepth 100000 in
theorem newest_low (a : Option Addr) (cap : Nat) (l : List StT) (now : Int) (hnow : In64 now) (w : World) (hr : RdE 12 cellsS w a l) (hk : ∀ x ∈ l, In64 x.now ∧ In2 w x.t x.s) (h1 : now < 0) : Calls Try.prog 4 #[.slice a l.length cap, .int .i64 now] w fun e w' => e = .returned (.bool true) ∧ Below w.heap.size w w' := by
  have hw := awake_any
  have hn := fun W => dnew_any 4096 (by omega) W
  go_enter Try.func4, Try.ntmps4
  go_wp2_with (first
    | (go_at_call 6; refine (hw _).mono ?_; rintro e w1 ⟨rfl, hb⟩; have HB1 := Lib.hid hb; clear hb)
    | (go_at_call 7; refine (hn _).mono ?_; rintro e w2 ⟨rfl, hp, hb⟩; have HB2 := Lib.hid (HB1.out.trans (hb.mono HB1.out.size)); have HP2 := Lib.hid hp; clear hp hb))
  go_ret
  exact ⟨rfl, HB2.out⟩
set_option maxHeartbeats 1600000 in
set_option maxRecDepth 100000 in
theorem newest_high (a : Option Addr) (cap : Nat) (l : List StT) (now : Int) (hnow : In64 now) (w : World) (hr : RdE 12 cellsS w a l) (hk : ∀ x ∈ l, In64 x.now ∧ In2 w x.t x.s) (h0 : ¬ now < 0) (h1 : 549755813888 < now) : Calls Try.prog 4 #[.slice a l.length cap, .int .i64 now] w fun e w' => e = .returned (.bool true) ∧ Below w.heap.size w w' := by
  have hw := awake_any
  have hn := fun W => dnew_any 4096 (by omega) W
  go_enter Try.func4, Try.ntmps4
  go_wp2_with (first
    | (go_at_call 6; refine (hw _).mono ?_; rintro e w1 ⟨rfl, hb⟩; have HB1 := Lib.hid hb; clear hb)
    | (go_at_call 7; refine (hn _).mono ?_; rintro e w2 ⟨rfl, hp, hb⟩; have HB2 := Lib.hid (HB1.out.trans (hb.mono HB1.out.size)); have HP2 := Lib.hid hp; clear hp hb))
  go_ret
  exact ⟨rfl, HB2.out⟩
set_option maxHeartbeats 12800000 in
set_option maxRecDepth 100000 in
theorem newest_ok (a : Option Addr) (cap : Nat) (l : List StT) (now : Int) (hnow : In64 now) (w : World) (hr : RdE 12 cellsS w a l) (hk : ∀ x ∈ l, In64 x.now ∧ In2 w x.t x.s) (h0 : ¬ now < 0) (h1 : ¬ 549755813888 < now) : Calls Try.prog 4 #[.slice a l.length cap, .int .i64 now] w fun e w' => e = .returned (.bool true) ∧ Below w.heap.size w w' := by
  have hw := awake_any
  have hn := fun W => dnew_any 4096 (by omega) W
  have hmm := @run_makeMap Try.prog
  obtain ⟨len, hlen⟩ : ∃ len, l.length = len := ⟨_, rfl⟩
  have HLN := Lib.hid hlen
  have HR := Lib.hid hr
  have HK := Lib.hid hk
  have HM : Hid (momD now) := by unfold Hid momD; omega
  rw [hlen]
  clear hr hk hlen
  go_enter Try.func4, Try.ntmps4
  go_wp2_with (first
    | (go_at_call 6; refine (hw _).mono ?_; rintro e w1 ⟨rfl, hb⟩; have HB1 := Lib.hid hb; clear hb)
    | (go_at_call 7; refine (hn _).mono ?_; rintro e w2 ⟨rfl, hp, hb⟩; have HB2 := Lib.hid (HB1.out.trans (hb.mono HB1.out.size)); have HP2 := Lib.hid hp; clear hp hb))
  have HN0 : Hid (NewS w w1.heap.size (w1.heap.size + 1) w1.heap.size w2.heap.size [] (w2.alloc (.map #[] 0))) := by
    have hlt := HP2.out.lt
    exact ⟨HP2.out.below ((Below.refl _ _).alloc (Nat.le_refl _) _), MapV.made w2, HB2.out.alloc HB2.out.size _, by omega, HB1.out.size, HB2.out.size⟩
  clear HP2 HB2 hw hn
  generalize w1.heap.size + 1 = pb at *
  generalize w2.heap.size = nb at *
  generalize w1.heap.size = n0 at *
  go_loopw [9] (fun iv wr => ∃ (k : Nat) (K : List EnT), k ≤ len ∧ k ≤ 120 ∧ iv = .int .i64 k ∧ Hid (K.length ≤ k) ∧ Hid (NewS w n0 pb n0 nb K wr)) (fun iv _ => len - (intOf iv).toNat)
  case atStart => exact ⟨0, [], by omega, by omega, rfl, Nat.le_refl _, HN0⟩
  case round =>
    obtain ⟨k, K, hkl, hk120, rfl, HKL, HS⟩ := hrel
    clear HN0
    by_cases hlt : k < len
    · by_cases hlt2 : k < 120
      · obtain ⟨x, hx⟩ : ∃ x, l[k]? = some x := ⟨_, List.getElem?_eq_getElem (by have := HLN.out; omega)⟩
        have hxl := List.mem_of_getElem? hx
        obtain ⟨g0, o0, rfl, hg0, hrx⟩ := HR.out k x hx
        have HRG := Lib.hid (fun W b => step_rg (W := W) hg0 hrx b)
        have HIN := Lib.hid (HK.out x hxl).2
        have rg := (HRG.out wr HS.out.b).1
        have hlo := long_any x.d x.now x.t x.s
        clear hx hxl hrx
        by_cases hlong : 100 < x.t.es.length ∨ 100 < x.t.rs.length
        · have hd : decide (100 < x.t.es.length ∨ 100 < x.t.rs.length) = true := decide_eq_true hlong
          clear hlong
          go_wp2_with (first
            | (refine wpList_load_mid rfl 41 (.tmp 58) rfl g0 (o0 + k * 12) rfl _ _ rg Try.underlying41 rfl sizeSt ?_)
            | (go_at_call 9; refine (hlo _).mono ?_; rw [hd]; rintro e w3 ⟨rfl, hb⟩; have HS3 := Lib.hid (HS.out.below hb); clear hb))
          go_ret
          exact ⟨rfl, HS3.out.b⟩
        · have hd : decide (100 < x.t.es.length ∨ 100 < x.t.rs.length) = false := decide_eq_false hlong
          have HRD : Hid (∀ W, Below w.heap.size w W → Rd2 W x.t x.s) := fun W b => (HIN.out.below b).rd (by omega) (by omega)
          clear hlong
          cases hright : rightV x.t with
          | false =>
          have hP : putD 4096 K x.t now = (0, 1, K) := by unfold putD; rw [if_pos (fun q => by rw [hright] at q; cases q.1)]
          have HRT := HM
          have HPU : Hid (∀ W, ProgD W n0 pb n0 4096 K → Rd2 W x.t x.s → Calls Try.prog 16 #[.pointer (some ⟨pb, 0, none⟩), .agg #[.int .i64 x.t.hd.id.d, .int .i64 x.t.hd.id.o, .int .i64 x.t.hd.id.k, .int .i64 x.t.hd.id.n, .int .i64 x.t.hd.seq, .int .i64 x.t.hd.life, .int .i64 x.t.level, .bool x.t.over, .slice x.s.ea x.t.es.length x.s.ec, .slice x.s.ra x.t.rs.length x.s.rc], .int .i64 now] W fun e w' => e = .returned (.tuple #[.int .i64 0, .int .i64 1]) ∧ ProgD w' n0 pb n0 4096 K ∧ W.grownBy w' (some n0)) := fun W h hrd => by
            have := dput_any h hrd now (by omega)
            unfold PutE at this
            rw [hP] at this
            exact this
          clear hP hright
          go_wp2_with (first
            | (refine wpList_load_mid rfl 41 (.tmp 58) rfl g0 (o0 + k * 12) rfl _ _ rg Try.underlying41 rfl sizeSt ?_)
            | (go_at_call 9; refine (hlo _).mono ?_; rw [hd]; rintro e w3 ⟨rfl, hb⟩; have HS3 := Lib.hid (HS.out.below hb); have rt := (HRG.out w3 HS3.out.b).2.1; clear hb rg)
            | (refine wpList_load_mid rfl 39 (.tmp 66) rfl g0 (o0 + k * 12 + 2) rfl _ _ rt Try.underlying39 rfl sizeV ?_)
            | (go_at_call 16; refine (HPU.out w3 HS3.out.p (HRD.out w3 HS3.out.b)).mono ?_; rintro e w4 ⟨rfl, hp, hg⟩; have H4 := HS3.out.put hp hg; obtain ⟨wb, hwb⟩ : ∃ wb, w4.alloc (.cells #[.int .i64 x.t.hd.id.d, .int .i64 x.t.hd.id.o, .int .i64 x.t.hd.id.k, .int .i64 x.t.hd.id.n] 33) = wb := ⟨_, rfl⟩; have bb : Below w4.heap.size w4 wb := (by rw [← hwb]; exact (Below.refl _ _).alloc (Nat.le_refl _) _); have BB : Hid (Below w.heap.size w wb) := H4.2.2.trans (bb.mono H4.2.2.size); obtain ⟨c2, c3, c4, c5, c6⟩ := (HRG.out w4 H4.2.2).2.2; obtain ⟨d2, d3, d4, d5, d6⟩ := (HRG.out wb BB.out).2.2; have ai : Arr wb w4.heap.size 33 [.int .i64 x.t.hd.id.d, .int .i64 x.t.hd.id.o, .int .i64 x.t.hd.id.k, .int .i64 x.t.hd.id.n] := (by rw [← hwb]; exact Arr.new w4 _ _); have i0 : wb.cell? ⟨w4.heap.size, 0, none⟩ = some (.int .i64 x.t.hd.id.d) := ai.cell 0; have i1 : wb.cell? ⟨w4.heap.size, 1, none⟩ = some (.int .i64 x.t.hd.id.o) := ai.cell 1; have i2 : wb.cell? ⟨w4.heap.size, 2, none⟩ = some (.int .i64 x.t.hd.id.k) := ai.cell 2; have i3 : wb.cell? ⟨w4.heap.size, 3, none⟩ = some (.int .i64 x.t.hd.id.n) := ai.cell 3; have HPB := Lib.hid (H4.1.below bb); have HMB := Lib.hid (H4.2.1.same (bb.block nb H4.2.1.lt)); have HAI := Lib.hid ai; clear hp hg H4 bb ai rt))
          go_roundw
          case rel => exact ⟨k + 1, K, by omega, by omega, by go_num, Nat.le_succ_of_le HKL.out, ⟨HPB.out, HMB.out, BB.out, HS.out.ne, HS.out.h0, HS.out.h1⟩⟩
          case measure => simp [intOf]; omega
          | true =>
          have HRT := Lib.hid hright
          cases hf : findD K x.t.hd.id with
          | none =>
          have hP : putD 4096 K x.t now = (1, 0, insD K (enD x.t now)) := by unfold putD; rw [if_neg (fun q => q ⟨hright, HM.out⟩), hf]; dsimp only; rw [if_neg (by have := HKL.out; omega)]
          have HF := Lib.hid hf
          have HPU : Hid (∀ W, ProgD W n0 pb n0 4096 K → Rd2 W x.t x.s → Calls Try.prog 16 #[.pointer (some ⟨pb, 0, none⟩), .agg #[.int .i64 x.t.hd.id.d, .int .i64 x.t.hd.id.o, .int .i64 x.t.hd.id.k, .int .i64 x.t.hd.id.n, .int .i64 x.t.hd.seq, .int .i64 x.t.hd.life, .int .i64 x.t.level, .bool x.t.over, .slice x.s.ea x.t.es.length x.s.ec, .slice x.s.ra x.t.rs.length x.s.rc], .int .i64 now] W fun e w' => e = .returned (.tuple #[.int .i64 1, .int .i64 0]) ∧ ProgD w' n0 pb n0 4096 (insD K (enD x.t now)) ∧ W.grownBy w' (some n0)) := fun W h hrd => by
            have := dput_any h hrd now (by omega)
            unfold PutE at this
            rw [hP] at this
            exact this
          clear hP hf hright
          go_wp2_with (first
            | (refine wpList_load_mid rfl 41 (.tmp 58) rfl g0 (o0 + k * 12) rfl _ _ rg Try.underlying41 rfl sizeSt ?_)
            | (go_at_call 9; refine (hlo _).mono ?_; rw [hd]; rintro e w3 ⟨rfl, hb⟩; have HS3 := Lib.hid (HS.out.below hb); have rt := (HRG.out w3 HS3.out.b).2.1; clear hb rg)
            | (refine wpList_load_mid rfl 39 (.tmp 66) rfl g0 (o0 + k * 12 + 2) rfl _ _ rt Try.underlying39 rfl sizeV ?_)
            | (go_at_call 16; refine (HPU.out w3 HS3.out.p (HRD.out w3 HS3.out.b)).mono ?_; rintro e w4 ⟨rfl, hp, hg⟩; have H4 := HS3.out.put hp hg; obtain ⟨wb, hwb⟩ : ∃ wb, w4.alloc (.cells #[.int .i64 x.t.hd.id.d, .int .i64 x.t.hd.id.o, .int .i64 x.t.hd.id.k, .int .i64 x.t.hd.id.n] 33) = wb := ⟨_, rfl⟩; have bb : Below w4.heap.size w4 wb := (by rw [← hwb]; exact (Below.refl _ _).alloc (Nat.le_refl _) _); have BB : Hid (Below w.heap.size w wb) := H4.2.2.trans (bb.mono H4.2.2.size); obtain ⟨c2, c3, c4, c5, c6⟩ := (HRG.out w4 H4.2.2).2.2; obtain ⟨d2, d3, d4, d5, d6⟩ := (HRG.out wb BB.out).2.2; have ai : Arr wb w4.heap.size 33 [.int .i64 x.t.hd.id.d, .int .i64 x.t.hd.id.o, .int .i64 x.t.hd.id.k, .int .i64 x.t.hd.id.n] := (by rw [← hwb]; exact Arr.new w4 _ _); have i0 : wb.cell? ⟨w4.heap.size, 0, none⟩ = some (.int .i64 x.t.hd.id.d) := ai.cell 0; have i1 : wb.cell? ⟨w4.heap.size, 1, none⟩ = some (.int .i64 x.t.hd.id.o) := ai.cell 1; have i2 : wb.cell? ⟨w4.heap.size, 2, none⟩ = some (.int .i64 x.t.hd.id.k) := ai.cell 2; have i3 : wb.cell? ⟨w4.heap.size, 3, none⟩ = some (.int .i64 x.t.hd.id.n) := ai.cell 3; have HPB := Lib.hid (H4.1.below bb); have HMB := Lib.hid (H4.2.1.same (bb.block nb H4.2.1.lt)); have HAI := Lib.hid ai; have hl0 := new_look H4.2.1 (right_okI HRT.out) wb (by rw [← hwb]; exact heap_alloc_old _ _ H4.2.1.lt); rw [HF.out] at hl0; have hl : (Instr.lookup 51 (.map (some nb)) (.agg #[.int .i64 x.t.hd.id.d, .int .i64 x.t.hd.id.o, .int .i64 x.t.hd.id.k, .int .i64 x.t.hd.id.n]) true).run Try.prog wb = .ok (.tuple #[.int .i64 0, .bool false]) wb := hl0; clear hl0; clear hp hg H4 bb ai rt))
          obtain ⟨W5, hput, hm5, ht5⟩ := new_enter (W := wb.drew) (HMB.out.same rfl) (by have := HKL.out; rw [List.length_map]; omega) (right_okI HRT.out) x.t.hd.seq
          have kk : KeepC wb W5 := fun j cs T fr q => KeepC.turned ht5 j cs T fr q
          have EM : max 0 x.t.hd.seq = x.t.hd.seq := (by have := right_head HRT.out; omega)
          rw [← EM] at hput
          clear EM
          have SS0 : wb.drew.cell? ⟨w4.heap.size, 0, none⟩ = some (.int .i64 x.t.hd.id.d) ∧ wb.drew.cell? ⟨w4.heap.size, 1, none⟩ = some (.int .i64 x.t.hd.id.o) ∧ wb.drew.cell? ⟨w4.heap.size, 2, none⟩ = some (.int .i64 x.t.hd.id.k) ∧ wb.drew.cell? ⟨w4.heap.size, 3, none⟩ = some (.int .i64 x.t.hd.id.n) ∧ wb.drew.cell? ⟨g0, o0 + k * 12 + 6, none⟩ = some (.int .i64 x.t.hd.seq) := ⟨i0, i1, i2, i3, d6⟩
          have BB5 : Below w.heap.size w W5 := (BB.out.drew).grown ht5.grown BB.out.size (fun j e => by cases e; exact HS.out.h1)
          have SS5 : W5.cell? ⟨w4.heap.size, 0, none⟩ = some (.int .i64 x.t.hd.id.d) ∧ W5.cell? ⟨w4.heap.size, 1, none⟩ = some (.int .i64 x.t.hd.id.o) ∧ W5.cell? ⟨w4.heap.size, 2, none⟩ = some (.int .i64 x.t.hd.id.k) ∧ W5.cell? ⟨w4.heap.size, 3, none⟩ = some (.int .i64 x.t.hd.id.n) ∧ W5.cell? ⟨g0, o0 + k * 12 + 6, none⟩ = some (.int .i64 x.t.hd.seq) := ⟨(kk.arr HAI.out).cell 0, (kk.arr HAI.out).cell 1, (kk.arr HAI.out).cell 2, (kk.arr HAI.out).cell 3, (HRG.out W5 BB5).2.2.2.2.2.2⟩
          have HN5 : Hid (NewS w n0 pb n0 nb (insD K (enD x.t now)) W5) := ⟨(HPB.out.keep (W' := wb.drew) (fun _ _ q _ => q)).other ht5 HS.out.ne, hm5.perm (nw_put HS.out.p.inv.asc (enD x.t now)), BB5, HS.out.ne, HS.out.h0, HS.out.h1⟩
          have HL5 : Hid ((insD K (enD x.t now)).length ≤ k + 1) := (by have h1 := insD_len (e := enD x.t now) HS.out.p.inv.asc; have := HKL.out; unfold Hid; rw [h1]; split <;> omega)
          clear hm5 ht5 kk BB5 c2 c3 c4 c5 c6 d2 d3 d4 d5
          go_region_held (fun W => W.cell? ⟨w4.heap.size, 0, none⟩ = some (.int .i64 x.t.hd.id.d) ∧ W.cell? ⟨w4.heap.size, 1, none⟩ = some (.int .i64 x.t.hd.id.o) ∧ W.cell? ⟨w4.heap.size, 2, none⟩ = some (.int .i64 x.t.hd.id.k) ∧ W.cell? ⟨w4.heap.size, 3, none⟩ = some (.int .i64 x.t.hd.id.n) ∧ W.cell? ⟨g0, o0 + k * 12 + 6, none⟩ = some (.int .i64 x.t.hd.seq)) (first | exact SS0 | exact SS5 | assumption) (fail)
          go_wp2
          go_roundw
          case rel => exact ⟨k + 1, (insD K (enD x.t now)), by omega, by omega, by go_num, HL5.out, HN5.out⟩
          case measure => simp [intOf]; omega
          | some y =>
          have HYK := Lib.hid (findD_is hf).1
          have HYI := Lib.hid (findD_is hf).2.symm
          have HF := Lib.hid hf
          have hrange := new_range x.t.hd (headD y now)
          by_cases hnew : 0 < newT x.t.hd (headD y now)
          · have hP : putD 4096 K x.t now = (2, 0, insD K (enD x.t now)) := by unfold putD; rw [if_neg (fun q => q ⟨hright, HM.out⟩), hf]; dsimp only; rw [if_pos hnew]
            have HSQ := Lib.hid (new_pos_seq hnew : (headD y now).seq ≤ x.t.hd.seq)
            have HPU : Hid (∀ W, ProgD W n0 pb n0 4096 K → Rd2 W x.t x.s → Calls Try.prog 16 #[.pointer (some ⟨pb, 0, none⟩), .agg #[.int .i64 x.t.hd.id.d, .int .i64 x.t.hd.id.o, .int .i64 x.t.hd.id.k, .int .i64 x.t.hd.id.n, .int .i64 x.t.hd.seq, .int .i64 x.t.hd.life, .int .i64 x.t.level, .bool x.t.over, .slice x.s.ea x.t.es.length x.s.ec, .slice x.s.ra x.t.rs.length x.s.rc], .int .i64 now] W fun e w' => e = .returned (.tuple #[.int .i64 2, .int .i64 0]) ∧ ProgD w' n0 pb n0 4096 (insD K (enD x.t now)) ∧ W.grownBy w' (some n0)) := fun W h hrd => by
              have := dput_any h hrd now (by omega)
              unfold PutE at this
              rw [hP] at this
              exact this
            clear hP hf hright hnew hrange
            go_wp2_with (first
              | (refine wpList_load_mid rfl 41 (.tmp 58) rfl g0 (o0 + k * 12) rfl _ _ rg Try.underlying41 rfl sizeSt ?_)
              | (go_at_call 9; refine (hlo _).mono ?_; rw [hd]; rintro e w3 ⟨rfl, hb⟩; have HS3 := Lib.hid (HS.out.below hb); have rt := (HRG.out w3 HS3.out.b).2.1; clear hb rg)
              | (refine wpList_load_mid rfl 39 (.tmp 66) rfl g0 (o0 + k * 12 + 2) rfl _ _ rt Try.underlying39 rfl sizeV ?_)
              | (go_at_call 16; refine (HPU.out w3 HS3.out.p (HRD.out w3 HS3.out.b)).mono ?_; rintro e w4 ⟨rfl, hp, hg⟩; have H4 := HS3.out.put hp hg; obtain ⟨wb, hwb⟩ : ∃ wb, w4.alloc (.cells #[.int .i64 x.t.hd.id.d, .int .i64 x.t.hd.id.o, .int .i64 x.t.hd.id.k, .int .i64 x.t.hd.id.n] 33) = wb := ⟨_, rfl⟩; have bb : Below w4.heap.size w4 wb := (by rw [← hwb]; exact (Below.refl _ _).alloc (Nat.le_refl _) _); have BB : Hid (Below w.heap.size w wb) := H4.2.2.trans (bb.mono H4.2.2.size); obtain ⟨c2, c3, c4, c5, c6⟩ := (HRG.out w4 H4.2.2).2.2; obtain ⟨d2, d3, d4, d5, d6⟩ := (HRG.out wb BB.out).2.2; have ai : Arr wb w4.heap.size 33 [.int .i64 x.t.hd.id.d, .int .i64 x.t.hd.id.o, .int .i64 x.t.hd.id.k, .int .i64 x.t.hd.id.n] := (by rw [← hwb]; exact Arr.new w4 _ _); have i0 : wb.cell? ⟨w4.heap.size, 0, none⟩ = some (.int .i64 x.t.hd.id.d) := ai.cell 0; have i1 : wb.cell? ⟨w4.heap.size, 1, none⟩ = some (.int .i64 x.t.hd.id.o) := ai.cell 1; have i2 : wb.cell? ⟨w4.heap.size, 2, none⟩ = some (.int .i64 x.t.hd.id.k) := ai.cell 2; have i3 : wb.cell? ⟨w4.heap.size, 3, none⟩ = some (.int .i64 x.t.hd.id.n) := ai.cell 3; have HPB := Lib.hid (H4.1.below bb); have HMB := Lib.hid (H4.2.1.same (bb.block nb H4.2.1.lt)); have HAI := Lib.hid ai; have hl0 := new_look H4.2.1 (right_okI HRT.out) wb (by rw [← hwb]; exact heap_alloc_old _ _ H4.2.1.lt); rw [HF.out] at hl0; have hl : (Instr.lookup 51 (.map (some nb)) (.agg #[.int .i64 x.t.hd.id.d, .int .i64 x.t.hd.id.o, .int .i64 x.t.hd.id.k, .int .i64 x.t.hd.id.n]) true).run Try.prog wb = .ok (.tuple #[.int .i64 y.t.hd.seq, .bool true]) wb := hl0; clear hl0; clear hp hg H4 bb ai rt))
            all_goals first | (exfalso; have HQ : y.t.hd.seq ≤ x.t.hd.seq := HSQ.out; omega) | skip
            obtain ⟨W5, hput, hm5, ht5⟩ := new_enter (W := wb.drew) (HMB.out.same rfl) (by have := HKL.out; rw [List.length_map]; omega) (right_okI HRT.out) x.t.hd.seq
            have kk : KeepC wb W5 := fun j cs T fr q => KeepC.turned ht5 j cs T fr q
            have EM : max y.t.hd.seq x.t.hd.seq = x.t.hd.seq := (by have : y.t.hd.seq ≤ x.t.hd.seq := HSQ.out; omega)
            rw [← EM] at hput
            clear EM
            have SS0 : wb.drew.cell? ⟨w4.heap.size, 0, none⟩ = some (.int .i64 x.t.hd.id.d) ∧ wb.drew.cell? ⟨w4.heap.size, 1, none⟩ = some (.int .i64 x.t.hd.id.o) ∧ wb.drew.cell? ⟨w4.heap.size, 2, none⟩ = some (.int .i64 x.t.hd.id.k) ∧ wb.drew.cell? ⟨w4.heap.size, 3, none⟩ = some (.int .i64 x.t.hd.id.n) ∧ wb.drew.cell? ⟨g0, o0 + k * 12 + 6, none⟩ = some (.int .i64 x.t.hd.seq) := ⟨i0, i1, i2, i3, d6⟩
            have BB5 : Below w.heap.size w W5 := (BB.out.drew).grown ht5.grown BB.out.size (fun j e => by cases e; exact HS.out.h1)
            have SS5 : W5.cell? ⟨w4.heap.size, 0, none⟩ = some (.int .i64 x.t.hd.id.d) ∧ W5.cell? ⟨w4.heap.size, 1, none⟩ = some (.int .i64 x.t.hd.id.o) ∧ W5.cell? ⟨w4.heap.size, 2, none⟩ = some (.int .i64 x.t.hd.id.k) ∧ W5.cell? ⟨w4.heap.size, 3, none⟩ = some (.int .i64 x.t.hd.id.n) ∧ W5.cell? ⟨g0, o0 + k * 12 + 6, none⟩ = some (.int .i64 x.t.hd.seq) := ⟨(kk.arr HAI.out).cell 0, (kk.arr HAI.out).cell 1, (kk.arr HAI.out).cell 2, (kk.arr HAI.out).cell 3, (HRG.out W5 BB5).2.2.2.2.2.2⟩
            have HN5 : Hid (NewS w n0 pb n0 nb (insD K (enD x.t now)) W5) := ⟨(HPB.out.keep (W' := wb.drew) (fun _ _ q _ => q)).other ht5 HS.out.ne, hm5.perm (nw_put HS.out.p.inv.asc (enD x.t now)), BB5, HS.out.ne, HS.out.h0, HS.out.h1⟩
            have HL5 : Hid ((insD K (enD x.t now)).length ≤ k + 1) := (by have h1 := insD_len (e := enD x.t now) HS.out.p.inv.asc; have := HKL.out; unfold Hid; rw [h1]; split <;> omega)
            clear hm5 ht5 kk BB5 c2 c3 c4 c5 c6 d2 d3 d4 d5
            go_region_held (fun W => W.cell? ⟨w4.heap.size, 0, none⟩ = some (.int .i64 x.t.hd.id.d) ∧ W.cell? ⟨w4.heap.size, 1, none⟩ = some (.int .i64 x.t.hd.id.o) ∧ W.cell? ⟨w4.heap.size, 2, none⟩ = some (.int .i64 x.t.hd.id.k) ∧ W.cell? ⟨w4.heap.size, 3, none⟩ = some (.int .i64 x.t.hd.id.n) ∧ W.cell? ⟨g0, o0 + k * 12 + 6, none⟩ = some (.int .i64 x.t.hd.seq)) (first | exact SS0 | exact SS5 | assumption) (fail)
            go_wp2
            go_roundw
            case rel => exact ⟨k + 1, (insD K (enD x.t now)), by omega, by omega, by go_num, HL5.out, HN5.out⟩
            case measure => simp [intOf]; omega
          · have HSQ := Lib.hid (new_not_seq hnew : x.t.hd.seq ≤ (headD y now).seq)
            rcases hrange with hnv | hnv | hnv
            · have hP : putD 4096 K x.t now = (-1, 0, K) := by unfold putD; rw [if_neg (fun q => q ⟨hright, HM.out⟩), hf]; dsimp only; rw [if_neg hnew, hnv]
              have HPU : Hid (∀ W, ProgD W n0 pb n0 4096 K → Rd2 W x.t x.s → Calls Try.prog 16 #[.pointer (some ⟨pb, 0, none⟩), .agg #[.int .i64 x.t.hd.id.d, .int .i64 x.t.hd.id.o, .int .i64 x.t.hd.id.k, .int .i64 x.t.hd.id.n, .int .i64 x.t.hd.seq, .int .i64 x.t.hd.life, .int .i64 x.t.level, .bool x.t.over, .slice x.s.ea x.t.es.length x.s.ec, .slice x.s.ra x.t.rs.length x.s.rc], .int .i64 now] W fun e w' => e = .returned (.tuple #[.int .i64 (-1), .int .i64 0]) ∧ ProgD w' n0 pb n0 4096 K ∧ W.grownBy w' (some n0)) := fun W h hrd => by
                have := dput_any h hrd now (by omega)
                unfold PutE at this
                rw [hP] at this
                exact this
              clear hP hf hright hnew hnv
              go_wp2_with (first
                | (refine wpList_load_mid rfl 41 (.tmp 58) rfl g0 (o0 + k * 12) rfl _ _ rg Try.underlying41 rfl sizeSt ?_)
                | (go_at_call 9; refine (hlo _).mono ?_; rw [hd]; rintro e w3 ⟨rfl, hb⟩; have HS3 := Lib.hid (HS.out.below hb); have rt := (HRG.out w3 HS3.out.b).2.1; clear hb rg)
                | (refine wpList_load_mid rfl 39 (.tmp 66) rfl g0 (o0 + k * 12 + 2) rfl _ _ rt Try.underlying39 rfl sizeV ?_)
                | (go_at_call 16; refine (HPU.out w3 HS3.out.p (HRD.out w3 HS3.out.b)).mono ?_; rintro e w4 ⟨rfl, hp, hg⟩; have H4 := HS3.out.put hp hg; obtain ⟨wb, hwb⟩ : ∃ wb, w4.alloc (.cells #[.int .i64 x.t.hd.id.d, .int .i64 x.t.hd.id.o, .int .i64 x.t.hd.id.k, .int .i64 x.t.hd.id.n] 33) = wb := ⟨_, rfl⟩; have bb : Below w4.heap.size w4 wb := (by rw [← hwb]; exact (Below.refl _ _).alloc (Nat.le_refl _) _); have BB : Hid (Below w.heap.size w wb) := H4.2.2.trans (bb.mono H4.2.2.size); obtain ⟨c2, c3, c4, c5, c6⟩ := (HRG.out w4 H4.2.2).2.2; obtain ⟨d2, d3, d4, d5, d6⟩ := (HRG.out wb BB.out).2.2; have ai : Arr wb w4.heap.size 33 [.int .i64 x.t.hd.id.d, .int .i64 x.t.hd.id.o, .int .i64 x.t.hd.id.k, .int .i64 x.t.hd.id.n] := (by rw [← hwb]; exact Arr.new w4 _ _); have i0 : wb.cell? ⟨w4.heap.size, 0, none⟩ = some (.int .i64 x.t.hd.id.d) := ai.cell 0; have i1 : wb.cell? ⟨w4.heap.size, 1, none⟩ = some (.int .i64 x.t.hd.id.o) := ai.cell 1; have i2 : wb.cell? ⟨w4.heap.size, 2, none⟩ = some (.int .i64 x.t.hd.id.k) := ai.cell 2; have i3 : wb.cell? ⟨w4.heap.size, 3, none⟩ = some (.int .i64 x.t.hd.id.n) := ai.cell 3; have HPB := Lib.hid (H4.1.below bb); have HMB := Lib.hid (H4.2.1.same (bb.block nb H4.2.1.lt)); have HAI := Lib.hid ai; have hl0 := new_look H4.2.1 (right_okI HRT.out) wb (by rw [← hwb]; exact heap_alloc_old _ _ H4.2.1.lt); rw [HF.out] at hl0; have hl : (Instr.lookup 51 (.map (some nb)) (.agg #[.int .i64 x.t.hd.id.d, .int .i64 x.t.hd.id.o, .int .i64 x.t.hd.id.k, .int .i64 x.t.hd.id.n]) true).run Try.prog wb = .ok (.tuple #[.int .i64 y.t.hd.seq, .bool true]) wb := hl0; clear hl0; clear hp hg H4 bb ai rt))
              all_goals first | (exfalso; have HQ : x.t.hd.seq ≤ y.t.hd.seq := HSQ.out; omega) | skip
              obtain ⟨W5, hput, hm5, ht5⟩ := new_enter (W := wb.drew) (HMB.out.same rfl) (by have := HKL.out; rw [List.length_map]; omega) (right_okI HRT.out) y.t.hd.seq
              have kk : KeepC wb W5 := fun j cs T fr q => KeepC.turned ht5 j cs T fr q
              have EM : max y.t.hd.seq x.t.hd.seq = y.t.hd.seq := (by have : x.t.hd.seq ≤ y.t.hd.seq := HSQ.out; omega)
              rw [← EM] at hput
              clear EM
              have SS0 : wb.drew.cell? ⟨w4.heap.size, 0, none⟩ = some (.int .i64 x.t.hd.id.d) ∧ wb.drew.cell? ⟨w4.heap.size, 1, none⟩ = some (.int .i64 x.t.hd.id.o) ∧ wb.drew.cell? ⟨w4.heap.size, 2, none⟩ = some (.int .i64 x.t.hd.id.k) ∧ wb.drew.cell? ⟨w4.heap.size, 3, none⟩ = some (.int .i64 x.t.hd.id.n) ∧ wb.drew.cell? ⟨g0, o0 + k * 12 + 6, none⟩ = some (.int .i64 x.t.hd.seq) := ⟨i0, i1, i2, i3, d6⟩
              have BB5 : Below w.heap.size w W5 := (BB.out.drew).grown ht5.grown BB.out.size (fun j e => by cases e; exact HS.out.h1)
              have SS5 : W5.cell? ⟨w4.heap.size, 0, none⟩ = some (.int .i64 x.t.hd.id.d) ∧ W5.cell? ⟨w4.heap.size, 1, none⟩ = some (.int .i64 x.t.hd.id.o) ∧ W5.cell? ⟨w4.heap.size, 2, none⟩ = some (.int .i64 x.t.hd.id.k) ∧ W5.cell? ⟨w4.heap.size, 3, none⟩ = some (.int .i64 x.t.hd.id.n) ∧ W5.cell? ⟨g0, o0 + k * 12 + 6, none⟩ = some (.int .i64 x.t.hd.seq) := ⟨(kk.arr HAI.out).cell 0, (kk.arr HAI.out).cell 1, (kk.arr HAI.out).cell 2, (kk.arr HAI.out).cell 3, (HRG.out W5 BB5).2.2.2.2.2.2⟩
              have HN5 : Hid (NewS w n0 pb n0 nb K W5) := ⟨(HPB.out.keep (W' := wb.drew) (fun _ _ q _ => q)).other ht5 HS.out.ne, hm5.perm (by rw [HYI.out]; exact nw_same HS.out.p.inv.asc HYK.out), BB5, HS.out.ne, HS.out.h0, HS.out.h1⟩
              have HL5 : Hid (K.length ≤ k + 1) := (Nat.le_succ_of_le HKL.out)
              clear hm5 ht5 kk BB5 c2 c3 c4 c5 c6 d2 d3 d4 d5
              go_region_held (fun W => W.cell? ⟨w4.heap.size, 0, none⟩ = some (.int .i64 x.t.hd.id.d) ∧ W.cell? ⟨w4.heap.size, 1, none⟩ = some (.int .i64 x.t.hd.id.o) ∧ W.cell? ⟨w4.heap.size, 2, none⟩ = some (.int .i64 x.t.hd.id.k) ∧ W.cell? ⟨w4.heap.size, 3, none⟩ = some (.int .i64 x.t.hd.id.n) ∧ W.cell? ⟨g0, o0 + k * 12 + 6, none⟩ = some (.int .i64 x.t.hd.seq)) (first | exact SS0 | exact SS5 | assumption) (fail)
              go_wp2
              go_roundw
              case rel => exact ⟨k + 1, K, by omega, by omega, by go_num, HL5.out, HN5.out⟩
              case measure => simp [intOf]; omega
            · have hP : putD 4096 K x.t now = (0, 0, K) := by unfold putD; rw [if_neg (fun q => q ⟨hright, HM.out⟩), hf]; dsimp only; rw [if_neg hnew, hnv]
              have HPU : Hid (∀ W, ProgD W n0 pb n0 4096 K → Rd2 W x.t x.s → Calls Try.prog 16 #[.pointer (some ⟨pb, 0, none⟩), .agg #[.int .i64 x.t.hd.id.d, .int .i64 x.t.hd.id.o, .int .i64 x.t.hd.id.k, .int .i64 x.t.hd.id.n, .int .i64 x.t.hd.seq, .int .i64 x.t.hd.life, .int .i64 x.t.level, .bool x.t.over, .slice x.s.ea x.t.es.length x.s.ec, .slice x.s.ra x.t.rs.length x.s.rc], .int .i64 now] W fun e w' => e = .returned (.tuple #[.int .i64 0, .int .i64 0]) ∧ ProgD w' n0 pb n0 4096 K ∧ W.grownBy w' (some n0)) := fun W h hrd => by
                have := dput_any h hrd now (by omega)
                unfold PutE at this
                rw [hP] at this
                exact this
              clear hP hf hright hnew hnv
              go_wp2_with (first
                | (refine wpList_load_mid rfl 41 (.tmp 58) rfl g0 (o0 + k * 12) rfl _ _ rg Try.underlying41 rfl sizeSt ?_)
                | (go_at_call 9; refine (hlo _).mono ?_; rw [hd]; rintro e w3 ⟨rfl, hb⟩; have HS3 := Lib.hid (HS.out.below hb); have rt := (HRG.out w3 HS3.out.b).2.1; clear hb rg)
                | (refine wpList_load_mid rfl 39 (.tmp 66) rfl g0 (o0 + k * 12 + 2) rfl _ _ rt Try.underlying39 rfl sizeV ?_)
                | (go_at_call 16; refine (HPU.out w3 HS3.out.p (HRD.out w3 HS3.out.b)).mono ?_; rintro e w4 ⟨rfl, hp, hg⟩; have H4 := HS3.out.put hp hg; obtain ⟨wb, hwb⟩ : ∃ wb, w4.alloc (.cells #[.int .i64 x.t.hd.id.d, .int .i64 x.t.hd.id.o, .int .i64 x.t.hd.id.k, .int .i64 x.t.hd.id.n] 33) = wb := ⟨_, rfl⟩; have bb : Below w4.heap.size w4 wb := (by rw [← hwb]; exact (Below.refl _ _).alloc (Nat.le_refl _) _); have BB : Hid (Below w.heap.size w wb) := H4.2.2.trans (bb.mono H4.2.2.size); obtain ⟨c2, c3, c4, c5, c6⟩ := (HRG.out w4 H4.2.2).2.2; obtain ⟨d2, d3, d4, d5, d6⟩ := (HRG.out wb BB.out).2.2; have ai : Arr wb w4.heap.size 33 [.int .i64 x.t.hd.id.d, .int .i64 x.t.hd.id.o, .int .i64 x.t.hd.id.k, .int .i64 x.t.hd.id.n] := (by rw [← hwb]; exact Arr.new w4 _ _); have i0 : wb.cell? ⟨w4.heap.size, 0, none⟩ = some (.int .i64 x.t.hd.id.d) := ai.cell 0; have i1 : wb.cell? ⟨w4.heap.size, 1, none⟩ = some (.int .i64 x.t.hd.id.o) := ai.cell 1; have i2 : wb.cell? ⟨w4.heap.size, 2, none⟩ = some (.int .i64 x.t.hd.id.k) := ai.cell 2; have i3 : wb.cell? ⟨w4.heap.size, 3, none⟩ = some (.int .i64 x.t.hd.id.n) := ai.cell 3; have HPB := Lib.hid (H4.1.below bb); have HMB := Lib.hid (H4.2.1.same (bb.block nb H4.2.1.lt)); have HAI := Lib.hid ai; have hl0 := new_look H4.2.1 (right_okI HRT.out) wb (by rw [← hwb]; exact heap_alloc_old _ _ H4.2.1.lt); rw [HF.out] at hl0; have hl : (Instr.lookup 51 (.map (some nb)) (.agg #[.int .i64 x.t.hd.id.d, .int .i64 x.t.hd.id.o, .int .i64 x.t.hd.id.k, .int .i64 x.t.hd.id.n]) true).run Try.prog wb = .ok (.tuple #[.int .i64 y.t.hd.seq, .bool true]) wb := hl0; clear hl0; clear hp hg H4 bb ai rt))
              all_goals first | (exfalso; have HQ : x.t.hd.seq ≤ y.t.hd.seq := HSQ.out; omega) | skip
              obtain ⟨W5, hput, hm5, ht5⟩ := new_enter (W := wb.drew) (HMB.out.same rfl) (by have := HKL.out; rw [List.length_map]; omega) (right_okI HRT.out) y.t.hd.seq
              have kk : KeepC wb W5 := fun j cs T fr q => KeepC.turned ht5 j cs T fr q
              have EM : max y.t.hd.seq x.t.hd.seq = y.t.hd.seq := (by have : x.t.hd.seq ≤ y.t.hd.seq := HSQ.out; omega)
              rw [← EM] at hput
              clear EM
              have SS0 : wb.drew.cell? ⟨w4.heap.size, 0, none⟩ = some (.int .i64 x.t.hd.id.d) ∧ wb.drew.cell? ⟨w4.heap.size, 1, none⟩ = some (.int .i64 x.t.hd.id.o) ∧ wb.drew.cell? ⟨w4.heap.size, 2, none⟩ = some (.int .i64 x.t.hd.id.k) ∧ wb.drew.cell? ⟨w4.heap.size, 3, none⟩ = some (.int .i64 x.t.hd.id.n) ∧ wb.drew.cell? ⟨g0, o0 + k * 12 + 6, none⟩ = some (.int .i64 x.t.hd.seq) := ⟨i0, i1, i2, i3, d6⟩
              have BB5 : Below w.heap.size w W5 := (BB.out.drew).grown ht5.grown BB.out.size (fun j e => by cases e; exact HS.out.h1)
              have SS5 : W5.cell? ⟨w4.heap.size, 0, none⟩ = some (.int .i64 x.t.hd.id.d) ∧ W5.cell? ⟨w4.heap.size, 1, none⟩ = some (.int .i64 x.t.hd.id.o) ∧ W5.cell? ⟨w4.heap.size, 2, none⟩ = some (.int .i64 x.t.hd.id.k) ∧ W5.cell? ⟨w4.heap.size, 3, none⟩ = some (.int .i64 x.t.hd.id.n) ∧ W5.cell? ⟨g0, o0 + k * 12 + 6, none⟩ = some (.int .i64 x.t.hd.seq) := ⟨(kk.arr HAI.out).cell 0, (kk.arr HAI.out).cell 1, (kk.arr HAI.out).cell 2, (kk.arr HAI.out).cell 3, (HRG.out W5 BB5).2.2.2.2.2.2⟩
              have HN5 : Hid (NewS w n0 pb n0 nb K W5) := ⟨(HPB.out.keep (W' := wb.drew) (fun _ _ q _ => q)).other ht5 HS.out.ne, hm5.perm (by rw [HYI.out]; exact nw_same HS.out.p.inv.asc HYK.out), BB5, HS.out.ne, HS.out.h0, HS.out.h1⟩
              have HL5 : Hid (K.length ≤ k + 1) := (Nat.le_succ_of_le HKL.out)
              clear hm5 ht5 kk BB5 c2 c3 c4 c5 c6 d2 d3 d4 d5
              go_region_held (fun W => W.cell? ⟨w4.heap.size, 0, none⟩ = some (.int .i64 x.t.hd.id.d) ∧ W.cell? ⟨w4.heap.size, 1, none⟩ = some (.int .i64 x.t.hd.id.o) ∧ W.cell? ⟨w4.heap.size, 2, none⟩ = some (.int .i64 x.t.hd.id.k) ∧ W.cell? ⟨w4.heap.size, 3, none⟩ = some (.int .i64 x.t.hd.id.n) ∧ W.cell? ⟨g0, o0 + k * 12 + 6, none⟩ = some (.int .i64 x.t.hd.seq)) (first | exact SS0 | exact SS5 | assumption) (fail)
              go_wp2
              go_roundw
              case rel => exact ⟨k + 1, K, by omega, by omega, by go_num, HL5.out, HN5.out⟩
              case measure => simp [intOf]; omega
            · rw [hnv] at hnew; omega
      · have HDS := Lib.hid (fun W b => dheads_any ((HS.out.below (W' := W) b).p) now (by have := HKL.out; omega))
        clear hmm
        go_wp2_with (first
          | (go_at_call 17; refine (HDS.out _ (Below.refl _ _)).mono ?_; rintro e wh ⟨⟨v, rfl, ho⟩, hb⟩; obtain ⟨A, c, rfl, hcl, hcm⟩ := ho.shape; have HH := Lib.hid (show HdS w n0 pb nb K A now wh from ⟨HS.out.below hb, kindT.rd ho⟩); clear ho hb))
        clear HDS
        obtain ⟨nh, hnh⟩ : ∃ nh, (headsD K now).length = nh := ⟨_, rfl⟩
        have HNH := Lib.hid hnh
        have hnhb : nh ≤ 120 := by
          have h1 : (headsD K now).length ≤ K.length := by unfold headsD aliveD; rw [List.length_map]; exact List.length_filter_le _ _
          have := HKL.out
          omega
        rw [hnh]
        clear hnh hcl hcm HS
        go_loopw [16] (fun iv wr => ∃ k : Nat, k ≤ nh ∧ iv = .int .i64 k ∧ Hid (HdS w n0 pb nb K A now wr)) (fun iv _ => nh - (intOf iv).toNat)
        case atStart => exact ⟨0, by omega, rfl, HH.out⟩
        case round =>
          obtain ⟨k, hkl, rfl, HW⟩ := hrel
          clear HH
          by_cases hlt : k < nh
          · obtain ⟨y, hy⟩ : ∃ y, (headsD K now)[k]? = some y := ⟨_, List.getElem?_eq_getElem (by have := HNH.out; omega)⟩
            obtain ⟨x, hf, hseq, hok⟩ := heads_at HW.out.s.p.inv hy
            have HL : Hid (∀ W, W.heap[nb]? = wr.heap[nb]? → (Instr.lookup 51 (.map (some nb)) (.agg #[.int .i64 y.id.d, .int .i64 y.id.o, .int .i64 y.id.k, .int .i64 y.id.n]) false).run Try.prog W = .ok (.int .i64 y.seq) W) := fun W e => by
              have := new_look1 HW.out.s.m hok hf W e
              rw [hseq] at this
              exact this
            clear hf hseq hok
            rcases k with _ | k
            · obtain ⟨g, o, rfl, hg, hr⟩ := HW.out.r 0 y hy
              have y0 : wr.cell? ⟨g, o, none⟩ = some (.int .i64 y.id.d) := hr 0 _ rfl
              have y1 : wr.cell? ⟨g, o + 1, none⟩ = some (.int .i64 y.id.o) := hr 1 _ rfl
              have y2 : wr.cell? ⟨g, o + 2, none⟩ = some (.int .i64 y.id.k) := hr 2 _ rfl
              have y3 : wr.cell? ⟨g, o + 3, none⟩ = some (.int .i64 y.id.n) := hr 3 _ rfl
              have y4 : wr.cell? ⟨g, o + 4, none⟩ = some (.int .i64 y.seq) := hr 4 _ rfl
              have l0 := HL.out wr rfl
              have l1 := HL.out wr.drew rfl
              clear hy hr HL
              rw [show (((0 : Nat)) : Int) = 0 by rfl]
              obtain ⟨q, hq⟩ : ∃ q : Int, (0 : Int) = q := ⟨_, rfl⟩
              have HQ := Lib.hid hq.symm
              have hgd : decide (q < (nh : Int)) = true := decide_eq_true (by omega)
              have hlt2 : q < (nh : Int) := by omega
              have hi0 : (0 : Int) ≤ q := by omega
              have htn : q.toNat = 0 := by omega
              have hgp : decide ((0 : Int) < q) = false := decide_eq_false (by omega)
              have hw1 : IntKind.i64.wrap (q + 1) = q + 1 := by rw [← hq]; rfl
              rw [hq]
              clear hq
              have HW2 := Lib.hid HW.out.drew
              have d0 : wr.drew.cell? ⟨g, o, none⟩ = some (.int .i64 y.id.d) := y0
              have d1 : wr.drew.cell? ⟨g, o + 1, none⟩ = some (.int .i64 y.id.o) := y1
              have d2 : wr.drew.cell? ⟨g, o + 2, none⟩ = some (.int .i64 y.id.k) := y2
              have d3 : wr.drew.cell? ⟨g, o + 3, none⟩ = some (.int .i64 y.id.n) := y3
              have d4 : wr.drew.cell? ⟨g, o + 4, none⟩ = some (.int .i64 y.seq) := y4
              go_wp2
              go_region
              all_goals go_wp2
              all_goals go_roundw
              case rel => exact ⟨1, by omega, by rw [HQ.out]; rfl, HW2.out⟩
              case measure => have := HQ.out; simp [intOf]; omega
            · obtain ⟨z, hz⟩ : ∃ z, (headsD K now)[k]? = some z := ⟨_, List.getElem?_eq_getElem (by have := HNH.out; omega)⟩
              have hlex := heads_asc HW.out.s.p.inv.asc hz hy
              obtain ⟨g, o, rfl, hg, hr⟩ := HW.out.r k z hz
              obtain ⟨g', o', e', _, hr2⟩ := HW.out.r (k + 1) y hy
              cases e'
              obtain ⟨cv, hcv⟩ : ∃ cv, cmpT z.id y.id = cv := ⟨_, rfl⟩
              have hneg : decide (0 ≤ cv) = false := by rw [← hcv]; exact decide_eq_false (by omega)
              have hcc2 := rcompare_any z.id y.id
              rw [hcv] at hcc2
              have HCC := Lib.hid hcc2
              have x0 : wr.cell? ⟨g, o + k * 6, none⟩ = some (.int .i64 z.id.d) := hr 0 _ rfl
              have x1 : wr.cell? ⟨g, o + k * 6 + 1, none⟩ = some (.int .i64 z.id.o) := hr 1 _ rfl
              have x2 : wr.cell? ⟨g, o + k * 6 + 2, none⟩ = some (.int .i64 z.id.k) := hr 2 _ rfl
              have x3 : wr.cell? ⟨g, o + k * 6 + 3, none⟩ = some (.int .i64 z.id.n) := hr 3 _ rfl
              have y0 : wr.cell? ⟨g, o + (k + 1) * 6, none⟩ = some (.int .i64 y.id.d) := hr2 0 _ rfl
              have y1 : wr.cell? ⟨g, o + (k + 1) * 6 + 1, none⟩ = some (.int .i64 y.id.o) := hr2 1 _ rfl
              have y2 : wr.cell? ⟨g, o + (k + 1) * 6 + 2, none⟩ = some (.int .i64 y.id.k) := hr2 2 _ rfl
              have y3 : wr.cell? ⟨g, o + (k + 1) * 6 + 3, none⟩ = some (.int .i64 y.id.n) := hr2 3 _ rfl
              have y4 : wr.cell? ⟨g, o + (k + 1) * 6 + 4, none⟩ = some (.int .i64 y.seq) := hr2 4 _ rfl
              have l0 := HL.out wr rfl
              have l1 := HL.out wr.drew rfl
              clear hz hy hlex hcv hcc2 hr hr2 HL
              have hsub : (k : Int) + 1 - 1 = k := by omega
              have hi0 : (0 : Int) ≤ (k : Int) + 1 := by omega
              have hlt2 : (k : Int) + 1 < (nh : Int) := by omega
              have hlt3 : (k : Int) < (nh : Int) := by omega
              have htn : ((k : Int) + 1).toNat = k + 1 := by omega
              have hwr : IntKind.i64.wrap ((k : Int) + 1 - 1) = k := by rw [hsub]; simp only [IntKind.wrap_i64]; omega
              have hwk : IntKind.i64.wrap (k : Int) = k := by simp only [IntKind.wrap_i64]; omega
              have hgd : decide ((k : Int) + 1 < (nh : Int)) = true := decide_eq_true (by omega)
              have hgp : decide ((0 : Int) < (k : Int) + 1) = true := decide_eq_true (by omega)
              rw [show (((k + 1 : Nat)) : Int) = (k : Int) + 1 by omega]
              go_wp2
              go_region_held (fun W => W.cell? ⟨g, o + k * 6, none⟩ = some (.int .i64 z.id.d) ∧ W.cell? ⟨g, o + k * 6 + 1, none⟩ = some (.int .i64 z.id.o) ∧ W.cell? ⟨g, o + k * 6 + 2, none⟩ = some (.int .i64 z.id.k) ∧ W.cell? ⟨g, o + k * 6 + 3, none⟩ = some (.int .i64 z.id.n) ∧ W.cell? ⟨g, o + (k + 1) * 6, none⟩ = some (.int .i64 y.id.d) ∧ W.cell? ⟨g, o + (k + 1) * 6 + 1, none⟩ = some (.int .i64 y.id.o) ∧ W.cell? ⟨g, o + (k + 1) * 6 + 2, none⟩ = some (.int .i64 y.id.k) ∧ W.cell? ⟨g, o + (k + 1) * 6 + 3, none⟩ = some (.int .i64 y.id.n) ∧ W.cell? ⟨g, o + (k + 1) * 6 + 4, none⟩ = some (.int .i64 y.seq)) (first | exact ⟨x0, x1, x2, x3, y0, y1, y2, y3, y4⟩ | exact ⟨by assumption, by assumption, by assumption, by assumption, by assumption, by assumption, by assumption, by assumption, by assumption⟩)
                (first | (go_at_call 18; (with_reducible refine (HCC.out _).mono ?_); rintro e w7 ⟨rfl, hb⟩; have a0 := (hb.cell (p := ⟨g, o + k * 6, none⟩) hg).trans x0; have a1 := (hb.cell (p := ⟨g, o + k * 6 + 1, none⟩) hg).trans x1; have a2 := (hb.cell (p := ⟨g, o + k * 6 + 2, none⟩) hg).trans x2; have a3 := (hb.cell (p := ⟨g, o + k * 6 + 3, none⟩) hg).trans x3; have b0 := (hb.cell (p := ⟨g, o + (k + 1) * 6, none⟩) hg).trans y0; have b1 := (hb.cell (p := ⟨g, o + (k + 1) * 6 + 1, none⟩) hg).trans y1; have b2 := (hb.cell (p := ⟨g, o + (k + 1) * 6 + 2, none⟩) hg).trans y2; have b3 := (hb.cell (p := ⟨g, o + (k + 1) * 6 + 3, none⟩) hg).trans y3; have b4 := (hb.cell (p := ⟨g, o + (k + 1) * 6 + 4, none⟩) hg).trans y4; have HW2 := Lib.hid (HW.out.drew.below hb); clear hb))
              go_wp2
              go_roundw
              case rel => exact ⟨k + 1 + 1, by omega, by go_num, HW2.out⟩
              case measure => simp [intOf]; omega
          · have hgd : decide ((k : Int) < (nh : Int)) = false := decide_eq_false (by omega)
            have HDL := Lib.hid (fun W b => dlen_any (HW.out.s.p) W b)
            have hbn : nb < wr.heap.size := HW.out.s.m.lt
            have hml : (Builtin.len_ #[51] 3 #[.map (some nb)]).run Try.prog wr = .ok (.int .i64 K.length) wr := by
              have := HW.out.s.m.len mapKn 3 wr rfl
              rwa [List.length_map] at this
            have hml2 : (Builtin.len_ #[51] 3 #[.map (some nb)]).run Try.prog wr.drew = .ok (.int .i64 K.length) wr.drew := by
              have := HW.out.s.m.len mapKn 3 wr.drew rfl
              rwa [List.length_map] at this
            go_wp2_with (first
              | (go_at_call 14; refine (HDL.out _ (fun _ _ => rfl)).mono ?_; rintro e w8 ⟨rfl, rfl⟩))
            go_ret
            exact ⟨rfl, HW.out.s.b⟩
    · have HDS := Lib.hid (fun W b => dheads_any ((HS.out.below (W' := W) b).p) now (by have := HKL.out; omega))
      clear hmm
      go_wp2_with (first
        | (go_at_call 17; refine (HDS.out _ (Below.refl _ _)).mono ?_; rintro e wh ⟨⟨v, rfl, ho⟩, hb⟩; obtain ⟨A, c, rfl, hcl, hcm⟩ := ho.shape; have HH := Lib.hid (show HdS w n0 pb nb K A now wh from ⟨HS.out.below hb, kindT.rd ho⟩); clear ho hb))
      clear HDS
      obtain ⟨nh, hnh⟩ : ∃ nh, (headsD K now).length = nh := ⟨_, rfl⟩
      have HNH := Lib.hid hnh
      have hnhb : nh ≤ 120 := by
        have h1 : (headsD K now).length ≤ K.length := by unfold headsD aliveD; rw [List.length_map]; exact List.length_filter_le _ _
        have := HKL.out
        omega
      rw [hnh]
      clear hnh hcl hcm HS
      go_loopw [16] (fun iv wr => ∃ k : Nat, k ≤ nh ∧ iv = .int .i64 k ∧ Hid (HdS w n0 pb nb K A now wr)) (fun iv _ => nh - (intOf iv).toNat)
      case atStart => exact ⟨0, by omega, rfl, HH.out⟩
      case round =>
        obtain ⟨k, hkl, rfl, HW⟩ := hrel
        clear HH
        by_cases hlt : k < nh
        · obtain ⟨y, hy⟩ : ∃ y, (headsD K now)[k]? = some y := ⟨_, List.getElem?_eq_getElem (by have := HNH.out; omega)⟩
          obtain ⟨x, hf, hseq, hok⟩ := heads_at HW.out.s.p.inv hy
          have HL : Hid (∀ W, W.heap[nb]? = wr.heap[nb]? → (Instr.lookup 51 (.map (some nb)) (.agg #[.int .i64 y.id.d, .int .i64 y.id.o, .int .i64 y.id.k, .int .i64 y.id.n]) false).run Try.prog W = .ok (.int .i64 y.seq) W) := fun W e => by
            have := new_look1 HW.out.s.m hok hf W e
            rw [hseq] at this
            exact this
          clear hf hseq hok
          rcases k with _ | k
          · obtain ⟨g, o, rfl, hg, hr⟩ := HW.out.r 0 y hy
            have y0 : wr.cell? ⟨g, o, none⟩ = some (.int .i64 y.id.d) := hr 0 _ rfl
            have y1 : wr.cell? ⟨g, o + 1, none⟩ = some (.int .i64 y.id.o) := hr 1 _ rfl
            have y2 : wr.cell? ⟨g, o + 2, none⟩ = some (.int .i64 y.id.k) := hr 2 _ rfl
            have y3 : wr.cell? ⟨g, o + 3, none⟩ = some (.int .i64 y.id.n) := hr 3 _ rfl
            have y4 : wr.cell? ⟨g, o + 4, none⟩ = some (.int .i64 y.seq) := hr 4 _ rfl
            have l0 := HL.out wr rfl
            have l1 := HL.out wr.drew rfl
            clear hy hr HL
            rw [show (((0 : Nat)) : Int) = 0 by rfl]
            obtain ⟨q, hq⟩ : ∃ q : Int, (0 : Int) = q := ⟨_, rfl⟩
            have HQ := Lib.hid hq.symm
            have hgd : decide (q < (nh : Int)) = true := decide_eq_true (by omega)
            have hlt2 : q < (nh : Int) := by omega
            have hi0 : (0 : Int) ≤ q := by omega
            have htn : q.toNat = 0 := by omega
            have hgp : decide ((0 : Int) < q) = false := decide_eq_false (by omega)
            have hw1 : IntKind.i64.wrap (q + 1) = q + 1 := by rw [← hq]; rfl
            rw [hq]
            clear hq
            have HW2 := Lib.hid HW.out.drew
            have d0 : wr.drew.cell? ⟨g, o, none⟩ = some (.int .i64 y.id.d) := y0
            have d1 : wr.drew.cell? ⟨g, o + 1, none⟩ = some (.int .i64 y.id.o) := y1
            have d2 : wr.drew.cell? ⟨g, o + 2, none⟩ = some (.int .i64 y.id.k) := y2
            have d3 : wr.drew.cell? ⟨g, o + 3, none⟩ = some (.int .i64 y.id.n) := y3
            have d4 : wr.drew.cell? ⟨g, o + 4, none⟩ = some (.int .i64 y.seq) := y4
            go_wp2
            go_region
            all_goals go_wp2
            all_goals go_roundw
            case rel => exact ⟨1, by omega, by rw [HQ.out]; rfl, HW2.out⟩
            case measure => have := HQ.out; simp [intOf]; omega
          · obtain ⟨z, hz⟩ : ∃ z, (headsD K now)[k]? = some z := ⟨_, List.getElem?_eq_getElem (by have := HNH.out; omega)⟩
            have hlex := heads_asc HW.out.s.p.inv.asc hz hy
            obtain ⟨g, o, rfl, hg, hr⟩ := HW.out.r k z hz
            obtain ⟨g', o', e', _, hr2⟩ := HW.out.r (k + 1) y hy
            cases e'
            obtain ⟨cv, hcv⟩ : ∃ cv, cmpT z.id y.id = cv := ⟨_, rfl⟩
            have hneg : decide (0 ≤ cv) = false := by rw [← hcv]; exact decide_eq_false (by omega)
            have hcc2 := rcompare_any z.id y.id
            rw [hcv] at hcc2
            have HCC := Lib.hid hcc2
            have x0 : wr.cell? ⟨g, o + k * 6, none⟩ = some (.int .i64 z.id.d) := hr 0 _ rfl
            have x1 : wr.cell? ⟨g, o + k * 6 + 1, none⟩ = some (.int .i64 z.id.o) := hr 1 _ rfl
            have x2 : wr.cell? ⟨g, o + k * 6 + 2, none⟩ = some (.int .i64 z.id.k) := hr 2 _ rfl
            have x3 : wr.cell? ⟨g, o + k * 6 + 3, none⟩ = some (.int .i64 z.id.n) := hr 3 _ rfl
            have y0 : wr.cell? ⟨g, o + (k + 1) * 6, none⟩ = some (.int .i64 y.id.d) := hr2 0 _ rfl
            have y1 : wr.cell? ⟨g, o + (k + 1) * 6 + 1, none⟩ = some (.int .i64 y.id.o) := hr2 1 _ rfl
            have y2 : wr.cell? ⟨g, o + (k + 1) * 6 + 2, none⟩ = some (.int .i64 y.id.k) := hr2 2 _ rfl
            have y3 : wr.cell? ⟨g, o + (k + 1) * 6 + 3, none⟩ = some (.int .i64 y.id.n) := hr2 3 _ rfl
            have y4 : wr.cell? ⟨g, o + (k + 1) * 6 + 4, none⟩ = some (.int .i64 y.seq) := hr2 4 _ rfl
            have l0 := HL.out wr rfl
            have l1 := HL.out wr.drew rfl
            clear hz hy hlex hcv hcc2 hr hr2 HL
            have hsub : (k : Int) + 1 - 1 = k := by omega
            have hi0 : (0 : Int) ≤ (k : Int) + 1 := by omega
            have hlt2 : (k : Int) + 1 < (nh : Int) := by omega
            have hlt3 : (k : Int) < (nh : Int) := by omega
            have htn : ((k : Int) + 1).toNat = k + 1 := by omega
            have hwr : IntKind.i64.wrap ((k : Int) + 1 - 1) = k := by rw [hsub]; simp only [IntKind.wrap_i64]; omega
            have hwk : IntKind.i64.wrap (k : Int) = k := by simp only [IntKind.wrap_i64]; omega
            have hgd : decide ((k : Int) + 1 < (nh : Int)) = true := decide_eq_true (by omega)
            have hgp : decide ((0 : Int) < (k : Int) + 1) = true := decide_eq_true (by omega)
            rw [show (((k + 1 : Nat)) : Int) = (k : Int) + 1 by omega]
            go_wp2
            go_region_held (fun W => W.cell? ⟨g, o + k * 6, none⟩ = some (.int .i64 z.id.d) ∧ W.cell? ⟨g, o + k * 6 + 1, none⟩ = some (.int .i64 z.id.o) ∧ W.cell? ⟨g, o + k * 6 + 2, none⟩ = some (.int .i64 z.id.k) ∧ W.cell? ⟨g, o + k * 6 + 3, none⟩ = some (.int .i64 z.id.n) ∧ W.cell? ⟨g, o + (k + 1) * 6, none⟩ = some (.int .i64 y.id.d) ∧ W.cell? ⟨g, o + (k + 1) * 6 + 1, none⟩ = some (.int .i64 y.id.o) ∧ W.cell? ⟨g, o + (k + 1) * 6 + 2, none⟩ = some (.int .i64 y.id.k) ∧ W.cell? ⟨g, o + (k + 1) * 6 + 3, none⟩ = some (.int .i64 y.id.n) ∧ W.cell? ⟨g, o + (k + 1) * 6 + 4, none⟩ = some (.int .i64 y.seq)) (first | exact ⟨x0, x1, x2, x3, y0, y1, y2, y3, y4⟩ | exact ⟨by assumption, by assumption, by assumption, by assumption, by assumption, by assumption, by assumption, by assumption, by assumption⟩)
              (first | (go_at_call 18; (with_reducible refine (HCC.out _).mono ?_); rintro e w7 ⟨rfl, hb⟩; have a0 := (hb.cell (p := ⟨g, o + k * 6, none⟩) hg).trans x0; have a1 := (hb.cell (p := ⟨g, o + k * 6 + 1, none⟩) hg).trans x1; have a2 := (hb.cell (p := ⟨g, o + k * 6 + 2, none⟩) hg).trans x2; have a3 := (hb.cell (p := ⟨g, o + k * 6 + 3, none⟩) hg).trans x3; have b0 := (hb.cell (p := ⟨g, o + (k + 1) * 6, none⟩) hg).trans y0; have b1 := (hb.cell (p := ⟨g, o + (k + 1) * 6 + 1, none⟩) hg).trans y1; have b2 := (hb.cell (p := ⟨g, o + (k + 1) * 6 + 2, none⟩) hg).trans y2; have b3 := (hb.cell (p := ⟨g, o + (k + 1) * 6 + 3, none⟩) hg).trans y3; have b4 := (hb.cell (p := ⟨g, o + (k + 1) * 6 + 4, none⟩) hg).trans y4; have HW2 := Lib.hid (HW.out.drew.below hb); clear hb))
            go_wp2
            go_roundw
            case rel => exact ⟨k + 1 + 1, by omega, by go_num, HW2.out⟩
            case measure => simp [intOf]; omega
        · have hgd : decide ((k : Int) < (nh : Int)) = false := decide_eq_false (by omega)
          have HDL := Lib.hid (fun W b => dlen_any (HW.out.s.p) W b)
          have hbn : nb < wr.heap.size := HW.out.s.m.lt
          have hml : (Builtin.len_ #[51] 3 #[.map (some nb)]).run Try.prog wr = .ok (.int .i64 K.length) wr := by
            have := HW.out.s.m.len mapKn 3 wr rfl
            rwa [List.length_map] at this
          have hml2 : (Builtin.len_ #[51] 3 #[.map (some nb)]).run Try.prog wr.drew = .ok (.int .i64 K.length) wr.drew := by
            have := HW.out.s.m.len mapKn 3 wr.drew rfl
            rwa [List.length_map] at this
          go_wp2_with (first
            | (go_at_call 14; refine (HDL.out _ (fun _ _ => rfl)).mono ?_; rintro e w8 ⟨rfl, rfl⟩))
          go_ret
          exact ⟨rfl, HW.out.s.b⟩
theorem newest_walk (a : Option Addr) (cap : Nat) (l : List StT) (now : Int) (hnow : In64 now) (w : World) (hr : RdE 12 cellsS w a l) (hk : ∀ x ∈ l, In64 x.now ∧ In2 w x.t x.s) : Calls Try.prog 4 #[.slice a l.length cap, .int .i64 now] w fun e w' => e = .returned (.bool true) ∧ Below w.heap.size w w' := by
  by_cases h0 : now < 0
  · exact newest_low a cap l now hnow w hr hk h0
  · by_cases h1 : 549755813888 < now
    · exact newest_high a cap l now hnow w hr hk h0 h1
    · exact newest_ok a cap l now hnow w hr hk h0 h1
end Go.Proofs.Ytpaifkfpgoojiaa.ti
