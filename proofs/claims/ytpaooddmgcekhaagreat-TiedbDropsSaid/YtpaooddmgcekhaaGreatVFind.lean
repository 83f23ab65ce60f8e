/-
  THE PROGRAM'S find.
-/
import Derived.Test.YtpaooddmgcekhaaGreatVPutB
namespace Go.Proofs.YtpaooddmgcekhaaGreat.ti
set_option linter.unusedSimpArgs false
set_option linter.unusedVariables false
open Go.RowKit
theorem ProgD.lookL {W : World} {n0 pb mb : Nat} {room : Int} {K : List EnT} (h : ProgD W n0 pb mb room K) {L : List EnK} (hL : MapV W mb (L.map entK)) (hp : (L.map EnK.e).Perm K) {i : TId} (hi : ti.okI i) :
    ∃ x : Option EnK, (∀ W' : World, W'.heap[mb]? = W.heap[mb]? → (Instr.lookup 59 (.map (some mb)) (.agg #[.int .i64 i.d, .int .i64 i.o, .int .i64 i.k, .int .i64 i.n]) true).run Tryz.prog W' = .ok (.tuple #[(x.map aggK).getD zeroK, .bool x.isSome]) W') ∧
      x.map EnK.e = findD K i ∧ ∀ y, x = some y → y ∈ L ∧ y.e ∈ K := by
  have hnd : ((L.map entK).map Prod.fst).Nodup := by obtain ⟨_, _, _, q, _⟩ := hL; exact q
  have hlook : ∀ W' : World, W'.heap[mb]? = W.heap[mb]? → (Instr.lookup 59 (.map (some mb)) (aggI i) true).run Tryz.prog W' = .ok (.tuple #[lookV (L.map entK) i zeroK, .bool (findV (L.map entK) i).isSome]) W' := fun W' hW' => hL.look mapKd (z := zeroK) hi W' (by go_simp; rfl) hW'
  cases hf : findD K i with
  | some x =>
    obtain ⟨hx, rfl⟩ := findD_is hf
    obtain ⟨y, hy, rfl⟩ := List.mem_map.1 (hp.mem_iff.2 hx)
    have h2 := findV_mem hnd (x := entK y) (List.mem_map.2 ⟨y, hy, rfl⟩)
    refine ⟨some y, fun W' hW' => ?_, rfl, fun z hz => by cases hz; exact ⟨hy, hx⟩⟩
    have h3 := hlook W' hW'
    unfold lookV at h3
    rw [show findV (L.map entK) y.e.id = some (entK y) from h2] at h3
    exact h3
  | none =>
    have h2 : findV (L.map entK) i = none := findV_none fun z hz => by
      obtain ⟨y, hy, rfl⟩ := List.mem_map.1 hz
      exact findD_none hf y.e (hp.mem_iff.1 (List.mem_map.2 ⟨y, hy, rfl⟩))
    refine ⟨none, fun W' hW' => ?_, rfl, fun z hz => by cases hz⟩
    have h3 := hlook W' hW'
    unfold lookV at h3
    rw [h2] at h3
    exact h3
/-- A piece is told, or the zero one. -/
def FindE (L : List EnK) (K : List EnT) (i : TId) (now : Int) (w : World) (e : Ending) (w' : World) : Prop :=
  ∃ s, e = .returned (.tuple #[aggV (getD K i now).1 s, .bool (getD K i now).2]) ∧ Rd2 w' (getD K i now).1 s ∧ Below w.heap.size w w' ∧ ((getD K i now).2 = true → ∃ x ∈ L, (getD K i now).1 = toldD x.e now ∧ s = x.s)
theorem rd2_nil (W : World) : Rd2 W TiV.nil ⟨none, 0, none, 0⟩ := ⟨RdE.nil _ _, RdE.nil _ _, ⟨by simp [TiV.nil], by simp [TiV.nil], by decide⟩, ⟨by simp [TiV.nil], by simp [TiV.nil], by decide⟩, fun _ => rfl, fun _ => rfl, fun y hy => by simp [TiV.nil] at hy⟩
theorem rd2_told {W : World} {x : EnK} (h : Rd2 W x.e.t x.s) (now : Int) : Rd2 W (toldD x.e now) x.s := ⟨h.e, h.r, h.le, h.lr, h.ne, h.nr, h.ok⟩
theorem findD_got {K : List EnT} {i : TId} {y : EnT} (hf : findD K i = some y) (now : Int) : getD K i now = if isD y now then (toldD y now, true) else (TiV.nil, false) := by unfold getD; rw [hf]
theorem findD_gone {K : List EnT} {i : TId} (hf : findD K i = none) (now : Int) : getD K i now = (TiV.nil, false) := by unfold getD; rw [hf]
theorem cellsV0_one : cellsV0.toArray.all (·.oneCell') = true := by simp [cellsV0, Value.oneCell']
/-- The boxes of find. -/
theorem find_boxes (w : World) (i : TId) {W : World} (k : Below ((w.alloc (.cells #[.int .i64 i.d, .int .i64 i.o, .int .i64 i.k, .int .i64 i.n] 33)).alloc (.cells #[.int .i64 0, .int .i64 0, .int .i64 0, .int .i64 0, .int .i64 0, .int .i64 0, .int .i64 0, .bool false, .slice none 0 0, .slice none 0 0] 39)).heap.size ((w.alloc (.cells #[.int .i64 i.d, .int .i64 i.o, .int .i64 i.k, .int .i64 i.n] 33)).alloc (.cells #[.int .i64 0, .int .i64 0, .int .i64 0, .int .i64 0, .int .i64 0, .int .i64 0, .int .i64 0, .bool false, .slice none 0 0, .slice none 0 0] 39)) W) : Arr W w.heap.size 33 [.int .i64 i.d, .int .i64 i.o, .int .i64 i.k, .int .i64 i.n] ∧ Arr W (w.heap.size + 1) 39 cellsV0 ∧ Below w.heap.size w W ∧ w.heap.size + 2 ≤ W.heap.size := by
  have h0 : Arr ((w.alloc (.cells #[.int .i64 i.d, .int .i64 i.o, .int .i64 i.k, .int .i64 i.n] 33)).alloc (.cells #[.int .i64 0, .int .i64 0, .int .i64 0, .int .i64 0, .int .i64 0, .int .i64 0, .int .i64 0, .bool false, .slice none 0 0, .slice none 0 0] 39)) w.heap.size 33 [.int .i64 i.d, .int .i64 i.o, .int .i64 i.k, .int .i64 i.n] := (Arr.new w 33 [.int .i64 i.d, .int .i64 i.o, .int .i64 i.k, .int .i64 i.n]).alloc _
  have h1 : Arr ((w.alloc (.cells #[.int .i64 i.d, .int .i64 i.o, .int .i64 i.k, .int .i64 i.n] 33)).alloc (.cells #[.int .i64 0, .int .i64 0, .int .i64 0, .int .i64 0, .int .i64 0, .int .i64 0, .int .i64 0, .bool false, .slice none 0 0, .slice none 0 0] 39)) (w.heap.size + 1) 39 cellsV0 := by
    have := Arr.new (w.alloc (.cells #[.int .i64 i.d, .int .i64 i.o, .int .i64 i.k, .int .i64 i.n] 33)) 39 cellsV0
    rwa [show (w.alloc (.cells #[.int .i64 i.d, .int .i64 i.o, .int .i64 i.k, .int .i64 i.n] 33)).heap.size = w.heap.size + 1 from by simp] at this
  exact ⟨h0.below k (by simp; omega), h1.below k (by simp), (((Below.refl _ w).alloc (Nat.le_refl _) _).alloc (by simp) _).trans (k.mono (by simp; omega)), by have := k.size; simp at this; omega⟩
set_option maxHeartbeats 3200000 in
set_option maxRecDepth 100000 in
theorem dfind_none {w : World} {n0 pb mb : Nat} {room : Int} {K : List EnT} (h : ProgD w n0 pb mb room K) {L : List EnK} (hL : MapV w mb (L.map entK)) (hp : (L.map EnK.e).Perm K) (hO : ∀ x ∈ L, Own2 w n0 x.e.t x.s) (i : TId) (hi : okI i) (now : Int) (hf : findD K i = none) : Calls Tryz.prog 32 #[.pointer (some ⟨pb, 0, none⟩), .agg #[.int .i64 i.d, .int .i64 i.o, .int .i64 i.k, .int .i64 i.n], .int .i64 now] w (FindE L K i now w) := by
  have HG := Lib.hid (findD_gone hf now)
  obtain ⟨x, hx1, hx2, _⟩ := h.lookL hL hp hi
  rw [hf] at hx2
  obtain rfl : x = none := by cases x; rfl; cases hx2
  replace hx1 : ∀ W' : World, W'.heap[mb]? = w.heap[mb]? → (Instr.lookup 59 (.map (some mb)) (.agg #[.int .i64 i.d, .int .i64 i.o, .int .i64 i.k, .int .i64 i.n]) true).run Tryz.prog W' = .ok (.tuple #[.agg #[.int .i64 0, .int .i64 0, .int .i64 0, .int .i64 0, .int .i64 0, .int .i64 0, .int .i64 0, .bool false, .slice none 0 0, .slice none 0 0, .int .i64 0], .bool false]) W' := hx1
  clear hx2 hf hL hp hO
  have HP := Lib.hid h
  have hlt := h.lt
  have HBX : Hid (∀ W, Below ((w.alloc (.cells #[.int .i64 i.d, .int .i64 i.o, .int .i64 i.k, .int .i64 i.n] 33)).alloc (.cells #[.int .i64 0, .int .i64 0, .int .i64 0, .int .i64 0, .int .i64 0, .int .i64 0, .int .i64 0, .bool false, .slice none 0 0, .slice none 0 0] 39)).heap.size ((w.alloc (.cells #[.int .i64 i.d, .int .i64 i.o, .int .i64 i.k, .int .i64 i.n] 33)).alloc (.cells #[.int .i64 0, .int .i64 0, .int .i64 0, .int .i64 0, .int .i64 0, .int .i64 0, .int .i64 0, .bool false, .slice none 0 0, .slice none 0 0] 39)) W → (W.cell? ⟨pb, 1, none⟩ = some (.map (some mb)) ∧ W.cell? ⟨w.heap.size, 0, none⟩ = some (.int .i64 i.d) ∧ W.cell? ⟨w.heap.size, 1, none⟩ = some (.int .i64 i.o) ∧ W.cell? ⟨w.heap.size, 2, none⟩ = some (.int .i64 i.k) ∧ W.cell? ⟨w.heap.size, 3, none⟩ = some (.int .i64 i.n)) ∧ W.heap[mb]? = w.heap[mb]?) := fun W k => by
    obtain ⟨a, b, c, d⟩ := find_boxes w i k
    exact ⟨⟨(HP.out.below c).cells.2, a.cell 0, a.cell 1, a.cell 2, a.cell 3⟩, c.block _ hlt.2⟩
  have HFB := Lib.hid (fun W k => find_boxes w i (W := W) k)
  obtain ⟨w1, hw1⟩ : ∃ w1, ((w.alloc (.cells #[.int .i64 i.d, .int .i64 i.o, .int .i64 i.k, .int .i64 i.n] 33)).alloc (.cells #[.int .i64 0, .int .i64 0, .int .i64 0, .int .i64 0, .int .i64 0, .int .i64 0, .int .i64 0, .bool false, .slice none 0 0, .slice none 0 0] 39)) = w1 := ⟨_, rfl⟩
  have hs1 : w1.heap.size = w.heap.size + 2 := by rw [← hw1]; simp
  rw [hw1] at HBX HFB
  have S0 := (HBX.out w1.drew (Below.refl _ _).drew).1
  have M0 := (HBX.out w1.drew (Below.refl _ _).drew).2
  have hl1 := hx1 w1.drew M0
  have hl2 := fun O : Obj => hx1 (w1.alloc O).drew ((heap_alloc_old w1 O (by omega)).trans M0)
  have SA := fun O : Obj => (HBX.out (w1.drew.alloc O) ((Below.refl _ _).drew.alloc (Nat.le_refl _) O)).1
  have HW1 := Lib.hid hs1
  clear hx1 h hs1
  go_enter Tryz.func32, Tryz.ntmps32
  go_wp2
  go_region_held (fun W => W.cell? ⟨pb, 1, none⟩ = some (.map (some mb)) ∧ W.cell? ⟨w.heap.size, 0, none⟩ = some (.int .i64 i.d) ∧ W.cell? ⟨w.heap.size, 1, none⟩ = some (.int .i64 i.o) ∧ W.cell? ⟨w.heap.size, 2, none⟩ = some (.int .i64 i.k) ∧ W.cell? ⟨w.heap.size, 3, none⟩ = some (.int .i64 i.n)) (first | exact S0 | exact SA _ | exact (SA _).drew) (fail)
  all_goals have H2 : Below w1.heap.size w1 ((w1.alloc (.cells #[.int .i64 0, .int .i64 0, .int .i64 0, .int .i64 0, .int .i64 0, .int .i64 0, .int .i64 0, .bool false, .slice none 0 0, .slice none 0 0, .int .i64 0] 78)).drew) := ((Below.refl _ _).alloc (Nat.le_refl _) _).drew
  all_goals have E2 : Arr ((w1.alloc (.cells #[.int .i64 0, .int .i64 0, .int .i64 0, .int .i64 0, .int .i64 0, .int .i64 0, .int .i64 0, .bool false, .slice none 0 0, .slice none 0 0, .int .i64 0] 78)).drew) w1.heap.size 78 [.int .i64 0, .int .i64 0, .int .i64 0, .int .i64 0, .int .i64 0, .int .i64 0, .int .i64 0, .bool false, .slice none 0 0, .slice none 0 0, .int .i64 0] := Arr.new w1 _ [.int .i64 0, .int .i64 0, .int .i64 0, .int .i64 0, .int .i64 0, .int .i64 0, .int .i64 0, .bool false, .slice none 0 0, .slice none 0 0, .int .i64 0]
  all_goals generalize (w1.alloc (.cells #[.int .i64 0, .int .i64 0, .int .i64 0, .int .i64 0, .int .i64 0, .int .i64 0, .int .i64 0, .bool false, .slice none 0 0, .slice none 0 0, .int .i64 0] 78)).drew = W2 at *
  all_goals obtain ⟨-, B2, C2, D2⟩ := HFB.out W2 H2
  all_goals have HB2 := Lib.hid B2
  all_goals have HC2 := Lib.hid C2
  all_goals have HD2 := Lib.hid D2
  all_goals have HE2 := Lib.hid E2
  all_goals have HH2 := Lib.hid H2
  all_goals clear S0 M0 hl1 hl2 SA B2 C2 D2 E2 H2 hw1
  all_goals have BB := HC2
  all_goals go_wp2_with (first
    | (refine wpList_store_arr rfl 39 (.tmp 6) (.tmp 32) rfl (w.heap.size + 1) rfl (vs := cellsV0) rfl HB2.out sizeV rfl rfl cellsV0_one ?_; intro W5 A5 B5 hs5 O5))
  all_goals refine bodyPost_ret (results_cell2 rfl rfl A5.out Tryz.underlying39 rfl sizeV) rfl ?_
  all_goals unfold FindE
  all_goals rw [HG.out]
  all_goals exact ⟨⟨none, 0, none, 0⟩, rfl, rd2_nil _, BB.out.trans (B5.out.mono (by omega)), fun q => by cases q⟩
set_option maxHeartbeats 3200000 in
set_option maxRecDepth 100000 in
theorem dfind_time {w : World} {n0 pb mb : Nat} {room : Int} {K : List EnT} (h : ProgD w n0 pb mb room K) {L : List EnK} (hL : MapV w mb (L.map entK)) (hp : (L.map EnK.e).Perm K) (hO : ∀ x ∈ L, Own2 w n0 x.e.t x.s) (i : TId) (hi : okI i) (now : Int) (hm : ¬ momD now) (y : EnT) (hf : findD K i = some y) : Calls Tryz.prog 32 #[.pointer (some ⟨pb, 0, none⟩), .agg #[.int .i64 i.d, .int .i64 i.o, .int .i64 i.k, .int .i64 i.n], .int .i64 now] w (FindE L K i now w) := by
  obtain ⟨x, hx1, hx2, hx3⟩ := h.lookL hL hp hi
  rw [hf] at hx2
  obtain ⟨x, rfl⟩ : ∃ z, x = some z := by cases x; cases hx2; exact ⟨_, rfl⟩
  obtain rfl : x.e = y := Option.some.inj hx2
  obtain ⟨hxL, hxK⟩ := hx3 x rfl
  have hown := hO x hxL
  have hxe := h.inv.ok _ hxK
  have HRD := Lib.hid (hown.rd hxe.1)
  have HOW := Lib.hid hxL
  replace hx1 : ∀ W' : World, W'.heap[mb]? = w.heap[mb]? → (Instr.lookup 59 (.map (some mb)) (.agg #[.int .i64 i.d, .int .i64 i.o, .int .i64 i.k, .int .i64 i.n]) true).run Tryz.prog W' = .ok (.tuple #[.agg #[.int .i64 x.e.t.hd.id.d, .int .i64 x.e.t.hd.id.o, .int .i64 x.e.t.hd.id.k, .int .i64 x.e.t.hd.id.n, .int .i64 x.e.t.hd.seq, .int .i64 x.e.t.hd.life, .int .i64 x.e.t.level, .bool x.e.t.over, .slice x.s.ea x.e.t.es.length x.s.ec, .slice x.s.ra x.e.t.rs.length x.s.rc, .int .i64 x.e.exp], .bool true]) W' := hx1
  clear hx2 hx3
  have HG : Hid (getD K i now = (TiV.nil, false)) := by unfold Hid; rw [findD_got hf, if_neg (fun q => hm q.1)]
  have ht := dtime_any now
  rw [decide_eq_false hm] at ht
  clear hL hp hO hf hm hxe hown hxK hxL
  have HP := Lib.hid h
  have hlt := h.lt
  have HBX : Hid (∀ W, Below ((w.alloc (.cells #[.int .i64 i.d, .int .i64 i.o, .int .i64 i.k, .int .i64 i.n] 33)).alloc (.cells #[.int .i64 0, .int .i64 0, .int .i64 0, .int .i64 0, .int .i64 0, .int .i64 0, .int .i64 0, .bool false, .slice none 0 0, .slice none 0 0] 39)).heap.size ((w.alloc (.cells #[.int .i64 i.d, .int .i64 i.o, .int .i64 i.k, .int .i64 i.n] 33)).alloc (.cells #[.int .i64 0, .int .i64 0, .int .i64 0, .int .i64 0, .int .i64 0, .int .i64 0, .int .i64 0, .bool false, .slice none 0 0, .slice none 0 0] 39)) W → (W.cell? ⟨pb, 1, none⟩ = some (.map (some mb)) ∧ W.cell? ⟨w.heap.size, 0, none⟩ = some (.int .i64 i.d) ∧ W.cell? ⟨w.heap.size, 1, none⟩ = some (.int .i64 i.o) ∧ W.cell? ⟨w.heap.size, 2, none⟩ = some (.int .i64 i.k) ∧ W.cell? ⟨w.heap.size, 3, none⟩ = some (.int .i64 i.n)) ∧ W.heap[mb]? = w.heap[mb]?) := fun W k => by
    obtain ⟨a, b, c, d⟩ := find_boxes w i k
    exact ⟨⟨(HP.out.below c).cells.2, a.cell 0, a.cell 1, a.cell 2, a.cell 3⟩, c.block _ hlt.2⟩
  have HFB := Lib.hid (fun W k => find_boxes w i (W := W) k)
  obtain ⟨w1, hw1⟩ : ∃ w1, ((w.alloc (.cells #[.int .i64 i.d, .int .i64 i.o, .int .i64 i.k, .int .i64 i.n] 33)).alloc (.cells #[.int .i64 0, .int .i64 0, .int .i64 0, .int .i64 0, .int .i64 0, .int .i64 0, .int .i64 0, .bool false, .slice none 0 0, .slice none 0 0] 39)) = w1 := ⟨_, rfl⟩
  have hs1 : w1.heap.size = w.heap.size + 2 := by rw [← hw1]; simp
  rw [hw1] at HBX HFB
  have S0 := (HBX.out w1.drew (Below.refl _ _).drew).1
  have M0 := (HBX.out w1.drew (Below.refl _ _).drew).2
  have hl1 := hx1 w1.drew M0
  have hl2 := fun O : Obj => hx1 (w1.alloc O).drew ((heap_alloc_old w1 O (by omega)).trans M0)
  have SA := fun O : Obj => (HBX.out (w1.drew.alloc O) ((Below.refl _ _).drew.alloc (Nat.le_refl _) O)).1
  have HW1 := Lib.hid hs1
  clear hx1 h hs1
  go_enter Tryz.func32, Tryz.ntmps32
  go_wp2
  go_region_held (fun W => W.cell? ⟨pb, 1, none⟩ = some (.map (some mb)) ∧ W.cell? ⟨w.heap.size, 0, none⟩ = some (.int .i64 i.d) ∧ W.cell? ⟨w.heap.size, 1, none⟩ = some (.int .i64 i.o) ∧ W.cell? ⟨w.heap.size, 2, none⟩ = some (.int .i64 i.k) ∧ W.cell? ⟨w.heap.size, 3, none⟩ = some (.int .i64 i.n)) (first | exact S0 | exact SA _ | exact (SA _).drew) (fail)
  all_goals have H2 : Below w1.heap.size w1 ((w1.alloc (.cells #[.int .i64 x.e.t.hd.id.d, .int .i64 x.e.t.hd.id.o, .int .i64 x.e.t.hd.id.k, .int .i64 x.e.t.hd.id.n, .int .i64 x.e.t.hd.seq, .int .i64 x.e.t.hd.life, .int .i64 x.e.t.level, .bool x.e.t.over, .slice x.s.ea x.e.t.es.length x.s.ec, .slice x.s.ra x.e.t.rs.length x.s.rc, .int .i64 x.e.exp] 78)).drew) := ((Below.refl _ _).alloc (Nat.le_refl _) _).drew
  all_goals have E2 : Arr ((w1.alloc (.cells #[.int .i64 x.e.t.hd.id.d, .int .i64 x.e.t.hd.id.o, .int .i64 x.e.t.hd.id.k, .int .i64 x.e.t.hd.id.n, .int .i64 x.e.t.hd.seq, .int .i64 x.e.t.hd.life, .int .i64 x.e.t.level, .bool x.e.t.over, .slice x.s.ea x.e.t.es.length x.s.ec, .slice x.s.ra x.e.t.rs.length x.s.rc, .int .i64 x.e.exp] 78)).drew) w1.heap.size 78 (cellsK x) := Arr.new w1 _ (cellsK x)
  all_goals generalize (w1.alloc (.cells #[.int .i64 x.e.t.hd.id.d, .int .i64 x.e.t.hd.id.o, .int .i64 x.e.t.hd.id.k, .int .i64 x.e.t.hd.id.n, .int .i64 x.e.t.hd.seq, .int .i64 x.e.t.hd.life, .int .i64 x.e.t.level, .bool x.e.t.over, .slice x.s.ea x.e.t.es.length x.s.ec, .slice x.s.ra x.e.t.rs.length x.s.rc, .int .i64 x.e.exp] 78)).drew = W2 at *
  all_goals obtain ⟨-, B2, C2, D2⟩ := HFB.out W2 H2
  all_goals have HB2 := Lib.hid B2
  all_goals have HC2 := Lib.hid C2
  all_goals have HD2 := Lib.hid D2
  all_goals have HE2 := Lib.hid E2
  all_goals have HH2 := Lib.hid H2
  all_goals clear S0 M0 hl1 hl2 SA B2 C2 D2 E2 H2 hw1
  all_goals have BB := HC2
  all_goals go_wp2_with (first
    | (go_at_call 34; refine (ht _).mono ?_; rintro e w3 ⟨rfl, hww⟩; have hww := hww.symm; subst hww)
    | (refine wpList_store_arr rfl 39 (.tmp 6) (.tmp 32) rfl (w.heap.size + 1) rfl (vs := cellsV0) rfl HB2.out sizeV rfl rfl cellsV0_one ?_; intro W5 A5 B5 hs5 O5))
  all_goals refine bodyPost_ret (results_cell2 rfl rfl A5.out Tryz.underlying39 rfl sizeV) rfl ?_
  all_goals unfold FindE
  all_goals rw [HG.out]
  all_goals exact ⟨⟨none, 0, none, 0⟩, rfl, rd2_nil _, BB.out.trans (B5.out.mono (by omega)), fun q => by cases q⟩
set_option maxHeartbeats 3200000 in
set_option maxRecDepth 100000 in
theorem dfind_over {w : World} {n0 pb mb : Nat} {room : Int} {K : List EnT} (h : ProgD w n0 pb mb room K) {L : List EnK} (hL : MapV w mb (L.map entK)) (hp : (L.map EnK.e).Perm K) (hO : ∀ x ∈ L, Own2 w n0 x.e.t x.s) (i : TId) (hi : okI i) (now : Int) (hm : momD now) (y : EnT) (hf : findD K i = some y) (ho : y.exp ≤ now) : Calls Tryz.prog 32 #[.pointer (some ⟨pb, 0, none⟩), .agg #[.int .i64 i.d, .int .i64 i.o, .int .i64 i.k, .int .i64 i.n], .int .i64 now] w (FindE L K i now w) := by
  obtain ⟨x, hx1, hx2, hx3⟩ := h.lookL hL hp hi
  rw [hf] at hx2
  obtain ⟨x, rfl⟩ : ∃ z, x = some z := by cases x; cases hx2; exact ⟨_, rfl⟩
  obtain rfl : x.e = y := Option.some.inj hx2
  obtain ⟨hxL, hxK⟩ := hx3 x rfl
  have hown := hO x hxL
  have hxe := h.inv.ok _ hxK
  have HRD := Lib.hid (hown.rd hxe.1)
  have HOW := Lib.hid hxL
  replace hx1 : ∀ W' : World, W'.heap[mb]? = w.heap[mb]? → (Instr.lookup 59 (.map (some mb)) (.agg #[.int .i64 i.d, .int .i64 i.o, .int .i64 i.k, .int .i64 i.n]) true).run Tryz.prog W' = .ok (.tuple #[.agg #[.int .i64 x.e.t.hd.id.d, .int .i64 x.e.t.hd.id.o, .int .i64 x.e.t.hd.id.k, .int .i64 x.e.t.hd.id.n, .int .i64 x.e.t.hd.seq, .int .i64 x.e.t.hd.life, .int .i64 x.e.t.level, .bool x.e.t.over, .slice x.s.ea x.e.t.es.length x.s.ec, .slice x.s.ra x.e.t.rs.length x.s.rc, .int .i64 x.e.exp], .bool true]) W' := hx1
  clear hx2 hx3
  have HG : Hid (getD K i now = (TiV.nil, false)) := by unfold Hid; rw [findD_got hf, if_neg (fun q => by have := q.2; omega)]
  have ht := dtime_any now
  rw [decide_eq_true hm] at ht
  have hl := dleft_any x now (by have := hxe.2; unfold momD at hm; omega)
  rw [left_zero.2 ho] at hl
  unfold aggK at hl
  have HL := Lib.hid hl
  clear hL hp hO hf hm hxe hown hxK hxL ho hl
  have HP := Lib.hid h
  have hlt := h.lt
  have HBX : Hid (∀ W, Below ((w.alloc (.cells #[.int .i64 i.d, .int .i64 i.o, .int .i64 i.k, .int .i64 i.n] 33)).alloc (.cells #[.int .i64 0, .int .i64 0, .int .i64 0, .int .i64 0, .int .i64 0, .int .i64 0, .int .i64 0, .bool false, .slice none 0 0, .slice none 0 0] 39)).heap.size ((w.alloc (.cells #[.int .i64 i.d, .int .i64 i.o, .int .i64 i.k, .int .i64 i.n] 33)).alloc (.cells #[.int .i64 0, .int .i64 0, .int .i64 0, .int .i64 0, .int .i64 0, .int .i64 0, .int .i64 0, .bool false, .slice none 0 0, .slice none 0 0] 39)) W → (W.cell? ⟨pb, 1, none⟩ = some (.map (some mb)) ∧ W.cell? ⟨w.heap.size, 0, none⟩ = some (.int .i64 i.d) ∧ W.cell? ⟨w.heap.size, 1, none⟩ = some (.int .i64 i.o) ∧ W.cell? ⟨w.heap.size, 2, none⟩ = some (.int .i64 i.k) ∧ W.cell? ⟨w.heap.size, 3, none⟩ = some (.int .i64 i.n)) ∧ W.heap[mb]? = w.heap[mb]?) := fun W k => by
    obtain ⟨a, b, c, d⟩ := find_boxes w i k
    exact ⟨⟨(HP.out.below c).cells.2, a.cell 0, a.cell 1, a.cell 2, a.cell 3⟩, c.block _ hlt.2⟩
  have HFB := Lib.hid (fun W k => find_boxes w i (W := W) k)
  obtain ⟨w1, hw1⟩ : ∃ w1, ((w.alloc (.cells #[.int .i64 i.d, .int .i64 i.o, .int .i64 i.k, .int .i64 i.n] 33)).alloc (.cells #[.int .i64 0, .int .i64 0, .int .i64 0, .int .i64 0, .int .i64 0, .int .i64 0, .int .i64 0, .bool false, .slice none 0 0, .slice none 0 0] 39)) = w1 := ⟨_, rfl⟩
  have hs1 : w1.heap.size = w.heap.size + 2 := by rw [← hw1]; simp
  rw [hw1] at HBX HFB
  have S0 := (HBX.out w1.drew (Below.refl _ _).drew).1
  have M0 := (HBX.out w1.drew (Below.refl _ _).drew).2
  have hl1 := hx1 w1.drew M0
  have hl2 := fun O : Obj => hx1 (w1.alloc O).drew ((heap_alloc_old w1 O (by omega)).trans M0)
  have SA := fun O : Obj => (HBX.out (w1.drew.alloc O) ((Below.refl _ _).drew.alloc (Nat.le_refl _) O)).1
  have HW1 := Lib.hid hs1
  clear hx1 h hs1
  go_enter Tryz.func32, Tryz.ntmps32
  go_wp2
  go_region_held (fun W => W.cell? ⟨pb, 1, none⟩ = some (.map (some mb)) ∧ W.cell? ⟨w.heap.size, 0, none⟩ = some (.int .i64 i.d) ∧ W.cell? ⟨w.heap.size, 1, none⟩ = some (.int .i64 i.o) ∧ W.cell? ⟨w.heap.size, 2, none⟩ = some (.int .i64 i.k) ∧ W.cell? ⟨w.heap.size, 3, none⟩ = some (.int .i64 i.n)) (first | exact S0 | exact SA _ | exact (SA _).drew) (fail)
  all_goals have H2 : Below w1.heap.size w1 ((w1.alloc (.cells #[.int .i64 x.e.t.hd.id.d, .int .i64 x.e.t.hd.id.o, .int .i64 x.e.t.hd.id.k, .int .i64 x.e.t.hd.id.n, .int .i64 x.e.t.hd.seq, .int .i64 x.e.t.hd.life, .int .i64 x.e.t.level, .bool x.e.t.over, .slice x.s.ea x.e.t.es.length x.s.ec, .slice x.s.ra x.e.t.rs.length x.s.rc, .int .i64 x.e.exp] 78)).drew) := ((Below.refl _ _).alloc (Nat.le_refl _) _).drew
  all_goals have E2 : Arr ((w1.alloc (.cells #[.int .i64 x.e.t.hd.id.d, .int .i64 x.e.t.hd.id.o, .int .i64 x.e.t.hd.id.k, .int .i64 x.e.t.hd.id.n, .int .i64 x.e.t.hd.seq, .int .i64 x.e.t.hd.life, .int .i64 x.e.t.level, .bool x.e.t.over, .slice x.s.ea x.e.t.es.length x.s.ec, .slice x.s.ra x.e.t.rs.length x.s.rc, .int .i64 x.e.exp] 78)).drew) w1.heap.size 78 (cellsK x) := Arr.new w1 _ (cellsK x)
  all_goals generalize (w1.alloc (.cells #[.int .i64 x.e.t.hd.id.d, .int .i64 x.e.t.hd.id.o, .int .i64 x.e.t.hd.id.k, .int .i64 x.e.t.hd.id.n, .int .i64 x.e.t.hd.seq, .int .i64 x.e.t.hd.life, .int .i64 x.e.t.level, .bool x.e.t.over, .slice x.s.ea x.e.t.es.length x.s.ec, .slice x.s.ra x.e.t.rs.length x.s.rc, .int .i64 x.e.exp] 78)).drew = W2 at *
  all_goals obtain ⟨-, B2, C2, D2⟩ := HFB.out W2 H2
  all_goals have HB2 := Lib.hid B2
  all_goals have HC2 := Lib.hid C2
  all_goals have HD2 := Lib.hid D2
  all_goals have HE2 := Lib.hid E2
  all_goals have HH2 := Lib.hid H2
  all_goals clear S0 M0 hl1 hl2 SA B2 C2 D2 E2 H2 hw1
  all_goals have k0 : W2.cell? ⟨w1.heap.size, 0, none⟩ = some (.int .i64 x.e.t.hd.id.d) := HE2.out.cell 0
  all_goals have k1 : W2.cell? ⟨w1.heap.size, 1, none⟩ = some (.int .i64 x.e.t.hd.id.o) := HE2.out.cell 1
  all_goals have k2 : W2.cell? ⟨w1.heap.size, 2, none⟩ = some (.int .i64 x.e.t.hd.id.k) := HE2.out.cell 2
  all_goals have k3 : W2.cell? ⟨w1.heap.size, 3, none⟩ = some (.int .i64 x.e.t.hd.id.n) := HE2.out.cell 3
  all_goals have k4 : W2.cell? ⟨w1.heap.size, 4, none⟩ = some (.int .i64 x.e.t.hd.seq) := HE2.out.cell 4
  all_goals have k5 : W2.cell? ⟨w1.heap.size, 5, none⟩ = some (.int .i64 x.e.t.hd.life) := HE2.out.cell 5
  all_goals have k6 : W2.cell? ⟨w1.heap.size, 6, none⟩ = some (.int .i64 x.e.t.level) := HE2.out.cell 6
  all_goals have k7 : W2.cell? ⟨w1.heap.size, 7, none⟩ = some (.bool x.e.t.over) := HE2.out.cell 7
  all_goals have k8 : W2.cell? ⟨w1.heap.size, 8, none⟩ = some (.slice x.s.ea x.e.t.es.length x.s.ec) := HE2.out.cell 8
  all_goals have k9 : W2.cell? ⟨w1.heap.size, 9, none⟩ = some (.slice x.s.ra x.e.t.rs.length x.s.rc) := HE2.out.cell 9
  all_goals have k10 : W2.cell? ⟨w1.heap.size, 10, none⟩ = some (.int .i64 x.e.exp) := HE2.out.cell 10
  all_goals go_wp2_with (first
    | (go_at_call 34; refine (ht _).mono ?_; rintro e w3 ⟨rfl, hww⟩; have hww := hww.symm; subst hww)
    | (go_at_call 42; refine (HL.out _).mono ?_; rintro e w4 ⟨rfl, hb4⟩; have B4 := Lib.hid (HB2.out.below hb4 (by have := HD2.out; omega)); have BB := Lib.hid (HC2.out.trans (hb4.mono (by have := HD2.out; omega))); clear hb4)
    | (refine wpList_store_arr rfl 39 (.tmp 6) (.tmp 32) rfl (w.heap.size + 1) rfl (vs := cellsV0) rfl B4.out sizeV rfl rfl cellsV0_one ?_; intro W5 A5 B5 hs5 O5))
  all_goals refine bodyPost_ret (results_cell2 rfl rfl A5.out Tryz.underlying39 rfl sizeV) rfl ?_
  all_goals unfold FindE
  all_goals rw [HG.out]
  all_goals exact ⟨⟨none, 0, none, 0⟩, rfl, rd2_nil _, BB.out.trans (B5.out.mono (by omega)), fun q => by cases q⟩
set_option maxHeartbeats 3200000 in
set_option maxRecDepth 100000 in
theorem dfind_yes {w : World} {n0 pb mb : Nat} {room : Int} {K : List EnT} (h : ProgD w n0 pb mb room K) {L : List EnK} (hL : MapV w mb (L.map entK)) (hp : (L.map EnK.e).Perm K) (hO : ∀ x ∈ L, Own2 w n0 x.e.t x.s) (i : TId) (hi : okI i) (now : Int) (hm : momD now) (y : EnT) (hf : findD K i = some y) (ho : now < y.exp) : Calls Tryz.prog 32 #[.pointer (some ⟨pb, 0, none⟩), .agg #[.int .i64 i.d, .int .i64 i.o, .int .i64 i.k, .int .i64 i.n], .int .i64 now] w (FindE L K i now w) := by
  obtain ⟨x, hx1, hx2, hx3⟩ := h.lookL hL hp hi
  rw [hf] at hx2
  obtain ⟨x, rfl⟩ : ∃ z, x = some z := by cases x; cases hx2; exact ⟨_, rfl⟩
  obtain rfl : x.e = y := Option.some.inj hx2
  obtain ⟨hxL, hxK⟩ := hx3 x rfl
  have hown := hO x hxL
  have hxe := h.inv.ok _ hxK
  have HRD := Lib.hid (hown.rd hxe.1)
  have HOW := Lib.hid hxL
  replace hx1 : ∀ W' : World, W'.heap[mb]? = w.heap[mb]? → (Instr.lookup 59 (.map (some mb)) (.agg #[.int .i64 i.d, .int .i64 i.o, .int .i64 i.k, .int .i64 i.n]) true).run Tryz.prog W' = .ok (.tuple #[.agg #[.int .i64 x.e.t.hd.id.d, .int .i64 x.e.t.hd.id.o, .int .i64 x.e.t.hd.id.k, .int .i64 x.e.t.hd.id.n, .int .i64 x.e.t.hd.seq, .int .i64 x.e.t.hd.life, .int .i64 x.e.t.level, .bool x.e.t.over, .slice x.s.ea x.e.t.es.length x.s.ec, .slice x.s.ra x.e.t.rs.length x.s.rc, .int .i64 x.e.exp], .bool true]) W' := hx1
  clear hx2 hx3
  have HG : Hid (getD K i now = (toldD x.e now, true)) := by unfold Hid; rw [findD_got hf, if_pos ⟨hm, ho⟩]
  have ht := dtime_any now
  rw [decide_eq_true hm] at ht
  have hb : -9223372036854775808 ≤ x.e.exp - now ∧ x.e.exp - now ≤ 9223372036854775807 := by have := hxe.2; unfold momD at hm; omega
  have hl := dleft_any x now hb
  have HA := Lib.hid (dat_any x now hb)
  obtain ⟨lf, hlf⟩ : ∃ lf, leftD x.e now = lf := ⟨_, rfl⟩
  have hne : ¬ lf = 0 := by rw [← hlf, left_zero]; omega
  rw [hlf] at hl
  unfold aggK at hl HA
  have HL := Lib.hid hl
  clear hL hp hO hf hm hxe hown hxK hxL ho hl hb hlf
  have HP := Lib.hid h
  have hlt := h.lt
  have HBX : Hid (∀ W, Below ((w.alloc (.cells #[.int .i64 i.d, .int .i64 i.o, .int .i64 i.k, .int .i64 i.n] 33)).alloc (.cells #[.int .i64 0, .int .i64 0, .int .i64 0, .int .i64 0, .int .i64 0, .int .i64 0, .int .i64 0, .bool false, .slice none 0 0, .slice none 0 0] 39)).heap.size ((w.alloc (.cells #[.int .i64 i.d, .int .i64 i.o, .int .i64 i.k, .int .i64 i.n] 33)).alloc (.cells #[.int .i64 0, .int .i64 0, .int .i64 0, .int .i64 0, .int .i64 0, .int .i64 0, .int .i64 0, .bool false, .slice none 0 0, .slice none 0 0] 39)) W → (W.cell? ⟨pb, 1, none⟩ = some (.map (some mb)) ∧ W.cell? ⟨w.heap.size, 0, none⟩ = some (.int .i64 i.d) ∧ W.cell? ⟨w.heap.size, 1, none⟩ = some (.int .i64 i.o) ∧ W.cell? ⟨w.heap.size, 2, none⟩ = some (.int .i64 i.k) ∧ W.cell? ⟨w.heap.size, 3, none⟩ = some (.int .i64 i.n)) ∧ W.heap[mb]? = w.heap[mb]?) := fun W k => by
    obtain ⟨a, b, c, d⟩ := find_boxes w i k
    exact ⟨⟨(HP.out.below c).cells.2, a.cell 0, a.cell 1, a.cell 2, a.cell 3⟩, c.block _ hlt.2⟩
  have HFB := Lib.hid (fun W k => find_boxes w i (W := W) k)
  obtain ⟨w1, hw1⟩ : ∃ w1, ((w.alloc (.cells #[.int .i64 i.d, .int .i64 i.o, .int .i64 i.k, .int .i64 i.n] 33)).alloc (.cells #[.int .i64 0, .int .i64 0, .int .i64 0, .int .i64 0, .int .i64 0, .int .i64 0, .int .i64 0, .bool false, .slice none 0 0, .slice none 0 0] 39)) = w1 := ⟨_, rfl⟩
  have hs1 : w1.heap.size = w.heap.size + 2 := by rw [← hw1]; simp
  rw [hw1] at HBX HFB
  have S0 := (HBX.out w1.drew (Below.refl _ _).drew).1
  have M0 := (HBX.out w1.drew (Below.refl _ _).drew).2
  have hl1 := hx1 w1.drew M0
  have hl2 := fun O : Obj => hx1 (w1.alloc O).drew ((heap_alloc_old w1 O (by omega)).trans M0)
  have SA := fun O : Obj => (HBX.out (w1.drew.alloc O) ((Below.refl _ _).drew.alloc (Nat.le_refl _) O)).1
  have HW1 := Lib.hid hs1
  clear hx1 h hs1
  go_enter Tryz.func32, Tryz.ntmps32
  go_wp2
  go_region_held (fun W => W.cell? ⟨pb, 1, none⟩ = some (.map (some mb)) ∧ W.cell? ⟨w.heap.size, 0, none⟩ = some (.int .i64 i.d) ∧ W.cell? ⟨w.heap.size, 1, none⟩ = some (.int .i64 i.o) ∧ W.cell? ⟨w.heap.size, 2, none⟩ = some (.int .i64 i.k) ∧ W.cell? ⟨w.heap.size, 3, none⟩ = some (.int .i64 i.n)) (first | exact S0 | exact SA _ | exact (SA _).drew) (fail)
  all_goals have H2 : Below w1.heap.size w1 ((w1.alloc (.cells #[.int .i64 x.e.t.hd.id.d, .int .i64 x.e.t.hd.id.o, .int .i64 x.e.t.hd.id.k, .int .i64 x.e.t.hd.id.n, .int .i64 x.e.t.hd.seq, .int .i64 x.e.t.hd.life, .int .i64 x.e.t.level, .bool x.e.t.over, .slice x.s.ea x.e.t.es.length x.s.ec, .slice x.s.ra x.e.t.rs.length x.s.rc, .int .i64 x.e.exp] 78)).drew) := ((Below.refl _ _).alloc (Nat.le_refl _) _).drew
  all_goals have E2 : Arr ((w1.alloc (.cells #[.int .i64 x.e.t.hd.id.d, .int .i64 x.e.t.hd.id.o, .int .i64 x.e.t.hd.id.k, .int .i64 x.e.t.hd.id.n, .int .i64 x.e.t.hd.seq, .int .i64 x.e.t.hd.life, .int .i64 x.e.t.level, .bool x.e.t.over, .slice x.s.ea x.e.t.es.length x.s.ec, .slice x.s.ra x.e.t.rs.length x.s.rc, .int .i64 x.e.exp] 78)).drew) w1.heap.size 78 (cellsK x) := Arr.new w1 _ (cellsK x)
  all_goals generalize (w1.alloc (.cells #[.int .i64 x.e.t.hd.id.d, .int .i64 x.e.t.hd.id.o, .int .i64 x.e.t.hd.id.k, .int .i64 x.e.t.hd.id.n, .int .i64 x.e.t.hd.seq, .int .i64 x.e.t.hd.life, .int .i64 x.e.t.level, .bool x.e.t.over, .slice x.s.ea x.e.t.es.length x.s.ec, .slice x.s.ra x.e.t.rs.length x.s.rc, .int .i64 x.e.exp] 78)).drew = W2 at *
  all_goals obtain ⟨-, B2, C2, D2⟩ := HFB.out W2 H2
  all_goals have HB2 := Lib.hid B2
  all_goals have HC2 := Lib.hid C2
  all_goals have HD2 := Lib.hid D2
  all_goals have HE2 := Lib.hid E2
  all_goals have HH2 := Lib.hid H2
  all_goals clear S0 M0 hl1 hl2 SA B2 C2 D2 E2 H2 hw1
  all_goals have k0 : W2.cell? ⟨w1.heap.size, 0, none⟩ = some (.int .i64 x.e.t.hd.id.d) := HE2.out.cell 0
  all_goals have k1 : W2.cell? ⟨w1.heap.size, 1, none⟩ = some (.int .i64 x.e.t.hd.id.o) := HE2.out.cell 1
  all_goals have k2 : W2.cell? ⟨w1.heap.size, 2, none⟩ = some (.int .i64 x.e.t.hd.id.k) := HE2.out.cell 2
  all_goals have k3 : W2.cell? ⟨w1.heap.size, 3, none⟩ = some (.int .i64 x.e.t.hd.id.n) := HE2.out.cell 3
  all_goals have k4 : W2.cell? ⟨w1.heap.size, 4, none⟩ = some (.int .i64 x.e.t.hd.seq) := HE2.out.cell 4
  all_goals have k5 : W2.cell? ⟨w1.heap.size, 5, none⟩ = some (.int .i64 x.e.t.hd.life) := HE2.out.cell 5
  all_goals have k6 : W2.cell? ⟨w1.heap.size, 6, none⟩ = some (.int .i64 x.e.t.level) := HE2.out.cell 6
  all_goals have k7 : W2.cell? ⟨w1.heap.size, 7, none⟩ = some (.bool x.e.t.over) := HE2.out.cell 7
  all_goals have k8 : W2.cell? ⟨w1.heap.size, 8, none⟩ = some (.slice x.s.ea x.e.t.es.length x.s.ec) := HE2.out.cell 8
  all_goals have k9 : W2.cell? ⟨w1.heap.size, 9, none⟩ = some (.slice x.s.ra x.e.t.rs.length x.s.rc) := HE2.out.cell 9
  all_goals have k10 : W2.cell? ⟨w1.heap.size, 10, none⟩ = some (.int .i64 x.e.exp) := HE2.out.cell 10
  all_goals go_wp2_with (first
    | (go_at_call 34; refine (ht _).mono ?_; rintro e w3 ⟨rfl, hww⟩; have hww := hww.symm; subst hww)
    | (go_at_call 42; refine (HL.out _).mono ?_; rintro e w4 ⟨rfl, hb4⟩; have B4 := Lib.hid (HB2.out.below hb4 (by have := HD2.out; omega)); have E4 : Hid (Arr w4 w1.heap.size 78 [.int .i64 x.e.t.hd.id.d, .int .i64 x.e.t.hd.id.o, .int .i64 x.e.t.hd.id.k, .int .i64 x.e.t.hd.id.n, .int .i64 x.e.t.hd.seq, .int .i64 x.e.t.hd.life, .int .i64 x.e.t.level, .bool x.e.t.over, .slice x.s.ea x.e.t.es.length x.s.ec, .slice x.s.ra x.e.t.rs.length x.s.rc, .int .i64 x.e.exp]) := HE2.out.below hb4 HE2.out.lt; have D4 := Lib.hid (Nat.le_trans HD2.out hb4.size); have C4 := Lib.hid (HC2.out.trans (hb4.mono (by have := HD2.out; omega))); clear hb4)
    | (refine wpList_load_arr rfl 78 (.tmp 8) rfl w1.heap.size rfl E4.out Tryz.underlying78 rfl sizeK rfl ?_)
    | (go_at_call 38; refine (HA.out _).mono ?_; rintro e w6 ⟨rfl, hb6⟩; have B6 := Lib.hid (B4.out.below hb6 (by have := D4.out; omega)); have BB := Lib.hid (C4.out.trans (hb6.mono (by have := D4.out; omega))); clear hb6)
    | (refine wpList_store_arr rfl 39 (.tmp 6) (.tmp 35) rfl (w.heap.size + 1) rfl (vs := cellsV (toldD x.e now) x.s) rfl B6.out sizeV rfl rfl (cellsV_one _ _) ?_; intro W5 A5 B5 hs5 O5))
  all_goals refine bodyPost_ret (results_cell2 rfl rfl A5.out Tryz.underlying39 rfl sizeV) rfl ?_
  all_goals unfold FindE
  all_goals rw [HG.out]
  all_goals have BE := BB.out.trans (B5.out.mono (by omega))
  all_goals exact ⟨x.s, rfl, (rd2_told HRD.out now).below BE, BE, fun _ => ⟨x, HOW.out, rfl, rfl⟩⟩
theorem dfindL {w : World} {n0 pb mb : Nat} {room : Int} {K : List EnT} (h : ProgD w n0 pb mb room K) {L : List EnK} (hL : MapV w mb (L.map entK)) (hp : (L.map EnK.e).Perm K) (hO : ∀ x ∈ L, Own2 w n0 x.e.t x.s) (i : TId) (hi : okI i) (now : Int) : Calls Tryz.prog 32 #[.pointer (some ⟨pb, 0, none⟩), .agg #[.int .i64 i.d, .int .i64 i.o, .int .i64 i.k, .int .i64 i.n], .int .i64 now] w (FindE L K i now w) := by
  cases hf : findD K i with
  | none => exact dfind_none h hL hp hO i hi now hf
  | some y =>
    by_cases hm : momD now
    · by_cases ho : y.exp ≤ now
      · exact dfind_over h hL hp hO i hi now hm y hf ho
      · exact dfind_yes h hL hp hO i hi now hm y hf (by omega)
    · exact dfind_time h hL hp hO i hi now hm y hf
theorem dfind_any {w : World} {n0 pb mb : Nat} {room : Int} {K : List EnT} (h : ProgD w n0 pb mb room K) (i : TId) (hi : okI i) (now : Int) : Calls Tryz.prog 32 #[.pointer (some ⟨pb, 0, none⟩), .agg #[.int .i64 i.d, .int .i64 i.o, .int .i64 i.k, .int .i64 i.n], .int .i64 now] w (fun e w' => ∃ s, e = .returned (.tuple #[aggV (getD K i now).1 s, .bool (getD K i now).2]) ∧ Rd2 w' (getD K i now).1 s ∧ Below w.heap.size w w') := by
  obtain ⟨L, hL, hp, hO⟩ := h.has
  refine (dfindL h hL hp hO i hi now).mono ?_
  rintro e w' ⟨s, h1, h2, h3, _⟩
  exact ⟨s, h1, h2, h3⟩
end Go.Proofs.YtpaooddmgcekhaaGreat.ti
