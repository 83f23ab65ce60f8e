/-
  THE PROGRAM'S Get, Drop.
-/
import Derived.Test.YtpaooddmgcekhaaGreatVFind
namespace Go.Proofs.YtpaooddmgcekhaaGreat.ti
set_option linter.unusedSimpArgs false
set_option linter.unusedVariables false
open Go.RowKit
def GetE (K : List EnT) (i : TId) (now : Int) (w : World) (e : Ending) (w' : World) : Prop :=
  ∃ s, e = .returned (.tuple #[aggV (getD K i now).1 s, .bool (getD K i now).2]) ∧ Own2 w' w.heap.size (getD K i now).1 s ∧ Below w.heap.size w w'
set_option maxHeartbeats 3200000 in
set_option maxRecDepth 100000 in
theorem dget_any {w : World} {n0 pb mb : Nat} {room : Int} {K : List EnT} (h : ProgD w n0 pb mb room K) (i : TId) (hi : okI i) (now : Int) : Calls Tryz.prog 16 #[.pointer (some ⟨pb, 0, none⟩), .agg #[.int .i64 i.d, .int .i64 i.o, .int .i64 i.k, .int .i64 i.n], .int .i64 now] w (GetE K i now w) := by
  have hf : Hid (∀ W, Below w.heap.size w W → Calls Tryz.prog 32 #[.pointer (some ⟨pb, 0, none⟩), .agg #[.int .i64 i.d, .int .i64 i.o, .int .i64 i.k, .int .i64 i.n], .int .i64 now] W (fun e w' => ∃ s, e = .returned (.tuple #[aggV (getD K i now).1 s, .bool (getD K i now).2]) ∧ Rd2 w' (getD K i now).1 s ∧ Below W.heap.size W w')) := fun W k => dfind_any (h.below k) i hi now
  unfold GetE
  obtain ⟨T, hT⟩ : ∃ T, (getD K i now).1 = T := ⟨_, rfl⟩
  obtain ⟨b, hb⟩ : ∃ b, (getD K i now).2 = b := ⟨_, rfl⟩
  rw [hT, hb] at hf ⊢
  unfold aggV at hf
  have HFB := Lib.hid (fun W k => find_boxes w i (W := W) k)
  obtain ⟨w1, hw1⟩ : ∃ w1, ((w.alloc (.cells #[.int .i64 i.d, .int .i64 i.o, .int .i64 i.k, .int .i64 i.n] 33)).alloc (.cells #[.int .i64 0, .int .i64 0, .int .i64 0, .int .i64 0, .int .i64 0, .int .i64 0, .int .i64 0, .bool false, .slice none 0 0, .slice none 0 0] 39)) = w1 := ⟨_, rfl⟩
  rw [hw1] at HFB
  obtain ⟨A1, B1, C1, D1⟩ := HFB.out w1 (Below.refl _ _)
  have a0 : w1.cell? ⟨w.heap.size, 0, none⟩ = some (.int .i64 i.d) := A1.cell 0
  have a1 : w1.cell? ⟨w.heap.size, 1, none⟩ = some (.int .i64 i.o) := A1.cell 1
  have a2 : w1.cell? ⟨w.heap.size, 2, none⟩ = some (.int .i64 i.k) := A1.cell 2
  have a3 : w1.cell? ⟨w.heap.size, 3, none⟩ = some (.int .i64 i.n) := A1.cell 3
  have HB1 := Lib.hid B1
  have HC1 := Lib.hid C1
  have HD1 := Lib.hid D1
  clear h hT hb A1 B1 C1 D1 HFB
  go_enter Tryz.func16, Tryz.ntmps16
  go_wp2_with (first
    | (go_at_call 32; refine (hf.out w1 HC1.out).mono ?_; rintro e w3 ⟨s, rfl, hr3, hb3⟩; have B3 : Hid (Arr (w3.alloc (.cells #[.int .i64 T.hd.id.d, .int .i64 T.hd.id.o, .int .i64 T.hd.id.k, .int .i64 T.hd.id.n, .int .i64 T.hd.seq, .int .i64 T.hd.life, .int .i64 T.level, .bool T.over, .slice s.ea T.es.length s.ec, .slice s.ra T.rs.length s.rc] 39)) (w.heap.size + 1) 39 cellsV0) := (HB1.out.below hb3 (by have := HD1.out; omega)).alloc _; have A3 : Hid (Arr (w3.alloc (.cells #[.int .i64 T.hd.id.d, .int .i64 T.hd.id.o, .int .i64 T.hd.id.k, .int .i64 T.hd.id.n, .int .i64 T.hd.seq, .int .i64 T.hd.life, .int .i64 T.level, .bool T.over, .slice s.ea T.es.length s.ec, .slice s.ra T.rs.length s.rc] 39)) w3.heap.size 39 [.int .i64 T.hd.id.d, .int .i64 T.hd.id.o, .int .i64 T.hd.id.k, .int .i64 T.hd.id.n, .int .i64 T.hd.seq, .int .i64 T.hd.life, .int .i64 T.level, .bool T.over, .slice s.ea T.es.length s.ec, .slice s.ra T.rs.length s.rc]) := Arr.new w3 _ _; have C3 : Hid (Below w.heap.size w (w3.alloc (.cells #[.int .i64 T.hd.id.d, .int .i64 T.hd.id.o, .int .i64 T.hd.id.k, .int .i64 T.hd.id.n, .int .i64 T.hd.seq, .int .i64 T.hd.life, .int .i64 T.level, .bool T.over, .slice s.ea T.es.length s.ec, .slice s.ra T.rs.length s.rc] 39))) := (HC1.out.trans (hb3.mono (by have := HD1.out; omega))).alloc (by have := HD1.out; have := hb3.size; omega) _; have D3 : Hid (w.heap.size + 2 ≤ (w3.alloc (.cells #[.int .i64 T.hd.id.d, .int .i64 T.hd.id.o, .int .i64 T.hd.id.k, .int .i64 T.hd.id.n, .int .i64 T.hd.seq, .int .i64 T.hd.life, .int .i64 T.level, .bool T.over, .slice s.ea T.es.length s.ec, .slice s.ra T.rs.length s.rc] 39)).heap.size) := (by have := HD1.out; have := hb3.size; unfold Hid; simp; omega); have R3 : Hid (Rd2 (w3.alloc (.cells #[.int .i64 T.hd.id.d, .int .i64 T.hd.id.o, .int .i64 T.hd.id.k, .int .i64 T.hd.id.n, .int .i64 T.hd.seq, .int .i64 T.hd.life, .int .i64 T.level, .bool T.over, .slice s.ea T.es.length s.ec, .slice s.ra T.rs.length s.rc] 39)) T s) := hr3.below ((Below.refl _ _).alloc (Nat.le_refl _) _); clear hr3 hb3)
    | (refine wpList_load_arr rfl 39 (.tmp 8) rfl w3.heap.size rfl A3.out Tryz.underlying39 rfl sizeV rfl ?_)
    | (go_at_call 29; refine (down_any T s _ R3.out).mono ?_; rintro e w4 ⟨s4, rfl, ho4, hb4⟩; have B4 := Lib.hid (B3.out.below hb4 (by have := D3.out; omega)); have C4 := Lib.hid (C3.out.trans (hb4.mono (by have := D3.out; omega))); have O4 : Hid (Own2 w4 (w.heap.size + 2) T s4) := (⟨ho4.e.mono D3.out, ho4.r.mono D3.out⟩); clear ho4 hb4)
    | (refine wpList_store_arr rfl 39 (.tmp 6) (.tmp 18) rfl (w.heap.size + 1) rfl (vs := cellsV T s4) rfl B4.out sizeV rfl rfl (cellsV_one _ _) ?_; intro W5 A5 B5 hs5 O5))
  refine bodyPost_ret (results_cell2 rfl rfl A5.out Tryz.underlying39 rfl sizeV) rfl ?_
  exact ⟨s4, rfl, ⟨(O4.out.e.same fun g hg => O5.out g (by have := (World.ownsRow.lt O4.out.e g hg).1; omega)).mono (by omega), (O4.out.r.same fun g hg => O5.out g (by have := (World.ownsRow.lt O4.out.r g hg).1; omega)).mono (by omega)⟩, C4.out.trans (B5.out.mono (by omega))⟩
/-- What Drop leaves. -/
def DropE (room : Int) (K : List EnT) (i : TId) (n0 pb mb : Nat) (w : World) (e : Ending) (w' : World) : Prop :=
  e = .returned (.bool (findD K i).isSome) ∧ ProgD w' n0 pb mb room (restD K i) ∧ w.grownBy w' (some mb)
/-- A piece is struck. -/
theorem ProgD.strike {V : World} {n0 pb mb : Nat} {room : Int} {K : List EnT} (hV : ProgD V n0 pb mb room K) {i : TId} (hi : ti.okI i) (ty : TypeId) :
    ∃ V', (Builtin.delete_ #[59, 33] ty #[.map (some mb), .agg #[.int .i64 i.d, .int .i64 i.o, .int .i64 i.k, .int .i64 i.n]]).run Tryz.prog V = .ok (.tuple #[]) V' ∧ ProgD V' n0 pb mb room (restD K i) ∧ V.mapTurned V' mb := by
  obtain ⟨L, hL, hp, hO⟩ := hV.has
  obtain ⟨V', h1, h2, h3⟩ := hL.drop mapKd hi ty
  rw [restV_map] at h2
  exact ⟨V', h1, hV.turn h3 (hV.inv.drop i) _ h2 (by rw [restK_e]; exact restD_perm hp i) fun x hx => hO x (List.mem_filter.1 hx).1, h3⟩
set_option maxHeartbeats 3200000 in
set_option maxRecDepth 100000 in
theorem ddrop_none {w : World} {n0 pb mb : Nat} {room : Int} {K : List EnT} (h : ProgD w n0 pb mb room K) (i : TId) (hi : okI i) (hf : findD K i = none) : Calls Tryz.prog 18 #[.pointer (some ⟨pb, 0, none⟩), .agg #[.int .i64 i.d, .int .i64 i.o, .int .i64 i.k, .int .i64 i.n]] w (DropE room K i n0 pb mb w) := by
  unfold DropE
  rw [hf]
  obtain ⟨x, hx1, hx2, _⟩ := h.look hi
  rw [hf] at hx2
  obtain rfl : x = none := by cases x; rfl; cases hx2
  replace hx1 : ∀ W' : World, W'.heap[mb]? = w.heap[mb]? → (Instr.lookup 59 (.map (some mb)) (.agg #[.int .i64 i.d, .int .i64 i.o, .int .i64 i.k, .int .i64 i.n]) true).run Tryz.prog W' = .ok (.tuple #[.agg #[.int .i64 0, .int .i64 0, .int .i64 0, .int .i64 0, .int .i64 0, .int .i64 0, .int .i64 0, .bool false, .slice none 0 0, .slice none 0 0, .int .i64 0], .bool false]) W' := hx1
  clear hx2
  have HP := Lib.hid h
  have hlt := h.lt
  have HI := Lib.hid hi
  have HBX : Hid (∀ W, Below (w.alloc (.cells #[.int .i64 i.d, .int .i64 i.o, .int .i64 i.k, .int .i64 i.n] 33)).heap.size (w.alloc (.cells #[.int .i64 i.d, .int .i64 i.o, .int .i64 i.k, .int .i64 i.n] 33)) W → (W.cell? ⟨pb, 1, none⟩ = some (.map (some mb)) ∧ W.cell? ⟨w.heap.size, 0, none⟩ = some (.int .i64 i.d) ∧ W.cell? ⟨w.heap.size, 1, none⟩ = some (.int .i64 i.o) ∧ W.cell? ⟨w.heap.size, 2, none⟩ = some (.int .i64 i.k) ∧ W.cell? ⟨w.heap.size, 3, none⟩ = some (.int .i64 i.n)) ∧ W.heap[mb]? = w.heap[mb]? ∧ Below w.heap.size w W ∧ Arr W w.heap.size 33 [.int .i64 i.d, .int .i64 i.o, .int .i64 i.k, .int .i64 i.n]) := fun W k => by
    have a0 : Arr (w.alloc (.cells #[.int .i64 i.d, .int .i64 i.o, .int .i64 i.k, .int .i64 i.n] 33)) w.heap.size 33 [.int .i64 i.d, .int .i64 i.o, .int .i64 i.k, .int .i64 i.n] := Arr.new w 33 [.int .i64 i.d, .int .i64 i.o, .int .i64 i.k, .int .i64 i.n]
    have c : Below w.heap.size w W := ((Below.refl _ w).alloc (Nat.le_refl _) _).trans (k.mono (by simp))
    have a := a0.below k (by simp)
    exact ⟨⟨(HP.out.below c).cells.2, a.cell 0, a.cell 1, a.cell 2, a.cell 3⟩, c.block _ hlt.2, c, a⟩
  obtain ⟨w1, hw1⟩ : ∃ w1, (w.alloc (.cells #[.int .i64 i.d, .int .i64 i.o, .int .i64 i.k, .int .i64 i.n] 33)) = w1 := ⟨_, rfl⟩
  have hs1 : w1.heap.size = w.heap.size + 1 := by rw [← hw1]; simp
  rw [hw1] at HBX
  have S0 := (HBX.out w1.drew (Below.refl _ _).drew).1
  have M0 := (HBX.out w1.drew (Below.refl _ _).drew).2.1
  have hl1 := hx1 w1.drew M0
  have hl2 := fun O : Obj => hx1 (w1.alloc O).drew ((heap_alloc_old w1 O (by omega)).trans M0)
  have SA := fun O : Obj => (HBX.out (w1.drew.alloc O) ((Below.refl _ _).drew.alloc (Nat.le_refl _) O)).1
  clear hx1 h hs1 hf hi
  go_enter Tryz.func18, Tryz.ntmps18
  go_wp2
  go_region_held (fun W => W.cell? ⟨pb, 1, none⟩ = some (.map (some mb)) ∧ W.cell? ⟨w.heap.size, 0, none⟩ = some (.int .i64 i.d) ∧ W.cell? ⟨w.heap.size, 1, none⟩ = some (.int .i64 i.o) ∧ W.cell? ⟨w.heap.size, 2, none⟩ = some (.int .i64 i.k) ∧ W.cell? ⟨w.heap.size, 3, none⟩ = some (.int .i64 i.n)) (first | exact S0 | exact SA _ | exact (SA _).drew) (fail)
  all_goals have H2 : Below w1.heap.size w1 ((w1.alloc (.cells #[.int .i64 0, .int .i64 0, .int .i64 0, .int .i64 0, .int .i64 0, .int .i64 0, .int .i64 0, .bool false, .slice none 0 0, .slice none 0 0, .int .i64 0] 78)).drew) := ((Below.refl _ _).alloc (Nat.le_refl _) _).drew
  all_goals generalize (w1.alloc (.cells #[.int .i64 0, .int .i64 0, .int .i64 0, .int .i64 0, .int .i64 0, .int .i64 0, .int .i64 0, .bool false, .slice none 0 0, .slice none 0 0, .int .i64 0] 78)).drew = W2 at *
  all_goals have X2 := HBX.out W2.drew H2.drew
  all_goals have S2 := X2.1
  all_goals have C2 := Lib.hid X2.2.2.1
  all_goals have A2 := X2.2.2.2
  all_goals clear S0 M0 hl1 hl2 SA X2
  all_goals obtain ⟨W3, hdel, hp3, ht3⟩ := (HP.out.below C2.out).strike HI.out 0
  all_goals have A3 := (KeepC.turned ht3).arr A2
  all_goals have S3 : W3.cell? ⟨pb, 1, none⟩ = some (.map (some mb)) ∧ W3.cell? ⟨w.heap.size, 0, none⟩ = some (.int .i64 i.d) ∧ W3.cell? ⟨w.heap.size, 1, none⟩ = some (.int .i64 i.o) ∧ W3.cell? ⟨w.heap.size, 2, none⟩ = some (.int .i64 i.k) ∧ W3.cell? ⟨w.heap.size, 3, none⟩ = some (.int .i64 i.n) := ⟨hp3.cells.2, A3.cell 0, A3.cell 1, A3.cell 2, A3.cell 3⟩
  all_goals have HE := Lib.hid (And.intro hp3 ((grown_below C2.out (some mb)).andThen ht3.grown (fun j e => .inr e)))
  all_goals clear A2 A3 hp3 ht3
  all_goals go_wp2
  all_goals go_region_held (fun W => W.cell? ⟨pb, 1, none⟩ = some (.map (some mb)) ∧ W.cell? ⟨w.heap.size, 0, none⟩ = some (.int .i64 i.d) ∧ W.cell? ⟨w.heap.size, 1, none⟩ = some (.int .i64 i.o) ∧ W.cell? ⟨w.heap.size, 2, none⟩ = some (.int .i64 i.k) ∧ W.cell? ⟨w.heap.size, 3, none⟩ = some (.int .i64 i.n)) (first | exact S2 | exact S3 | assumption) (fail)
  all_goals go_wp2
  all_goals go_ret
  all_goals exact ⟨rfl, HE.out.1, HE.out.2⟩
set_option maxHeartbeats 3200000 in
set_option maxRecDepth 100000 in
theorem ddrop_some {w : World} {n0 pb mb : Nat} {room : Int} {K : List EnT} (h : ProgD w n0 pb mb room K) (i : TId) (hi : okI i) (y : EnT) (hf : findD K i = some y) : Calls Tryz.prog 18 #[.pointer (some ⟨pb, 0, none⟩), .agg #[.int .i64 i.d, .int .i64 i.o, .int .i64 i.k, .int .i64 i.n]] w (DropE room K i n0 pb mb w) := by
  unfold DropE
  rw [hf]
  obtain ⟨x, hx1, hx2, hx3⟩ := h.look hi
  rw [hf] at hx2
  obtain ⟨x, rfl⟩ : ∃ z, x = some z := by cases x; cases hx2; exact ⟨_, rfl⟩
  replace hx1 : ∀ W' : World, W'.heap[mb]? = w.heap[mb]? → (Instr.lookup 59 (.map (some mb)) (.agg #[.int .i64 i.d, .int .i64 i.o, .int .i64 i.k, .int .i64 i.n]) true).run Tryz.prog W' = .ok (.tuple #[.agg #[.int .i64 x.e.t.hd.id.d, .int .i64 x.e.t.hd.id.o, .int .i64 x.e.t.hd.id.k, .int .i64 x.e.t.hd.id.n, .int .i64 x.e.t.hd.seq, .int .i64 x.e.t.hd.life, .int .i64 x.e.t.level, .bool x.e.t.over, .slice x.s.ea x.e.t.es.length x.s.ec, .slice x.s.ra x.e.t.rs.length x.s.rc, .int .i64 x.e.exp], .bool true]) W' := hx1
  clear hx2 hx3
  have HP := Lib.hid h
  have hlt := h.lt
  have HI := Lib.hid hi
  have HBX : Hid (∀ W, Below (w.alloc (.cells #[.int .i64 i.d, .int .i64 i.o, .int .i64 i.k, .int .i64 i.n] 33)).heap.size (w.alloc (.cells #[.int .i64 i.d, .int .i64 i.o, .int .i64 i.k, .int .i64 i.n] 33)) W → (W.cell? ⟨pb, 1, none⟩ = some (.map (some mb)) ∧ W.cell? ⟨w.heap.size, 0, none⟩ = some (.int .i64 i.d) ∧ W.cell? ⟨w.heap.size, 1, none⟩ = some (.int .i64 i.o) ∧ W.cell? ⟨w.heap.size, 2, none⟩ = some (.int .i64 i.k) ∧ W.cell? ⟨w.heap.size, 3, none⟩ = some (.int .i64 i.n)) ∧ W.heap[mb]? = w.heap[mb]? ∧ Below w.heap.size w W ∧ Arr W w.heap.size 33 [.int .i64 i.d, .int .i64 i.o, .int .i64 i.k, .int .i64 i.n]) := fun W k => by
    have a0 : Arr (w.alloc (.cells #[.int .i64 i.d, .int .i64 i.o, .int .i64 i.k, .int .i64 i.n] 33)) w.heap.size 33 [.int .i64 i.d, .int .i64 i.o, .int .i64 i.k, .int .i64 i.n] := Arr.new w 33 [.int .i64 i.d, .int .i64 i.o, .int .i64 i.k, .int .i64 i.n]
    have c : Below w.heap.size w W := ((Below.refl _ w).alloc (Nat.le_refl _) _).trans (k.mono (by simp))
    have a := a0.below k (by simp)
    exact ⟨⟨(HP.out.below c).cells.2, a.cell 0, a.cell 1, a.cell 2, a.cell 3⟩, c.block _ hlt.2, c, a⟩
  obtain ⟨w1, hw1⟩ : ∃ w1, (w.alloc (.cells #[.int .i64 i.d, .int .i64 i.o, .int .i64 i.k, .int .i64 i.n] 33)) = w1 := ⟨_, rfl⟩
  have hs1 : w1.heap.size = w.heap.size + 1 := by rw [← hw1]; simp
  rw [hw1] at HBX
  have S0 := (HBX.out w1.drew (Below.refl _ _).drew).1
  have M0 := (HBX.out w1.drew (Below.refl _ _).drew).2.1
  have hl1 := hx1 w1.drew M0
  have hl2 := fun O : Obj => hx1 (w1.alloc O).drew ((heap_alloc_old w1 O (by omega)).trans M0)
  have SA := fun O : Obj => (HBX.out (w1.drew.alloc O) ((Below.refl _ _).drew.alloc (Nat.le_refl _) O)).1
  clear hx1 h hs1 hf hi
  go_enter Tryz.func18, Tryz.ntmps18
  go_wp2
  go_region_held (fun W => W.cell? ⟨pb, 1, none⟩ = some (.map (some mb)) ∧ W.cell? ⟨w.heap.size, 0, none⟩ = some (.int .i64 i.d) ∧ W.cell? ⟨w.heap.size, 1, none⟩ = some (.int .i64 i.o) ∧ W.cell? ⟨w.heap.size, 2, none⟩ = some (.int .i64 i.k) ∧ W.cell? ⟨w.heap.size, 3, none⟩ = some (.int .i64 i.n)) (first | exact S0 | exact SA _ | exact (SA _).drew) (fail)
  all_goals have H2 : Below w1.heap.size w1 ((w1.alloc (.cells #[.int .i64 x.e.t.hd.id.d, .int .i64 x.e.t.hd.id.o, .int .i64 x.e.t.hd.id.k, .int .i64 x.e.t.hd.id.n, .int .i64 x.e.t.hd.seq, .int .i64 x.e.t.hd.life, .int .i64 x.e.t.level, .bool x.e.t.over, .slice x.s.ea x.e.t.es.length x.s.ec, .slice x.s.ra x.e.t.rs.length x.s.rc, .int .i64 x.e.exp] 78)).drew) := ((Below.refl _ _).alloc (Nat.le_refl _) _).drew
  all_goals generalize (w1.alloc (.cells #[.int .i64 x.e.t.hd.id.d, .int .i64 x.e.t.hd.id.o, .int .i64 x.e.t.hd.id.k, .int .i64 x.e.t.hd.id.n, .int .i64 x.e.t.hd.seq, .int .i64 x.e.t.hd.life, .int .i64 x.e.t.level, .bool x.e.t.over, .slice x.s.ea x.e.t.es.length x.s.ec, .slice x.s.ra x.e.t.rs.length x.s.rc, .int .i64 x.e.exp] 78)).drew = W2 at *
  all_goals have X2 := HBX.out W2.drew H2.drew
  all_goals have S2 := X2.1
  all_goals have C2 := Lib.hid X2.2.2.1
  all_goals have A2 := X2.2.2.2
  all_goals clear S0 M0 hl1 hl2 SA X2
  all_goals obtain ⟨W3, hdel, hp3, ht3⟩ := (HP.out.below C2.out).strike HI.out 0
  all_goals have A3 := (KeepC.turned ht3).arr A2
  all_goals have S3 : W3.cell? ⟨pb, 1, none⟩ = some (.map (some mb)) ∧ W3.cell? ⟨w.heap.size, 0, none⟩ = some (.int .i64 i.d) ∧ W3.cell? ⟨w.heap.size, 1, none⟩ = some (.int .i64 i.o) ∧ W3.cell? ⟨w.heap.size, 2, none⟩ = some (.int .i64 i.k) ∧ W3.cell? ⟨w.heap.size, 3, none⟩ = some (.int .i64 i.n) := ⟨hp3.cells.2, A3.cell 0, A3.cell 1, A3.cell 2, A3.cell 3⟩
  all_goals have HE := Lib.hid (And.intro hp3 ((grown_below C2.out (some mb)).andThen ht3.grown (fun j e => .inr e)))
  all_goals clear A2 A3 hp3 ht3
  all_goals go_wp2
  all_goals go_region_held (fun W => W.cell? ⟨pb, 1, none⟩ = some (.map (some mb)) ∧ W.cell? ⟨w.heap.size, 0, none⟩ = some (.int .i64 i.d) ∧ W.cell? ⟨w.heap.size, 1, none⟩ = some (.int .i64 i.o) ∧ W.cell? ⟨w.heap.size, 2, none⟩ = some (.int .i64 i.k) ∧ W.cell? ⟨w.heap.size, 3, none⟩ = some (.int .i64 i.n)) (first | exact S2 | exact S3 | assumption) (fail)
  all_goals go_wp2
  all_goals go_ret
  all_goals exact ⟨rfl, HE.out.1, HE.out.2⟩
theorem ddrop_any {w : World} {n0 pb mb : Nat} {room : Int} {K : List EnT} (h : ProgD w n0 pb mb room K) (i : TId) (hi : okI i) : Calls Tryz.prog 18 #[.pointer (some ⟨pb, 0, none⟩), .agg #[.int .i64 i.d, .int .i64 i.o, .int .i64 i.k, .int .i64 i.n]] w (DropE room K i n0 pb mb w) := by
  cases hf : findD K i with
  | none => exact ddrop_none h i hi hf
  | some y => exact ddrop_some h i hi y hf
end Go.Proofs.YtpaooddmgcekhaaGreat.ti
