/-
  LISTS OF PIECES; a piece with lists of its own; the program's Some, the document's.
-/
import Derived.Test.YtbgilngpkogapaaGRef
namespace Go.Proofs.Ytbgilngpkogapaa.ti
set_option linter.unusedSimpArgs false
set_option linter.unusedVariables false
open Go.RowKit
/-- A piece, and where its lists lie. -/
structure TS where
  t : TiV
  s : Sl2
def encT (x : TS) : List Value := cellsV x.t x.s
theorem kindP : KindE 22 35 10 112 (.agg #[.int .i64 0, .int .i64 0, .int .i64 0, .int .i64 0, .int .i64 0, .int .i64 0, .int .i64 0, .bool false, .slice none 0 0, .slice none 0 0]) encT := ⟨by kernel_rfl, by kernel_rfl, rfl, by decide, fun _ => rfl, fun x u hu => by simp [encT, cellsV] at hu; rcases hu with rfl | rfl | rfl | rfl | rfl | rfl | rfl | rfl | rfl | rfl <;> rfl⟩
/-- A list of pieces that may be read. -/
structure InL (W : World) (a : Option Addr) (l : List TS) : Prop where
  row : RdE 10 encT W a l
  all : ∀ x ∈ l, Rd2 W x.t x.s
theorem InL.below {W W' : World} {a : Option Addr} {l : List TS} (h : InL W a l) (k : Below W.heap.size W W') : InL W' a l := ⟨h.row.below k, fun x hx => (h.all x hx).below k⟩
theorem Own2.rdOf {W W0 : World} {n0 : Nat} {t : TiV} {s s0 : Sl2} (h : Own2 W n0 t s) (h0 : Rd2 W0 t s0) : Rd2 W t s := by
  have h1 := own_slice h.e
  have h2 := own_slice h.r
  exact ⟨kindE.rd h.e, kindR.rd h.r, ⟨h0.le.1, h1.2.1, h1.2.2.1⟩, ⟨h0.lr.1, h2.2.1, h2.2.2.1⟩, h1.2.2.2, h2.2.2.2, h0.ok⟩
theorem rd_oneE {E : Type} {sl T : TypeId} {sz bytes : Nat} {z : Value} {enc : E → List Value} (K : KindE sl T sz bytes z enc) (W : World) (x : E) : RdE sz enc (W.alloc (.cells (enc x).toArray T)) (some ⟨W.heap.size, 0, none⟩) [x] := fun j p hj => by
  match j, hj with
  | 0, hj =>
    simp at hj; subst hj
    refine ⟨W.heap.size, 0, rfl, by simp, fun i v hv => ?_⟩
    have := (Arr.new W T (enc x)).cell i
    rw [show 0 + 0 * sz + i = i by omega, this]
    exact hv
  | j + 1, hj => simp at hj
/-- Pieces with lists of one's own. -/
def OwnL (W : World) (base : Nat) (l : List TS) : Prop := ∀ x ∈ l, Own2 W base x.t x.s
theorem OwnL.below {W W' : World} {base : Nat} {l : List TS} (h : OwnL W base l) (k : Below W.heap.size W W') : OwnL W' base l := fun x hx => ⟨(h x hx).e.below k, (h x hx).r.below k⟩
theorem OwnL.grown {W W' : World} {base b2 : Nat} {l m : List TS} {v : Value} (h : OwnL W base l) (hv : OwnE 35 10 encT W b2 v m) (hg : W.grownBy W' v.ownBlock) : OwnL W' base l := fun x hx => (h x hx).same fun j cs T fr hj hT => by
  rw [hg.block j (Array.getElem?_eq_some_iff.1 hj).1 ?_]
  · exact hj
  · intro e
    obtain ⟨cur, hc⟩ := hv.block e.symm
    rw [hj] at hc
    injection hc with hc
    injection hc with _ h2 _
    rcases hT with rfl | rfl <;> cases h2
theorem OwnL.cons {W : World} {base : Nat} {l : List TS} {x : TS} (h : OwnL W base l) (hx : Own2 W base x.t x.s) : OwnL W base (l ++ [x]) := fun y hy => by
  rcases List.mem_append.1 hy with h1 | h1
  · exact h y h1
  · simp at h1; subst h1; exact hx
set_option maxHeartbeats 3200000 in
set_option maxRecDepth 100000 in
theorem fown_any (t : TiV) (s : Sl2) (w : World) (h : Rd2 w t s) : Calls Try.prog 16 #[aggV t s] w fun e w' => ∃ s', e = .returned (aggV t s') ∧ Own2 w' w.heap.size t s' ∧ Below w.heap.size w w' := by
  have HE : Hid (∀ W, Below w.heap.size w W → Calls Try.prog 28 #[.slice s.ea t.es.length s.ec] W fun e w' => ∃ v, e = .returned v ∧ OwnE 56 3 encEdge w' W.heap.size v t.es ∧ Below W.heap.size W w') := fun W hb => pcloneE_any s.ea t.es s.ec W (h.e.below hb) h.le.1 h.ne
  have HR : Hid (∀ W, Below w.heap.size w W → Calls Try.prog 29 #[.slice s.ra t.rs.length s.rc] W fun e w' => ∃ v, e = .returned v ∧ OwnE 61 3 encReach w' W.heap.size v t.rs ∧ Below W.heap.size W w') := fun W hb => pcloneR_any s.ra t.rs s.rc W (h.r.below hb) h.lr.1 h.nr
  have OS : OwnS w (((w.alloc (.cells #[.int .i64 t.hd.id.d, .int .i64 t.hd.id.o, .int .i64 t.hd.id.k, .int .i64 t.hd.id.n, .int .i64 t.hd.seq, .int .i64 t.hd.life, .int .i64 t.level, .bool t.over, .slice s.ea t.es.length s.ec, .slice s.ra t.rs.length s.rc] 35)).alloc (.cells #[.int .i64 0, .int .i64 0, .int .i64 0, .int .i64 0, .int .i64 0, .int .i64 0, .int .i64 0, .bool false, .slice none 0 0, .slice none 0 0] 35)).drew) t s := OwnS.new w t s
  have HS := Lib.hid OS
  obtain ⟨c8, c9, z8, z9⟩ := OS.cells
  have TE : True := trivial
  have TR : True := trivial
  clear h OS
  unfold aggV
  go_enter Try.func16, Try.ntmps16
  go_wp2
  go_region_with ((first
      | (go_at_call 28; have tt := TE; clear TE tt; with_reducible refine (HE.out _ HS.out.bel).mono ?_; rintro e w1 ⟨v1, rfl, he1, hb1⟩; have HE1 := Lib.hid (he1.mono (by have := HS.out.size; omega : w.heap.size + 2 ≤ _)); obtain ⟨a1, k1, rfl⟩ := he1.shape1; have HR0 := Lib.hid hb1; have HS0 := HS; clear HS; have HS := Lib.hid (HS0.out.step hb1); clear HS0; clear c8 c9 z8 z9; obtain ⟨c8, c9, z8, z9⟩ := HS.out.cells; clear he1 hb1)
      | (go_at_call 29; have tt := TR; clear TR tt; with_reducible refine (HR.out _ HS.out.bel).mono ?_; rintro e w1 ⟨v2, rfl, he1, hb1⟩; have HR1 := Lib.hid (he1.mono (by have := HS.out.size; omega : w.heap.size + 2 ≤ _)); obtain ⟨a2, k2, rfl⟩ := he1.shape1; have HE0 := Lib.hid hb1; have HS0 := HS; clear HS; have HS := Lib.hid (HS0.out.step hb1); clear HS0; clear c8 c9 z8 z9; obtain ⟨c8, c9, z8, z9⟩ := HS.out.cells; clear he1 hb1)
      ))
  all_goals have he : OwnE 56 3 encEdge w1 (w.heap.size + 2) (.slice a1 t.es.length k1) t.es := by first | exact HE1.out | exact HE1.out.below HE0.out
  all_goals have hr : OwnE 61 3 encReach w1 (w.heap.size + 2) (.slice a2 t.rs.length k2) t.rs := by first | exact HR1.out | exact HR1.out.below HR0.out
  all_goals have HQ := Lib.hid (own_end HS.out he hr).1
  all_goals clear he hr HE0 HR0 HE1 HR1 HS c8 c9 z8 z9 HE HR
  all_goals generalize ((w1.setCell ⟨w.heap.size, 8, none⟩ (.slice a1 t.es.length k1)).setCell ⟨w.heap.size, 9, none⟩ (.slice a2 t.rs.length k2)) = W4 at HQ ⊢
  all_goals go_wp2_with (first
    | (refine wpList_load_arr rfl 35 (.tmp 1) rfl w.heap.size rfl HQ.out.b0 Try.underlying35 rfl sizeV rfl ?_)
    | (refine wpList_store_arr rfl 35 (.tmp 2) (.tmp 11) rfl (w.heap.size + 1) rfl (vs := cellsV t ⟨a1, k1, a2, k2⟩) rfl HQ.out.b1 sizeV rfl rfl (cellsV_one _ _) ?_; intro W5 A5 B5 hs5 O5))
  all_goals refine bodyPost_ret (results_arr rfl rfl A5.out Try.underlying35 rfl sizeV rfl) rfl ?_
  all_goals exact ⟨⟨a1, k1, a2, k2⟩, rfl, ⟨(HQ.out.e.same fun g hg => O5.out g (by have := (World.ownsRow.lt HQ.out.e g hg).1; omega)).mono (by omega), (HQ.out.r.same fun g hg => O5.out g (by have := (World.ownsRow.lt HQ.out.r g hg).1; omega)).mono (by omega)⟩, HQ.out.bel.trans (B5.out.mono (by omega))⟩
theorem own2_step {W W' : World} {n0 n1 : Nat} {t : TiV} {s : Sl2} (h : Own2 W n0 t s) (hn : n1 ≤ n0) (k : Below W.heap.size W W') : Own2 W' n1 t s := ⟨(h.e.below k).mono hn, (h.r.below k).mono hn⟩
/-- Those that go. -/
def goT (s : ScD) (l : List TS) : List TiV := (l.filter fun x => goesG x.t s).map fun x => x.t
theorem goT_snoc (s : ScD) (l : List TS) (x : TS) : goT s (l ++ [x]) = if goesG x.t s then goT s l ++ [x.t] else goT s l := by
  unfold goT
  rw [List.filter_append, List.map_append]
  cases h : goesG x.t s <;> simp [h]
theorem goT_take {s : ScD} {l : List TS} {i : Nat} {x : TS} (h : l[i]? = some x) : goT s (l.take (i + 1)) = if goesG x.t s then goT s (l.take i) ++ [x.t] else goT s (l.take i) := by
  rw [List.take_add_one, h]
  exact goT_snoc s (l.take i) x
/-- What Some has gathered. -/
structure SomeG (W w1 : World) (s : ScD) (l : List TS) (v : Value) (out : List TS) : Prop where
  own : OwnE 35 10 encT W w1.heap.size v out
  ls : OwnL W w1.heap.size out
  val : out.map (fun x => x.t) = goT s l
  bel : Below w1.heap.size w1 W
theorem SomeG.below {W W' w1 : World} {s : ScD} {l out : List TS} {v : Value} (h : SomeG W w1 s l v out) (k : Below W.heap.size W W') : SomeG W' w1 s l v out := ⟨h.own.below k, h.ls.below k, h.val, h.bel.trans (k.mono h.bel.size)⟩
theorem SomeG.len {W w1 : World} {s : ScD} {l out : List TS} {v : Value} (h : SomeG W w1 s l v out) : out.length ≤ l.length := by
  have := congrArg List.length h.val
  unfold goT at this
  rw [List.length_map, List.length_map] at this
  rw [this]
  exact List.length_filter_le _ _
theorem goesG_allow (t : TiV) (sl : Sl2) (s : ScD) (W : World) (sb o1 o2 rb n : Nat) (h : RulesG W sb o1 o2 rb n s) : Calls Try.prog 13 #[aggV t sl, .slice (some ⟨rb, 0, none⟩) n 5] W fun e w' => e = .returned (.bool (goesG t s)) ∧ Below W.heap.size W w' := by
  have := allow_any t sl sb o1 o2 s (some ⟨rb, 0, none⟩) 5 (keptG (cmpG s.olev s.level) 5) (kept_le s) W h.env h.row
  rw [goesG_rules, ← h.len] at this
  exact this
set_option maxHeartbeats 3200000 in
set_option maxRecDepth 100000 in
theorem psome_any (s : ScD) (a : Option Addr) (c : Nat) (l : List TS) (hl : l.length ≤ 200) (w : World) (h : InL w a l) :
    Calls Try.prog 11 #[.slice a l.length c, aggSc s] w fun e w' => ∃ A cc out, e = .returned (.slice A out.length cc) ∧ OwnE 35 10 encT w' w.heap.size (.slice A out.length cc) out ∧ InL w' A out ∧ out.map (fun x => x.t) = goT s l ∧ Below w.heap.size w w' := by
  have HI := Lib.hid h
  have HBX : Hid (Below w.heap.size w (w.alloc (.cells #[.int .i64 s.self, .int .i64 s.level, .bool s.top, .int .i64 s.node, .int .i64 s.link, .int .i64 s.olev, .int .i64 s.nonce] 26))) := below_box _ _
  obtain ⟨m, hm⟩ : ∃ m, l.length = m := ⟨_, rfl⟩
  have HM := Lib.hid hm
  rw [hm] at hl ⊢
  clear hm h
  unfold aggSc
  go_enter Try.func11, Try.ntmps11
  go_wp2_with (go_at_call 14; refine (rules_any s _).mono ?_; rintro e w1 ⟨sb, o1, o2, rb, n, rfl, hr, hb⟩; have HR := Lib.hid hr; have HB1 := Lib.hid (HBX.out.trans (hb.mono HBX.out.size)); clear hr hb)
  go_loopw [6, 13] (fun sv iv wr => ∃ (i : Nat) (out : List TS) (A : Option Addr) (k cc : Nat), i ≤ m ∧ iv = .int .i64 i ∧ sv = .slice A k cc ∧ Hid (SomeG wr w1 s (l.take i) (.slice A k cc) out)) (fun _ iv _ => m - (intOf iv).toNat)
  case atStart => exact ⟨0, [], none, 0, 0, by omega, rfl, rfl, ⟨OwnE.nil _ _, fun x hx => by simp at hx, rfl, Below.refl _ _⟩⟩
  case round =>
    obtain ⟨i, out, A, k, cc, him, rfl, rfl, HS⟩ := hrel
    by_cases hlt : i < m
    · obtain ⟨x, hx⟩ : ∃ x, l[i]? = some x := ⟨_, List.getElem?_eq_getElem (by have := HM.out; omega)⟩
      have hin := (HI.out.below HB1.out).below HS.out.bel
      obtain ⟨g, o, rfl, hg, hc⟩ := hin.row i x hx
      have HC := Lib.hid hc
      have HRD := Lib.hid (hin.all x (List.mem_of_getElem? hx))
      have HX := Lib.hid hx
      have A0 : Hid (Arr (wr.alloc (.cells #[.int .i64 0, .int .i64 0, .int .i64 0, .int .i64 0, .int .i64 0, .int .i64 0, .int .i64 0, .bool false, .slice none 0 0, .slice none 0 0] 35)) wr.heap.size 35 cellsV0) := Arr.new _ _ _
      have hlt2 : (i : Int) < m := by omega
      have HOL : Hid (out.length ≤ 200) := by have := HS.out.len; have h2 := HM.out; rw [List.length_take] at this; unfold Hid; omega
      clear hc hx hin
      cases hgo : goesG x.t s
      · have HG := Lib.hid hgo
        clear hgo
        go_wp2_with (first
          | (refine wpList_load_mid rfl 35 (.tmp 15) rfl g (o + i * 10) rfl (encT x) _ HC.out Try.underlying35 rfl sizeV ?_)
          | (refine wpList_store_arr rfl 35 (.tmp 8) (.tmp 16) rfl wr.heap.size rfl (vs := cellsV x.t x.s) rfl A0.out sizeV rfl rfl (cellsV_one _ _) ?_; intro W3 A3 B3 hsz3 O3; have B33 : Hid (Below wr.heap.size wr W3) := (below_box _ _).trans B3.out; have R3 := Lib.hid ((HR.out.below HS.out.bel).below B33.out))
          | (go_at_call 13; refine (goesG_allow x.t x.s s _ sb o1 o2 rb n R3.out).mono ?_; rintro e w2 ⟨rfl, hb2⟩; rw [HG.out]; have A2 := Lib.hid (A3.out.below hb2 A3.out.lt); have B2 := Lib.hid (B33.out.trans (hb2.mono B33.out.size)); clear hb2)
          | (refine wpList_load_arr rfl 35 (.tmp 8) rfl wr.heap.size rfl A3.out Try.underlying35 rfl sizeV rfl ?_))
        go_roundw
        case rel => exact ⟨i + 1, out, A, k, cc, by omega, by go_num, rfl, by have h1 := HS.out.below B2.out; exact ⟨h1.own, h1.ls, by rw [goT_take HX.out, HG.out]; exact h1.val, h1.bel⟩⟩
        case measure => simp [intOf]; omega
      · have HG := Lib.hid hgo
        clear hgo
        go_wp2_with (first
          | (refine wpList_load_mid rfl 35 (.tmp 15) rfl g (o + i * 10) rfl (encT x) _ HC.out Try.underlying35 rfl sizeV ?_)
          | (refine wpList_store_arr rfl 35 (.tmp 8) (.tmp 16) rfl wr.heap.size rfl (vs := cellsV x.t x.s) rfl A0.out sizeV rfl rfl (cellsV_one _ _) ?_; intro W3 A3 B3 hsz3 O3; have B33 : Hid (Below wr.heap.size wr W3) := (below_box _ _).trans B3.out; have R3 := Lib.hid ((HR.out.below HS.out.bel).below B33.out))
          | (go_at_call 13; refine (goesG_allow x.t x.s s _ sb o1 o2 rb n R3.out).mono ?_; rintro e w2 ⟨rfl, hb2⟩; rw [HG.out]; have A2 := Lib.hid (A3.out.below hb2 A3.out.lt); have B2 := Lib.hid (B33.out.trans (hb2.mono B33.out.size)); clear hb2)
          | (refine wpList_load_arr rfl 35 (.tmp 8) rfl wr.heap.size rfl A2.out Try.underlying35 rfl sizeV rfl ?_)
          | (refine wpList_load_arr rfl 35 (.tmp 8) rfl wr.heap.size rfl A3.out Try.underlying35 rfl sizeV rfl ?_)
          | (go_at_call 16; refine (fown_any x.t x.s _ (HRD.out.below B2.out)).mono ?_; rintro e w4 ⟨s', rfl, ho, hb4⟩; have HO := Lib.hid ho; have B4 := Lib.hid (B2.out.trans (hb4.mono B2.out.size)); have BO : Hid (w1.heap.size ≤ w2.heap.size) := Nat.le_trans HS.out.bel.size B2.out.size; unfold aggV; clear ho hb4)
          | (at_builtin; have h5 := (HS.out.below B4.out).below (below_box w4 (.cells (encT ⟨x.t, s'⟩).toArray 35)); have H5 := Lib.hid h5; refine kindP.wp_append rfl (.tmp 20) (.tmp 23) rfl w1.heap.size (.slice A k cc) out rfl h5.own (some ⟨w4.heap.size, 0, none⟩) [⟨x.t, s'⟩] 1 1 rfl rfl (rd_oneE kindP w4 ⟨x.t, s'⟩) (by have := HOL.out; unfold maxLen; simp; omega) (by have := HOL.out; simp; omega) h5.bel.size ?_; intro A6 n6 c6 w6 hn6 ho6 hb6 hg6; have HS6 : Hid (SomeG w6 w1 s (l.take (i + 1)) (.slice A6 n6 c6) (out ++ [⟨x.t, s'⟩])) := ⟨ho6, (h5.ls.cons (own2_step HO.out BO.out (below_box w4 (.cells (encT ⟨x.t, s'⟩).toArray 35)))).grown h5.own hg6, (by rw [goT_take HX.out, HG.out, List.map_append, h5.val]; rfl), h5.bel.trans hb6⟩; clear h5 H5 hn6 ho6 hb6 hg6))
        go_roundw
        case rel => exact ⟨i + 1, out ++ [⟨x.t, s'⟩], A6, n6, c6, by omega, by go_num, rfl, HS6⟩
        case measure => simp [intOf]; omega
    · obtain rfl : i = m := by omega
      go_wp2
      go_ret
      have h1 := HS.out
      rw [List.take_of_length_le (by have := HM.out; omega)] at h1
      obtain ⟨hk, _⟩ := own_slice h1.own
      subst hk
      refine ⟨A, cc, out, rfl, h1.own.mono HB1.out.size, ⟨kindP.rd h1.own, fun x hx => ?_⟩, h1.val, HB1.out.trans (h1.bel.mono HB1.out.size)⟩
      have hm2 : x.t ∈ goT s l := by rw [← h1.val]; exact List.mem_map_of_mem hx
      unfold goT at hm2
      obtain ⟨y, hy, e⟩ := List.mem_map.1 hm2
      have hr := HI.out.all y (List.mem_filter.1 hy).1
      have h2 := h1.ls x hx
      rw [← e] at h2 ⊢
      exact h2.rdOf hr
end Go.Proofs.Ytbgilngpkogapaa.ti
