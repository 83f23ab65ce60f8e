/-
  THE DOCUMENT'S Some.
-/
import Derived.Test.YtbgilngpkogapaaGSome
namespace Go.Proofs.Ytbgilngpkogapaa.ti
set_option linter.unusedSimpArgs false
set_option linter.unusedVariables false
open Go.RowKit
theorem cells10 {W : World} {g o : Nat} {x : TS} (h : W.rangeAt g o (encT x)) : W.cell? ⟨g, o, none⟩ = some (.int .i64 x.t.hd.id.d) ∧ W.cell? ⟨g, o + 1, none⟩ = some (.int .i64 x.t.hd.id.o) ∧ W.cell? ⟨g, o + 2, none⟩ = some (.int .i64 x.t.hd.id.k) ∧ W.cell? ⟨g, o + 3, none⟩ = some (.int .i64 x.t.hd.id.n) ∧ W.cell? ⟨g, o + 4, none⟩ = some (.int .i64 x.t.hd.seq) ∧ W.cell? ⟨g, o + 5, none⟩ = some (.int .i64 x.t.hd.life) ∧ W.cell? ⟨g, o + 6, none⟩ = some (.int .i64 x.t.level) ∧ W.cell? ⟨g, o + 7, none⟩ = some (.bool x.t.over) ∧ W.cell? ⟨g, o + 8, none⟩ = some (.slice x.s.ea x.t.es.length x.s.ec) ∧ W.cell? ⟨g, o + 9, none⟩ = some (.slice x.s.ra x.t.rs.length x.s.rc) :=
  ⟨h 0 _ rfl, h 1 _ rfl, h 2 _ rfl, h 3 _ rfl, h 4 _ rfl, h 5 _ rfl, h 6 _ rfl, h 7 _ rfl, h 8 _ rfl, h 9 _ rfl⟩
theorem cells7 {W : World} {b : Nat} {s : ScD} (h : Arr W b 26 (cellsSc s)) : W.cell? ⟨b, 0, none⟩ = some (.int .i64 s.self) ∧ W.cell? ⟨b, 1, none⟩ = some (.int .i64 s.level) ∧ W.cell? ⟨b, 2, none⟩ = some (.bool s.top) ∧ W.cell? ⟨b, 3, none⟩ = some (.int .i64 s.node) ∧ W.cell? ⟨b, 4, none⟩ = some (.int .i64 s.link) ∧ W.cell? ⟨b, 5, none⟩ = some (.int .i64 s.olev) ∧ W.cell? ⟨b, 6, none⟩ = some (.int .i64 s.nonce) :=
  ⟨h.cell 0, h.cell 1, h.cell 2, h.cell 3, h.cell 4, h.cell 5, h.cell 6⟩
/-- What the document's Some has gathered. -/
structure SomeR (W w1 : World) (s : ScD) (l : List TS) (v : Value) (out : List TS) : Prop where
  own : OwnE 35 10 encT W w1.heap.size v out
  val : out = l.filter fun x => goesG x.t s
  bel : Below w1.heap.size w1 W
theorem SomeR.below {W W' w1 : World} {s : ScD} {l out : List TS} {v : Value} (h : SomeR W w1 s l v out) (k : Below W.heap.size W W') : SomeR W' w1 s l v out := ⟨h.own.below k, h.val, h.bel.trans (k.mono h.bel.size)⟩
theorem filt_take {s : ScD} {l : List TS} {i : Nat} {x : TS} (h : l[i]? = some x) : (l.take (i + 1)).filter (fun x => goesG x.t s) = if goesG x.t s then (l.take i).filter (fun x => goesG x.t s) ++ [x] else (l.take i).filter (fun x => goesG x.t s) := by
  rw [List.take_add_one, h, List.filter_append]
  cases h : goesG x.t s <;> simp [h]
set_option maxHeartbeats 3200000 in
set_option maxRecDepth 100000 in
theorem rsome_any (s : ScD) (a : Option Addr) (c : Nat) (l : List TS) (hl : l.length ≤ 200) (w : World) (h : InL w a l) :
    Calls Try.prog 12 #[.slice a l.length c, aggSc s] w fun e w' => ∃ A cc out, e = .returned (.slice A out.length cc) ∧ OwnE 35 10 encT w' w.heap.size (.slice A out.length cc) out ∧ InL w' A out ∧ out.map (fun x => x.t) = goT s l ∧ Below w.heap.size w w' := by
  have HI := Lib.hid h
  obtain ⟨w1, hw1⟩ : ∃ w1, w.alloc (.cells #[.int .i64 s.self, .int .i64 s.level, .bool s.top, .int .i64 s.node, .int .i64 s.link, .int .i64 s.olev, .int .i64 s.nonce] 26) = w1 := ⟨_, rfl⟩
  have HB1 : Hid (Below w.heap.size w w1) := by rw [← hw1]; exact below_box _ _
  have HA1 : Hid (Arr w1 w.heap.size 26 (cellsSc s)) := by rw [← hw1]; exact Arr.new _ _ _
  have HW := Lib.hid hw1
  obtain ⟨m, hm⟩ : ∃ m, l.length = m := ⟨_, rfl⟩
  have HM := Lib.hid hm
  rw [hm] at hl ⊢
  clear hm h hw1
  unfold aggSc
  go_enter Try.func12, Try.ntmps12
  go_wp2
  rw [HW.out]
  go_loopw [5, 6] (fun sv iv wr => ∃ (i : Nat) (out : List TS) (A : Option Addr) (k cc : Nat), i ≤ m ∧ iv = .int .i64 i ∧ sv = .slice A k cc ∧ Hid (SomeR wr w1 s (l.take i) (.slice A k cc) out)) (fun _ iv _ => m - (intOf iv).toNat)
  case atStart => exact ⟨0, [], none, 0, 0, by omega, rfl, rfl, ⟨OwnE.nil _ _, rfl, Below.refl _ _⟩⟩
  case round =>
    obtain ⟨i, out, A, k, cc, him, rfl, rfl, HS⟩ := hrel
    by_cases hlt : i < m
    · obtain ⟨x, hx⟩ : ∃ x, l[i]? = some x := ⟨_, List.getElem?_eq_getElem (by have := HM.out; omega)⟩
      have hin := (HI.out.below HB1.out).below HS.out.bel
      obtain ⟨g, o, rfl, hg, hc⟩ := hin.row i x hx
      have hc := hc
      have HC := Lib.hid hc
      have HX := Lib.hid hx
      obtain ⟨p0, p1, p2, p3, p4, p5, p6, p7, p8, p9⟩ := cells10 hc
      obtain ⟨q0, q1, q2, q3, q4, q5, q6⟩ := cells7 (HA1.out.below HS.out.bel HA1.out.lt)
      have hlt2 : (i : Int) < m := by omega
      have HOL : Hid (out.length ≤ 200) := by
        have := HS.out.val
        have h2 := HM.out
        have h3 : out.length ≤ (l.take i).length := by rw [this]; exact List.length_filter_le _ _
        rw [List.length_take] at h3
        unfold Hid; omega
      clear hc hx hin
      cases hgo : goesG x.t s
      · have HG := Lib.hid hgo
        clear hgo
        go_wp2
        go_region_with ((go_at_call 9; refine (rgoes_any x.t x.s s _).mono ?_; rintro e w2 ⟨he, hb2⟩; unfold SaysG at he; subst he; rw [HG.out]; have B2 : Hid (Below wr.heap.size wr w2) := (Below.refl wr.heap.size wr).drew.trans hb2; clear hb2))
        all_goals go_wp2
        all_goals exact ⟨⟨i + 1, out, A, k, cc, by omega, by go_num, rfl, by have h1 := HS.out.below B2.out; exact ⟨h1.own, by rw [filt_take HX.out, HG.out]; exact h1.val, h1.bel⟩⟩, by simp [intOf]; omega⟩
      · have HG := Lib.hid hgo
        clear hgo
        go_wp2
        go_region_with ((go_at_call 9; refine (rgoes_any x.t x.s s _).mono ?_; rintro e w2 ⟨he, hb2⟩; unfold SaysG at he; subst he; rw [HG.out]; have B2 : Hid (Below wr.heap.size wr w2) := (Below.refl wr.heap.size wr).drew.trans hb2; clear hb2))
        all_goals clear p0 p1 p2 p3 p4 p5 p6 p7 p8 p9
        all_goals have HC2 : Hid (w2.rangeAt g (o + i * 10) (encT x)) := fun j v hv => (B2.out.cell (p := ⟨g, o + i * 10 + j, none⟩) hg).trans (HC.out j v hv)
        all_goals go_wp2_with (first
          | (refine wpList_load_mid rfl 35 (.tmp 24) rfl g (o + i * 10) rfl [.int .i64 x.t.hd.id.d, .int .i64 x.t.hd.id.o, .int .i64 x.t.hd.id.k, .int .i64 x.t.hd.id.n, .int .i64 x.t.hd.seq, .int .i64 x.t.hd.life, .int .i64 x.t.level, .bool x.t.over, .slice x.s.ea x.t.es.length x.s.ec, .slice x.s.ra x.t.rs.length x.s.rc] _ HC2.out Try.underlying35 rfl sizeV ?_)
          | (at_builtin; have h5 := (HS.out.below B2.out).below (below_box w2 (.cells (encT x).toArray 35)); refine kindP.wp_append rfl (.tmp 21) (.tmp 26) rfl w1.heap.size (.slice A k cc) out rfl h5.own (some ⟨w2.heap.size, 0, none⟩) [x] 1 1 rfl rfl (rd_oneE kindP w2 x) (by have := HOL.out; unfold maxLen; simp; omega) (by have := HOL.out; simp; omega) h5.bel.size ?_; intro A6 n6 c6 w6 hn6 ho6 hb6 hg6; have HS6 : Hid (SomeR w6 w1 s (l.take (i + 1)) (.slice A6 n6 c6) (out ++ [x])) := ⟨ho6, (by rw [filt_take HX.out, HG.out, h5.val]; rfl), h5.bel.trans hb6⟩; clear h5 hn6 ho6 hb6 hg6))
        all_goals exact ⟨⟨i + 1, out ++ [x], A6, n6, c6, by omega, by go_num, rfl, HS6⟩, by simp [intOf]; omega⟩
    · obtain rfl : i = m := by omega
      go_wp2
      go_ret
      have h1 := HS.out
      rw [List.take_of_length_le (by have := HM.out; omega)] at h1
      obtain ⟨hk, _⟩ := own_slice h1.own
      subst hk
      refine ⟨A, cc, out, rfl, h1.own.mono HB1.out.size, ⟨kindP.rd h1.own, fun x hx => ?_⟩, by rw [h1.val]; rfl, HB1.out.trans (h1.bel.mono HB1.out.size)⟩
      rw [h1.val] at hx
      exact ((HI.out.below HB1.out).below h1.bel).all x (List.mem_filter.1 hx).1
end Go.Proofs.Ytbgilngpkogapaa.ti
