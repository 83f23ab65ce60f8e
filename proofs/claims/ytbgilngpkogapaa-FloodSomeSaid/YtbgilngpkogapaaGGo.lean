/-
  WHETHER A PIECE GOES: the program's Goes, the document's.
-/
import Derived.Test.YtbgilngpkogapaaGRul
namespace Go.Proofs.Ytbgilngpkogapaa.ti
set_option linter.unusedSimpArgs false
set_option linter.unusedVariables false
open Go.RowKit
theorem goesG_rules (t : TiV) (s : ScD) : (keptG (cmpG s.olev s.level) 5).any (fitsG t s) = goesG t s := by
  unfold cmpG goesG
  rcases Int.lt_trichotomy s.olev s.level with h | h | h
  · rw [if_pos h]
    rw [show keptG (-1) 5 = [2] from by decide]
    have h1 : ¬ s.level < s.olev := by omega
    have h2 : ¬ s.olev = s.level := by omega
    simp only [List.any_cons, List.any_nil, fitsG, dirG, ansG, Bool.or_false, if_neg h1, if_neg h2, decide_false, Bool.false_and, decide_eq_false h1]
    by_cases d2 : t.hd.id.d = 2
    · rw [if_pos d2, d2, decide_eq_false h2]; rfl
    · rw [if_neg d2]
      by_cases d1 : t.hd.id.d = 1
      · rw [if_pos d1, d1]; rfl
      · rw [if_neg d1, decide_eq_false (fun q => d1 q.symm)]; rfl
  · rw [if_neg (by omega), if_neg (by omega)]
    rw [show keptG 0 5 = [1, 3] from by decide]
    have h1 : ¬ s.level < s.olev := by omega
    simp only [List.any_cons, List.any_nil, fitsG, dirG, ansG, Bool.or_false, if_neg h1, if_pos h, decide_eq_false h1, decide_eq_true h, Bool.false_or, Bool.true_and]
    by_cases d2 : t.hd.id.d = 2
    · rw [if_pos d2, d2]; simp
    · rw [if_neg d2, decide_eq_false (fun q => d2 q.symm)]
      by_cases d1 : t.hd.id.d = 1
      · rw [if_pos d1, d1]; simp
      · rw [if_neg d1, decide_eq_false (fun q => d1 q.symm)]; rfl
  · rw [if_neg (by omega), if_pos h]
    rw [show keptG 1 5 = [0, 4] from by decide]
    simp only [List.any_cons, List.any_nil, fitsG, dirG, ansG, Bool.or_false, if_pos h, decide_eq_true h, Bool.true_or, Bool.and_true]
    by_cases d2 : t.hd.id.d = 2
    · rw [if_pos d2, d2]; simp
    · rw [if_neg d2, decide_eq_false (fun q => d2 q.symm)]
      by_cases d1 : t.hd.id.d = 1
      · rw [if_pos d1, d1]; simp
      · rw [if_neg d1, decide_eq_false (fun q => d1 q.symm)]; rfl
theorem kept_le (s : ScD) : (keptG (cmpG s.olev s.level) 5).length ≤ 9223372036854775807 := by have := kept_end (cmpG_ok s.olev s.level); omega
/-- A piece's box and a neighbour's. -/
structure TwoG (w W : World) (t : TiV) (l : Sl2) (s : ScD) : Prop where
  b0 : Arr W w.heap.size 35 (cellsV t l)
  b1 : Arr W (w.heap.size + 1) 26 (cellsSc s)
  bel : Below w.heap.size w W
theorem TwoG.below {w W W' : World} {t : TiV} {l : Sl2} {s : ScD} (h : TwoG w W t l s) (k : Below W.heap.size W W') : TwoG w W' t l s := ⟨h.b0.below k h.b0.lt, h.b1.below k h.b1.lt, h.bel.trans (k.mono h.bel.size)⟩
theorem TwoG.new (w : World) (t : TiV) (l : Sl2) (s : ScD) : TwoG w ((w.alloc (.cells #[.int .i64 t.hd.id.d, .int .i64 t.hd.id.o, .int .i64 t.hd.id.k, .int .i64 t.hd.id.n, .int .i64 t.hd.seq, .int .i64 t.hd.life, .int .i64 t.level, .bool t.over, .slice l.ea t.es.length l.ec, .slice l.ra t.rs.length l.rc] 35)).alloc (.cells #[.int .i64 s.self, .int .i64 s.level, .bool s.top, .int .i64 s.node, .int .i64 s.link, .int .i64 s.olev, .int .i64 s.nonce] 26)) t l s := by
  refine ⟨(Arr.new w 35 (cellsV t l)).alloc _, ?_, (below_box _ _).trans ((below_box _ _).mono (by simp))⟩
  have := Arr.new (w.alloc (.cells (cellsV t l).toArray 35)) 26 (cellsSc s)
  rw [show (w.alloc (.cells (cellsV t l).toArray 35)).heap.size = w.heap.size + 1 from by simp] at this
  exact this
theorem TwoG.drew {w W : World} {t : TiV} {l : Sl2} {s : ScD} (h : TwoG w W t l s) : TwoG w W.drew t l s := ⟨h.b0, h.b1, h.bel.drew⟩
theorem TwoG.cells {w W : World} {t : TiV} {l : Sl2} {s : ScD} (h : TwoG w W t l s) : W.cell? ⟨w.heap.size, 0, none⟩ = some (.int .i64 t.hd.id.d) ∧ W.cell? ⟨w.heap.size, 1, none⟩ = some (.int .i64 t.hd.id.o) ∧ W.cell? ⟨w.heap.size, 2, none⟩ = some (.int .i64 t.hd.id.k) ∧ W.cell? ⟨w.heap.size, 3, none⟩ = some (.int .i64 t.hd.id.n) ∧ W.cell? ⟨w.heap.size, 4, none⟩ = some (.int .i64 t.hd.seq) ∧ W.cell? ⟨w.heap.size, 5, none⟩ = some (.int .i64 t.hd.life) ∧ W.cell? ⟨w.heap.size, 6, none⟩ = some (.int .i64 t.level) ∧ W.cell? ⟨w.heap.size, 7, none⟩ = some (.bool t.over) ∧ W.cell? ⟨w.heap.size, 8, none⟩ = some (.slice l.ea t.es.length l.ec) ∧ W.cell? ⟨w.heap.size, 9, none⟩ = some (.slice l.ra t.rs.length l.rc) :=
  ⟨h.b0.cell 0, h.b0.cell 1, h.b0.cell 2, h.b0.cell 3, h.b0.cell 4, h.b0.cell 5, h.b0.cell 6, h.b0.cell 7, h.b0.cell 8, h.b0.cell 9⟩
set_option maxHeartbeats 3200000 in
set_option maxRecDepth 100000 in
theorem pgoes_any (t : TiV) (l : Sl2) (s : ScD) (w : World) : Calls Try.prog 8 #[aggV t l, aggSc s] w fun e w' => e = .returned (.bool (goesG t s)) ∧ Below w.heap.size w w' := by
  have HT := Lib.hid (TwoG.new w t l s).drew
  have HG := Lib.hid (goesG_rules t s)
  unfold aggV aggSc
  go_enter Try.func8, Try.ntmps8
  go_wp2
  go_region_with ((first
    | (go_at_call 14; refine (rules_any s _).mono ?_; rintro e w1 ⟨sb, o1, o2, rb, n, rfl, hr, hb⟩; have HR := Lib.hid hr; have HT1 := Lib.hid (HT.out.below hb); obtain ⟨c0, c1, c2, c3, c4, c5, c6, c7, c8, c9⟩ := HT1.out.cells; clear hr hb)
    | (go_at_call 13; obtain ⟨hlen⟩ : Nonempty (n = (keptG (cmpG s.olev s.level) 5).length) := ⟨HR.out.len⟩; subst hlen; refine (allow_any t l sb o1 o2 s (some ⟨rb, 0, none⟩) 5 (keptG (cmpG s.olev s.level) 5) (kept_le s) _ HR.out.env HR.out.row).mono ?_; rintro e w2 ⟨rfl, hb⟩; rw [HG.out]; have B2 := Lib.hid (HT1.out.bel.trans (hb.mono HT1.out.bel.size)); clear hb)))
  all_goals go_wp2
  all_goals go_ret
  all_goals exact ⟨rfl, B2.out⟩
end Go.Proofs.Ytbgilngpkogapaa.ti
