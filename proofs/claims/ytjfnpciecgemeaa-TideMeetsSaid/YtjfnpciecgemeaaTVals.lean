/-
  THE LIBRARY'S maps.Values at maps of heads: the iterator, for every loop body that goes on.
-/
import Derived.Test.YtjfnpciecgemeaaTKeep
import Derived.Shelf.AbstractIn
import Derived.RangeFuncMany
import Derived.RangeFuncLeaves
import Derived.RangeFuncNested
import Derived.Sort.MapsRangeIn
import Derived.Sort.KeysCollected
import Derived.OwnWalkIn
import Derived.TacticsInMore
import Derived.RegionIn
import Derived.LoopNIn
import Derived.LoopIn
import Derived.Shelf.Abstract
namespace Go.Proofs.Ytjfnpciecgemeaa.ti
set_option linter.unusedSimpArgs false
set_option linter.unusedVariables false
open Go.RowKit Go.Maps Go.Shelf Go.ChangeMaps Go.MapKept Go.WideElems
attribute [local go_sem] Oper.semAt_some
/-- The heads that came: some of the map's, each once; those that are left. -/
structure CameT (L : List THd) (left : Lit → Bool) (pre : List THd) : Prop where
  sub : ∀ x ∈ pre, x ∈ L
  nd : pre.Nodup
  lf : ∀ x ∈ L, left (keyL x.id) = true ↔ x ∉ pre
theorem perm_of_same : ∀ {l m : List THd}, l.Nodup → m.Nodup → (∀ x, x ∈ l ↔ x ∈ m) → l.Perm m
  | [], m, _, _, h => by
    cases m with
    | nil => exact List.Perm.nil
    | cons y m => exact absurd ((h y).2 (by simp)) (by simp)
  | a :: l, m, hl, hm, h => by
    obtain ⟨m1, m2, rfl⟩ := List.append_of_mem ((h a).1 (by simp))
    obtain ⟨ha, hl⟩ := List.nodup_cons.1 hl
    have hp : (m1 ++ a :: m2).Perm (a :: (m1 ++ m2)) := List.perm_middle
    obtain ⟨hb, hm⟩ := List.nodup_cons.1 (hp.nodup_iff.1 hm)
    refine ((perm_of_same hl hm fun x => ?_).cons a).trans hp.symm
    constructor
    · intro hx
      have := hp.mem_iff.1 ((h x).1 (List.mem_cons_of_mem _ hx))
      rcases List.mem_cons.1 this with rfl | q
      · exact absurd hx ha
      · exact q
    · intro hx
      have := (h x).2 (hp.mem_iff.2 (List.mem_cons_of_mem _ hx))
      rcases List.mem_cons.1 this with rfl | q
      · exact absurd hx hb
      · exact q
theorem nd_of_ids {L : List THd} (h : (L.map THd.id).Nodup) : L.Nodup := by
  refine List.Pairwise.imp ?_ (List.pairwise_map.1 (show List.Pairwise (· ≠ ·) (L.map THd.id) from h))
  rintro a b hab rfl
  exact hab rfl
theorem id_inj {L : List THd} (h : (L.map THd.id).Nodup) {x y : THd} (hx : x ∈ L) (hy : y ∈ L) (e : x.id = y.id) : x = y := by
  induction L with
  | nil => cases hx
  | cons a L ih =>
    rw [List.map_cons, List.nodup_cons] at h
    rcases List.mem_cons.1 hx with hx | hx
    · rcases List.mem_cons.1 hy with hy | hy
      · rw [hx, hy]
      · exact absurd (List.mem_map.2 ⟨y, hy, by rw [← hx]; exact e.symm⟩) h.1
    · rcases List.mem_cons.1 hy with hy | hy
      · exact absurd (List.mem_map.2 ⟨x, hx, by rw [← hy]; exact e⟩) h.1
      · exact ih h.2 hx hy
theorem CameT.all {L pre : List THd} {left : Lit → Bool} (h : CameT L left pre) (hn : (L.map THd.id).Nodup) (hl : ∀ k, left k = false) : pre.Perm L :=
  perm_of_same h.nd (nd_of_ids hn) fun x => ⟨h.sub x, fun hx => Classical.byContradiction fun q => by have := (h.lf x hx).2 q; rw [hl] at this; cases this⟩
theorem CameT.step {L pre : List THd} {left : Lit → Bool} (h : CameT L left pre) (hn : (L.map THd.id).Nodup) (hL : ∀ x ∈ L, okH x) {x : THd} (hx : x ∈ L) (hl : left (keyL x.id) = true) : CameT L (fun z => left z && !z.sameKey (keyL x.id)) (pre ++ [x]) := by
  have hnp := (h.lf x hx).1 hl
  refine ⟨fun y hy => ?_, ?_, fun y hy => ?_⟩
  · rcases List.mem_append.1 hy with q | q
    · exact h.sub y q
    · simp at q; subst q; exact hx
  · rw [List.nodup_append]
    exact ⟨h.nd, by simp, fun y hy z hz => by simp at hz; subst hz; rintro rfl; exact hnp hy⟩
  · rw [keyL_same (hL y hy).1 (hL x hx).1]
    have := h.lf y hy
    by_cases e : y = x
    · subst e; simp
    · have e2 : ¬ y.id = x.id := fun q => e (id_inj hn hy hx q)
      simp [e2, e, this]
theorem CameT.start {L : List THd} {es : List (Lit × DataW Unit)} (hp : es.Perm (L.map entT)) (hL : ∀ x ∈ L, okH x) : CameT L (has (.map es)) [] :=
  ⟨by simp, List.nodup_nil, fun x hx => by
    rw [has_L hp hL (hL x hx).1]
    refine ⟨fun _ => by simp, fun _ => ?_⟩
    rw [findT, List.find?_isSome]
    exact ⟨x, hx, by simp⟩⟩
def encsH (x : THd) : Array Value := #[.agg #[.int .i64 x.id.d, .int .i64 x.id.o, .int .i64 x.id.k, .int .i64 x.id.n, .int .i64 x.seq, .int .i64 x.life]]
set_option maxRecDepth 100000 in
set_option maxHeartbeats 4000000 in
theorem vals_in (n : Nat) (hn : 1 ≤ n) (l Bm b : Nat) (L : List THd) (J Jx : List THd → World → Prop)
    (hY : ∀ pre x W, J pre W → pre.length < L.length → YieldAt Fence.wide (n - 1) Try.prog l (encsH x) W fun e W' =>
      (e = .returned (.bool true) ∧ J (pre ++ [x]) W' ∧ KeepsWalks W W') ∨ (e = .returned (.bool false) ∧ Jx (pre ++ [x]) W'))
    (W : World) (hJ : AbidesFrom W.heap.size J) (hm : W.cell? ⟨Bm, 0, none⟩ = some (.map (some b))) (hown : MapT W b L) (h0 : J [] W) :
    CallsIn Fence.wide n Try.prog 40 #[.func (.yield l) #[] #[], .pointer (some ⟨Bm, 0, none⟩)] W fun e W' => (∃ v, e = .returned v) ∧
      ((∃ xs, xs.Perm L ∧ J xs W') ∨ (∃ pre, (∀ x ∈ pre, x ∈ L) ∧ Jx pre W')) := by
  obtain ⟨es, ho, hp, hn2, hL⟩ := hown
  have hsz : Maps.size (.map es) = L.length := by rw [size_eq, hp.length_eq, List.length_map]
  refine callsIn_of_wp Try.func40 rfl trivial ?_ rfl
  simp only [Try.ntmps40, List.size_toArray, List.length_cons, List.length_nil, Nat.reduceAdd, Nat.reduceSub, Array.replicate_succ, Array.replicate_zero, List.push_toArray, List.append_toArray, List.nil_append, List.cons_append]
  have HP := Lib.hid hp
  have HN2 := Lib.hid hn2
  have HL := Lib.hid hL
  have HSZ := Lib.hid hsz
  have HJ := Lib.hid hJ
  have H0 := Lib.hid h0
  have HY := Lib.hid hY
  clear hp hn2 hL hsz hJ h0 hY
  gi_wp2_with (first
    | (gi_at_range; refine wpListIn_range_own _ rfl _ 64 rfl 24 34 KT mapK _ b L.length _ rfl ho ?_; intro w0 hrg0 hg0 hs0)
    | gi_in)
  go_frame
  gi_loopw [4] (fun _ wr => ∃ (left : Lit → Bool) (cnt : Nat) (ps : List THd), wr.ranges Try.prog 24 headR b W.heap.size L.length (.map es) left cnt ∧ RowKit.Hid (ps.length + cnt ≤ L.length) ∧ RowKit.Hid (CameT L left ps) ∧ RowKit.Hid (J ps wr))
    (fun _ wr => wr.rangeLeft b W.heap.size)
  case atStart =>
    exact ⟨_, _, [], hrg0, by have := HSZ.out; unfold RowKit.Hid; simp; omega, CameT.start HP.out HL.out, HJ.out [] W w0 none H0.out hg0 (fun r e => by cases e)⟩
  case round =>
    obtain ⟨left, cnt, ps, hrg, hcs, hC, hJs⟩ := hrel
    gi_wp2_with (first
      | (gi_at_next; refine wpListIn_next_ranges _ rfl _ rfl 24 KT headR (fun v : Value => v) (fun x : THd => .agg #[.int .i64 x.id.d, .int .i64 x.id.o, .int .i64 x.id.k, .int .i64 x.id.n, .int .i64 x.seq, .int .i64 x.life]) (fun key kl hk => ⟨key, rfl⟩) (fun v y hv => by obtain ⟨x, rfl, _⟩ := headR_inv hv; exact ⟨x, rfl⟩) b W.heap.size L.length _ _ _ rfl hrg ?_ ?_)
      | gi_in)
    · -- NOTHING IS LEFT
      intro hc0 hl0
      gi_wp2
      go_end0
      exact ⟨⟨_, rfl⟩, .inl ⟨ps, hC.out.all HN2.out hl0, hJs.out⟩⟩
    · -- AN ENTRY HAS COME: yield(v)
      intro x c kl yd yp w2 cnt2 hkey hlk hv hat hrg2 hlt hg2 hs2 hen
      obtain ⟨hcL, hkl⟩ : c ∈ L ∧ kl = keyL c.id := by
        obtain ⟨c', ec, ez⟩ := headR_inv hv
        have hcc : c = c' := by
          unfold aggH at ec
          simp at ec
          exact THd.ext_iff.2 ⟨TId.ext ec.1 ec.2.1 ec.2.2.1 ec.2.2.2.1, ec.2.2.2.2.1, ec.2.2.2.2.2⟩
        subst hcc
        have ez := (Prod.mk.inj ez).1
        have hh : has (.map es) kl = true := by
          cases hq : has (.map es) kl with
          | true => rfl
          | false =>
            have h1 := hat .nil
            rw [atKey_of_not_has hq, ez] at h1
            unfold headD at h1
            cases h1
        rw [has_eq, List.any_eq_true] at hh
        obtain ⟨p, hpm, hpk⟩ := hh
        obtain ⟨q, hq, rfl⟩ := List.mem_map.1 (HP.out.mem_iff.1 hpm)
        have hk2 : keyL q.id = kl := WideAt.sameKey_eq hpk
        have h1 := hat .nil
        rw [← hk2, at_L HP.out HN2.out HL.out hq, ez] at h1
        have := headD_inj h1
        subst this
        exact ⟨hq, hk2.symm⟩
      subst hkl
      have hC2 := Lib.hid (hC.out.step HN2.out HL.out hcL hlk)
      obtain ⟨w3, hw3⟩ : ∃ w3, w2.alloc (.cells #[.int .i64 c.id.d, .int .i64 c.id.o, .int .i64 c.id.k, .int .i64 c.id.n, .int .i64 c.seq, .int .i64 c.life] 34) = w3 := ⟨_, rfl⟩
      have hg3 : w2.grownBy w3 none := by rw [← hw3]; exact World.grownBy_alloc w2 _ none
      have hk3 : KeepsWalks w2 w3 := by rw [← hw3]; exact KeepsWalks.alloc _ _
      have hJ2 : J ps w2 := HJ.out _ wr w2 (some W.heap.size) hJs.out hg2 (fun r e => by cases e; exact ⟨Nat.le_refl _, hrg.iter_walk⟩)
      have hJ3 : J ps w3 := HJ.out _ w2 w3 none hJ2 hg3 (fun r e => by cases e)
      obtain ⟨fn, tmps, assign, body, hy, hR⟩ := HY.out ps c w3 hJ3 (by have := hcs.out; omega)
      have HRG := Lib.hid ((hrg2.of_walks hk3))
      have HG0 := Lib.hid hrg
      have HLT := Lib.hid hlt
      have b0 := heap_alloc_new w2 (.cells #[.int .i64 c.id.d, .int .i64 c.id.o, .int .i64 c.id.k, .int .i64 c.id.n, .int .i64 c.seq, .int .i64 c.life] 34)
      rw [hw3] at b0
      unfold encsH at hy
      have c0 : w3.cell? ⟨w2.heap.size, 0, none⟩ = some (.int .i64 c.id.d) := by simp [World.cell?, b0]
      have c1 : w3.cell? ⟨w2.heap.size, 1, none⟩ = some (.int .i64 c.id.o) := by simp [World.cell?, b0]
      have c2 : w3.cell? ⟨w2.heap.size, 2, none⟩ = some (.int .i64 c.id.k) := by simp [World.cell?, b0]
      have c3 : w3.cell? ⟨w2.heap.size, 3, none⟩ = some (.int .i64 c.id.n) := by simp [World.cell?, b0]
      have c4 : w3.cell? ⟨w2.heap.size, 4, none⟩ = some (.int .i64 c.seq) := by simp [World.cell?, b0]
      have c5 : w3.cell? ⟨w2.heap.size, 5, none⟩ = some (.int .i64 c.life) := by simp [World.cell?, b0]
      clear hs2 hkey hlk hv hat hrg2 hlt hg2 hg3 hk3 hJ2 hJ3 hrg b0
      gi_wp2
      refine hR.mono ?_
      rintro e W3 (⟨rfl, hJ4, hk4⟩ | ⟨rfl, hJx4⟩)
      · have HJ4 := Lib.hid hJ4
        have HRG4 := Lib.hid (HRG.out.of_walks hk4)
        clear hJ4 hk4 c0 c1 c2 c3 c4 c5 hy hR
        gi_wp2
        go_roundw
        case rel => exact ⟨_, cnt2, ps ++ [c], HRG4.out, by have := hcs.out; have := HLT.out; unfold RowKit.Hid; simp; omega, hC2.out, HJ4.out⟩
        case measure => rw [HRG4.out.left_eq, HG0.out.left_eq]; exact HLT.out
      · have HJ4 := Lib.hid hJx4
        clear hJx4 c0 c1 c2 c3 c4 c5 hy hR
        gi_wp2
        refine bodyPost_ret (results_none rfl _ _ _) rfl ?_
        exact ⟨⟨_, rfl⟩, .inr ⟨_, fun y hy => hC2.out.sub y hy, HJ4.out⟩⟩
end Go.Proofs.Ytjfnpciecgemeaa.ti
