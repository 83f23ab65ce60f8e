/-
  QueueRises: the law's walk.
-/
import Derived.Test.YtaaaefoanjggcaaQLaw
import Derived.Test.YtaaaefoanjggcaaQNear
namespace Go.Proofs.Ytaaaefoanjggcaa
set_option linter.unusedSimpArgs false
set_option linter.unusedVariables false
open Go.RowKit Go.Maps Go.ChangeMaps
theorem getR_put {R : List Job} {x : Job} (hc : getR R x.k = none ∨ ∃ a, getR R x.k = some a ∧ x.a < a) (key : Int) : getR (putR R x) key = updF (getR R) x.k (some x.a) key := by
  by_cases e : key = x.k
  · subst e
    rw [updF_same]
    rcases hc with h | ⟨a, h, hl⟩
    · rw [(putR_none h).1]; exact getR_app h
    · rw [(putR_less h hl).1]; exact getR_rep h
  · rw [updF_other _ _ e]
    rcases hc with h | ⟨a, h, hl⟩
    · rw [(putR_none h).1]
      unfold getR
      rw [List.find?_append]
      have : List.find? (fun y => decide (y.k = key)) [x] = none := by simp; exact fun h => e h.symm
      rw [this]
      simp
    · rw [(putR_less h hl).1]
      clear h hl
      induction R with
      | nil => rfl
      | cons y R ih =>
        unfold getR repR at *
        rw [List.map_cons, List.find?_cons, List.find?_cons]
        by_cases e2 : y.k = x.k
        · rw [if_pos e2, decide_eq_false (show ¬ x.k = key from fun h => e h.symm), decide_eq_false (show ¬ y.k = key from fun h => e (by rw [← h, e2]))]
          exact ih
        · rw [if_neg e2]
          by_cases e3 : y.k = key
          · rw [decide_eq_true e3]
          · rw [decide_eq_false e3]
            exact ih
/-- A map that is what a queue says; its size. -/
def MapN (W : World) (b n : Nat) (R : List Job) : Prop := ∃ D : DataW Unit, W.ownsMap Try.prog 3 (plainElem Try.prog 3) b n D ∧
  (∀ k, InI k → (∀ v, getR R k = some v → InI v ∧ has D (.int .i64 k) = true ∧ ∀ z, D.atKey (.int .i64 k) z = .lit (.int .i64 v)) ∧ (getR R k = none → has D (.int .i64 k) = false)) ∧ Maps.size D = R.length
theorem MapN.mapF {W : World} {b n : Nat} {R : List Job} (h : MapN W b n R) : MapF W b n (getR R) := by
  obtain ⟨D, a, b, _⟩ := h
  exact ⟨D, a, b⟩
theorem MapN.same {W W' : World} {b n : Nat} {R : List Job} (h : MapN W b n R) (k : W'.heap[b]? = W.heap[b]?) : MapN W' b n R := by
  obtain ⟨D, ⟨es, c, hb, r⟩, q⟩ := h
  exact ⟨D, ⟨es, c, k.trans hb, r⟩, q⟩
theorem MapN.more {W : World} {b n m : Nat} {R : List Job} (h : MapN W b n R) (hm : n ≤ m) : MapN W b m R := by
  obtain ⟨D, a, q⟩ := h
  exact ⟨D, a.mono hm, q⟩
theorem MapN.made (W : World) : MapN (W.alloc (.map #[] 0)) W.heap.size 0 [] :=
  ⟨_, World.ownsMap_made W _ _ _, fun k _ => ⟨fun v h => by (cases h), fun _ => rfl⟩, rfl⟩
theorem MapN.put {W : World} {b n : Nat} {R : List Job} (h : MapN W b n R) (hn : n < maxLen) {x : Job} (hk : InI x.k) (ha : InI x.a) (hc : getR R x.k = none ∨ ∃ a, getR R x.k = some a ∧ x.a < a) :
    ∃ W', (Instr.mapUpdate 43 (.map (some b)) (.int .i64 x.k) (.int .i64 x.a)).run Try.prog W = .ok () W' ∧ MapN W' b (n + 1) (putR R x) ∧ W.mapTurned W' b := by
  obtain ⟨D, ho, hf, hs⟩ := h
  obtain ⟨W', hrun, ho', ht⟩ := ho.store KI mapK hn (keyI hk) (plainElem_int intK (wfI ha))
  refine ⟨W', hrun, ⟨_, ho', ?_, ?_⟩, ht⟩
  · have hp := put_fun ho.isMap hf (k := x.k) ha
    intro m hm
    rw [getR_put hc]
    exact hp m hm
  · rw [size_put (ho.tidy KI)]
    rcases hc with h | ⟨a, h, hl⟩
    · rw [(hf x.k hk).2 h, (putR_none h).1]
      simp [hs]
    · rw [((hf x.k hk).1 a h).2.1, (putR_less h hl).1]
      simp [hs, repR]
theorem rises_no (a : Option Addr) (cap : Nat) (l : List Job) (hl : l.length ≤ 9223372036854775807) (hno : 200 < l.length) (w : World) :
    Calls Try.prog 4 #[.slice a l.length cap] w fun e w' => e = .returned (.bool true) ∧ Below w.heap.size w w' := by
  have haw := awake_any
  generalize l.length = len at *
  go_enter Try.func4, Try.ntmps4
  go_wp2_with (go_at_call 8; refine (haw _).mono ?_; rintro e w1 ⟨rfl, hb1⟩)
  go_ret
  exact ⟨rfl, hb1⟩
/-- What is left to be taken. -/
structure Left (R S : List Job) (c : Nat) (last : Job) : Prop where
  sub : ∀ y ∈ S, y ∈ R
  cnt : c + S.length = R.length
  up : 0 < c → ∀ y ∈ S, lessJ last y
  nd : Nd S
theorem Left.step {R S : List Job} {c : Nat} {last : Job} (h : Left R S c last) (hR : Nd R) (hS : S ≠ []) : nextIs S = true ∧ getR R (nextR S).k = some (nextR S).a ∧ (0 < c → lessJ last (nextR S)) ∧ nextR S ∈ R ∧ Left R (restR S) (c + 1) (nextR S) := by
  have e1 : nextR S = minR S := if_neg hS
  have e2 : restR S = dropR S (minR S).k := if_neg hS
  have hm := minR_mem hS
  rw [e1, e2]
  have hp := drop_perm h.nd hm
  refine ⟨decide_eq_true hS, getR_mem hR (h.sub _ hm), fun hc => h.up hc _ hm, h.sub _ hm, ⟨fun y hy => h.sub y (hp.mem_iff.1 (List.mem_cons_of_mem _ hy)), ?_, fun _ y hy => ?_, ?_⟩⟩
  · have := hp.length_eq
    rw [List.length_cons] at this
    have := h.cnt
    omega
  · have h1 := minR_least y (hp.mem_iff.1 (List.mem_cons_of_mem _ hy))
    unfold dropR at hy
    have h2 : y.k ≠ (minR S).k := by simpa using (List.mem_filter.1 hy).2
    unfold lessJ at h1 ⊢
    omega
  · exact List.Pairwise.sublist List.filter_sublist h.nd
theorem Newed.setCells {w W : World} {n : Nat} {R : List Job} (h : Newed w n R W) {k : Nat} {x : Job} (hb : BxJ 30 W k x) (hk : w.heap.size ≤ k) (p q : Value) : Newed w n R ((W.setCell ⟨k, 0, none⟩ p).setCell ⟨k, 1, none⟩ q) := by
  obtain ⟨g, h, b⟩ := h
  refine ⟨g, ?_, (b.setCell (p := ⟨k, 0, none⟩) hk p).setCell (p := ⟨k, 1, none⟩) hk q⟩
  obtain ⟨l, ⟨⟨f, a, v, s⟩, c⟩, d⟩ := h
  refine ⟨l, ⟨⟨f, a, v, s.same fun i _ hi => ?_⟩, c⟩, d⟩
  have hne : i ≠ k := by
    rintro rfl
    unfold BxJ at hb
    rcases hi with rfl | rfl | hi
    · rw [s.box] at hb
      injection hb with hb
      injection hb with _ hb _
      revert hb
      decide
    · obtain ⟨es, c, hm⟩ := s.map.isMap
      rw [hm] at hb
      injection hb with hb
      cases hb
    · have hr := s.row
      rw [← hi] at hr
      rcases s.own.2 with ⟨e2, _⟩ | ⟨g2, cap, cur, e2, _, hh, _⟩
      · rw [e2] at hr; cases hr
      · rw [e2] at hr
        injection hr with hr
        have hr : g2 = i := hr
        subst hr
        rw [hh] at hb
        injection hb with hb
        injection hb with _ hb _
        revert hb
        decide
  rw [heap_setCell_other _ _ _ _ hne, heap_setCell_other _ _ _ _ hne]
theorem Newed.keys {w W : World} {n : Nat} {R : List Job} (h : Newed w n R W) : ∀ y ∈ R, InI y.k := fun y hy => by
  obtain ⟨g, ⟨l, ⟨⟨f, a, v, q⟩, c⟩, d⟩, b⟩ := h
  exact q.keys y (d.mem_iff.2 hy)
set_option maxHeartbeats 8000000 in
set_option maxRecDepth 100000 in
theorem rises_ok (a : Option Addr) (cap : Nat) (l : List Job) (hl : l.length ≤ 200) (w : World) (hr : RdJ w.heap.size w a l) :
    Calls Try.prog 4 #[.slice a l.length cap] w fun e w' => e = .returned (.bool true) ∧ Below w.heap.size w w' := by
  have haw := awake_any
  have hmm := @run_makeMap Try.prog
  have hnw := fun W (hW : Below w.heap.size w W) => newP a cap l (by omega) W ((hr.below hW (Nat.le_refl _)).mono hW.size)
  have HN := Lib.hid hnw
  have HR := Lib.hid hr
  obtain ⟨len, hlen⟩ : ∃ len, l.length = len := ⟨_, rfl⟩
  have HL := Lib.hid hlen
  rw [hlen] at hl ⊢
  rw [hlen] at HN
  clear hnw hr hlen
  go_enter Try.func4, Try.ntmps4
  go_wp2_with (go_at_call 8; refine (haw _).mono ?_; rintro e w1 ⟨rfl, hb1⟩; have HB1 := Lib.hid hb1; clear hb1)
  have HM0 := Lib.hid (MapN.made w1)
  have HB0 : Hid (Below w1.heap.size w1 (w1.alloc (.map #[] 0))) := (Below.refl _ _).alloc (Nat.le_refl _) _
  generalize w1.alloc (.map #[] 0) = w0 at *
  clear haw hmm
  go_loopw [5] (fun i wr => ∃ (k : Nat), i = .int .i64 k ∧ k ≤ len ∧ Hid (MapN wr w1.heap.size k ((l.take k).foldl putR [])) ∧ Hid (Below w1.heap.size w1 wr)) (fun i _ => len - (intOf i).toNat)
  case atStart => exact ⟨0, rfl, Nat.zero_le _, HM0, HB0⟩
  case round =>
    obtain ⟨k, rfl, hk, HM, HB⟩ := hrel
    clear HM0 HB0
    by_cases hlt : k < len
    · obtain ⟨x, hx⟩ : ∃ x, l[k]? = some x := ⟨_, List.getElem?_eq_getElem (by have := HL.out; omega)⟩
      obtain ⟨⟨hxk, hxa⟩, b, off, ha, hb, x0, x1⟩ := HR.out k x hx
      subst ha
      have hbl := HB1.out.trans (HB.out.mono HB1.out.size)
      have y0 := keepC hbl hb x0
      have y1 := keepC hbl hb x1
      have hlk := HM.out.mapF.look hxk wr rfl
      have hfp := fold_put hx
      have hput := fun hc => (HM.out.same (W' := wr.drew) rfl).put (by unfold maxLen; omega) hxk hxa hc
      have hst : ∀ a, getR ((l.take k).foldl putR []) x.k = some a → ¬ x.a < a → putR ((l.take k).foldl putR []) x = (l.take k).foldl putR [] := fun a h1 h2 => (putR_stay h1 h2).1
      generalize (l.take k).foldl putR [] = Rk at *
      have HFP := Lib.hid hfp
      clear hfp hx x0 x1 hbl
      cases hg : getR Rk x.k with
      | none =>
        rw [hg] at hlk
        simp only [Option.getD_none, Option.isSome_none] at hlk
        obtain ⟨W2, hMU, m2, t2⟩ := hput (.inl hg)
        have HM2 : Hid (MapN W2 w1.heap.size (k + 1) ((l.take (k + 1)).foldl putR [])) := by unfold Hid; rw [HFP.out]; exact m2
        have HB2 := Lib.hid (HB.out.drew.trans ((⟨t2.grown.os, t2.grown.tape, t2.grown.output, t2.grown.size, fun i hi => t2.grown.block i (by have := HB.out.size; show i < wr.heap.size; omega) (fun e => by injection e; omega)⟩ : Below w1.heap.size wr.drew W2)))
        clear hput hst hg m2 t2 HM HB
        go_wp2
        go_region
        go_wp2
        go_roundw
        case rel => exact ⟨k + 1, by go_num, by omega, HM2, HB2⟩
        case measure => simp [intOf]; omega
      | some v =>
        rw [hg] at hlk
        simp only [Option.getD_some, Option.isSome_some] at hlk
        by_cases hxv : x.a < v
        · obtain ⟨W2, hMU, m2, t2⟩ := hput (.inr ⟨v, hg, hxv⟩)
          have HM2 : Hid (MapN W2 w1.heap.size (k + 1) ((l.take (k + 1)).foldl putR [])) := by unfold Hid; rw [HFP.out]; exact m2
          have HB2 := Lib.hid (HB.out.drew.trans ((⟨t2.grown.os, t2.grown.tape, t2.grown.output, t2.grown.size, fun i hi => t2.grown.block i (by have := HB.out.size; show i < wr.heap.size; omega) (fun e => by injection e; omega)⟩ : Below w1.heap.size wr.drew W2)))
          clear hput hst hg m2 t2 HM HB
          go_wp2
          go_region
          go_wp2
          go_roundw
          case rel => exact ⟨k + 1, by go_num, by omega, HM2, HB2⟩
          case measure => simp [intOf]; omega
        · have HM2 : Hid (MapN wr w1.heap.size (k + 1) ((l.take (k + 1)).foldl putR [])) := by unfold Hid; rw [HFP.out, hst v hg hxv]; exact HM.out.more (by omega)
          clear hput hst hg HM
          go_wp2
          go_roundw
          case rel => exact ⟨k + 1, by go_num, by omega, HM2, HB⟩
          case measure => simp [intOf]; omega
    · obtain rfl : k = len := by omega
      have hM : MapN wr w1.heap.size k (allR l) := by
        have := HM.out
        rwa [List.take_of_length_le (by rw [HL.out]; omega)] at this
      clear HM
      obtain ⟨R, hRR⟩ : ∃ R, allR l = R := ⟨_, rfl⟩
      rw [hRR] at hM HN
      have hbw := HB1.out.trans (HB.out.mono HB1.out.size)
      have HBW := Lib.hid hbw
      have hmb : w1.heap.size < wr.heap.size := hM.mapF.lt
      obtain ⟨D, ho, hfF, hsz⟩ := hM
      have hown : ∀ W, Below wr.heap.size wr W → W.ownsMap Try.prog 3 (plainElem Try.prog 3) w1.heap.size k D := fun W hW => by
        obtain ⟨es, c, h1, r⟩ := ho
        exact ⟨es, c, (hW.block _ hmb).trans h1, r⟩
      have hlook : ∀ W o key, Below wr.heap.size wr W → InI key → (Instr.lookup 43 (.map (some w1.heap.size)) (.int .i64 key) true).run Try.prog (World.alloc W o) = .ok (.tuple #[.int .i64 ((getR R key).getD 0), .bool (getR R key).isSome]) (World.alloc W o) := fun W o key hW hk2 =>
        MapF.look ⟨D, hown W hW, hfF⟩ hk2 _ (heap_alloc_old W o (Nat.lt_of_lt_of_le hmb hW.size))
      have hnx := fun n S W (h : Newed wr n S W) => nextP h
      have hln := fun n W (h : Newed wr n R W) => lenP h
      have hle : ∀ n W, Newed wr n R W → R.length ≤ 1000000 ∧ Nd R ∧ ∀ y ∈ R, InI y.k := fun n W h => ⟨by have := h.len; omega, h.nd, h.keys⟩
      have HOWN := Lib.hid hown
      have HLOOK := Lib.hid hlook
      have HLN := Lib.hid hln
      have HSZ := Lib.hid hsz
      have HLE := Lib.hid hle
      clear hbw ho hfF hsz hown hlook hln hle hRR HB HL HR hnx
      obtain ⟨wr1, rfl⟩ : ∃ X, X = wr := ⟨_, rfl⟩
      go_wp2_with (first
        | (go_at_call 9; refine (HN.out _ HBW.out).mono ?_; rintro e w2 ⟨rfl, hq⟩; have Q2 := Lib.hid hq; have hsm := (HLE.out _ _ hq).1; have HND := Lib.hid (HLE.out _ _ hq).2.1; have HKY := Lib.hid (HLE.out _ _ hq).2.2; clear hq)
        | (go_at_call 19; refine (HLN.out _ _ Q2.out).mono ?_; rintro e w3 ⟨rfl, rfl⟩)
        | (at_len; refine wpList_len_own _ rfl _ 43 rfl 3 3 mapK _ w1.heap.size k D rfl (HOWN.out _ Q2.out.bel) ?_; rw [HSZ.out]))
      have HQ0 : Hid (Newed wr1 k R (w2.alloc (.cells #[.int .i64 0, .int .i64 0] 30))) := Q2.out.below ((Below.refl _ _).alloc (Nat.le_refl _) _)
      have HX0 := Lib.hid (BxJ.new 30 w2 ⟨0, 0⟩)
      have HLF : Hid (Left R R 0 ⟨0, 0⟩) := ⟨fun y h => h, by omega, fun h => by omega, HND.out⟩
      obtain ⟨rl, hrl⟩ : ∃ rl, R.length = rl := ⟨_, rfl⟩
      rw [hrl] at hsm ⊢
      rw [hrl] at HSZ
      have HRL := Lib.hid hrl
      have HSZ2 : wr1.heap.size ≤ w2.heap.size := Q2.out.bel.size
      clear Q2 HN HLN hrl
      go_loopw [10] (fun i ww => ∃ (c : Nat) (S : List Job) (la : Job), i = .int .i64 c ∧ Hid (Left R S c la) ∧ Hid (Newed wr1 k S ww) ∧ Hid (BxJ 30 ww w2.heap.size la)) (fun i _ => rl - (intOf i).toNat)
      case atStart => exact ⟨0, R, ⟨0, 0⟩, rfl, HLF, HQ0, HX0⟩
      case round =>
        clear HLF HQ0 HX0
        obtain ⟨c, S, la, rfl, HLF, HQ, HX⟩ := hrel
        have hcnt := HLF.out.cnt
        rw [HRL.out] at hcnt
        by_cases hS : S = []
        · subst hS
          obtain rfl : c = rl := by simpa using hcnt
          have hn := nextP HQ.out
          rw [show nextR [] = ⟨0, 0⟩ from rfl, show nextIs [] = false from rfl, show restR [] = [] from rfl] at hn
          simp only at hn
          go_wp2_with (first
            | (at_len; refine wpList_len_own _ rfl _ 43 rfl 3 3 mapK _ w1.heap.size k D rfl (HOWN.out _ HQ.out.bel) ?_; rw [HSZ.out])
            | (go_at_call 13; refine hn.mono ?_; rintro e w5 ⟨rfl, hq, _⟩; have Q5 := Lib.hid hq; clear hq))
          go_ret
          exact ⟨rfl, HBW.out.trans ((Q5.out.bel.alloc Q5.out.bel.size _).mono HBW.out.size)⟩
        · obtain ⟨f1, f2, f3, f4, f5⟩ := HLF.out.step HND.out hS
          have hn := nextP HQ.out
          rw [f1] at hn
          have hjk : InI (nextR S).k := HKY.out _ f4
          have hclt : c < rl := by have := List.length_pos_iff.2 hS; omega
          generalize restR S = S' at *
          generalize nextR S = x at *
          have HF5 := Lib.hid f5
          have hlo := fun W o hW => HLOOK.out W o x.k hW hjk
          rw [f2] at hlo
          simp only [Option.getD_some, Option.isSome_some] at hlo
          obtain ⟨jk, ja⟩ := x
          obtain ⟨lk, lat⟩ := la
          simp only at hn hjk hlo f3
          have HLO := Lib.hid hlo
          have HW2 : wr1.heap.size ≤ w2.heap.size := HSZ2
          clear f1 f2 f4 f5 hS hlo hcnt HLF
          rcases Nat.eq_zero_or_pos c with hc0 | hc0
          · subst hc0
            go_wp2_with (first
              | (at_len; refine wpList_len_own _ rfl _ 43 rfl 3 3 mapK _ w1.heap.size k D rfl (HOWN.out _ HQ.out.bel) ?_; rw [HSZ.out])
              | (go_at_call 13; refine hn.mono ?_; rintro e w5 ⟨rfl, hq, hkq⟩; have bxl := HX.out.keep (by decide) (by decide) hkq; have bxa := bxl.same (heap_alloc_old w5 (.cells #[.int .i64 jk, .int .i64 ja] 30) bxl.lt); have bl2 := bxa.cells; have bj := (BxJ.new 30 w5 ⟨jk, ja⟩).cells; have hlk := HLO.out w5 (.cells #[.int .i64 jk, .int .i64 ja] 30) hq.bel; have hq6 := (hq.below ((Below.refl _ _).alloc (Nat.le_refl _) (.cells #[.int .i64 jk, .int .i64 ja] 30))).setCells bxa HW2 (.int .i64 jk) (.int .i64 ja); have bx6 := bxa.set ⟨jk, ja⟩; have Q6 := Lib.hid hq6; have BX6 := Lib.hid bx6; obtain ⟨p0, p1, p2, p3⟩ := bl2; obtain ⟨q0, q1, _, _⟩ := bj; simp only at p0 p1 q0 q1; clear hq hkq bxl bxa hq6 bx6))
            go_roundw
            case rel => exact ⟨1, S', ⟨jk, ja⟩, by go_num, HF5, Q6, BX6⟩
            case measure => simp [intOf]; omega
          · have hless := f3 hc0
            have hc1 : (0 : Int) < c := by omega
            by_cases e1 : lat < ja
            · have e2 : decide (ja < lat) = false := decide_eq_false (by omega)
              have e3 : (ja == lat) = false := by simp only [beq_eq_false_iff_ne]; omega
              clear hless f3
              go_wp2_with (first
                | (at_len; refine wpList_len_own _ rfl _ 43 rfl 3 3 mapK _ w1.heap.size k D rfl (HOWN.out _ HQ.out.bel) ?_; rw [HSZ.out])
                | (go_at_call 13; refine hn.mono ?_; rintro e w5 ⟨rfl, hq, hkq⟩; have bxl := HX.out.keep (by decide) (by decide) hkq; have bxa := bxl.same (heap_alloc_old w5 (.cells #[.int .i64 jk, .int .i64 ja] 30) bxl.lt); have bl2 := bxa.cells; have bj := (BxJ.new 30 w5 ⟨jk, ja⟩).cells; have hlk := HLO.out w5 (.cells #[.int .i64 jk, .int .i64 ja] 30) hq.bel; have hq6 := (hq.below ((Below.refl _ _).alloc (Nat.le_refl _) (.cells #[.int .i64 jk, .int .i64 ja] 30))).setCells bxa HW2 (.int .i64 jk) (.int .i64 ja); have bx6 := bxa.set ⟨jk, ja⟩; have Q6 := Lib.hid hq6; have BX6 := Lib.hid bx6; obtain ⟨p0, p1, p2, p3⟩ := bl2; obtain ⟨q0, q1, _, _⟩ := bj; simp only at p0 p1 q0 q1; clear hq hkq bxl bxa hq6 bx6))
              go_roundw
              case rel => exact ⟨c + 1, S', ⟨jk, ja⟩, by go_num, HF5, Q6, BX6⟩
              case measure => simp [intOf]; omega
            · have e2 : ja = lat := by unfold lessJ at hless; simp only at hless; omega
              have e3 : lk < jk := by unfold lessJ at hless; simp only at hless; omega
              have e4 : decide (jk ≤ lk) = false := decide_eq_false (by omega)
              subst e2
              clear hless f3
              go_wp2_with (first
                | (at_len; refine wpList_len_own _ rfl _ 43 rfl 3 3 mapK _ w1.heap.size k D rfl (HOWN.out _ HQ.out.bel) ?_; rw [HSZ.out])
                | (go_at_call 13; refine hn.mono ?_; rintro e w5 ⟨rfl, hq, hkq⟩; have bxl := HX.out.keep (by decide) (by decide) hkq; have bxa := bxl.same (heap_alloc_old w5 (.cells #[.int .i64 jk, .int .i64 ja] 30) bxl.lt); have bl2 := bxa.cells; have bj := (BxJ.new 30 w5 ⟨jk, ja⟩).cells; have hlk := HLO.out w5 (.cells #[.int .i64 jk, .int .i64 ja] 30) hq.bel; have hq6 := (hq.below ((Below.refl _ _).alloc (Nat.le_refl _) (.cells #[.int .i64 jk, .int .i64 ja] 30))).setCells bxa HW2 (.int .i64 jk) (.int .i64 ja); have bx6 := bxa.set ⟨jk, ja⟩; have Q6 := Lib.hid hq6; have BX6 := Lib.hid bx6; obtain ⟨p0, p1, p2, p3⟩ := bl2; obtain ⟨q0, q1, _, _⟩ := bj; simp only at p0 p1 q0 q1; clear hq hkq bxl bxa hq6 bx6))
              go_roundw
              case rel => exact ⟨c + 1, S', ⟨jk, ja⟩, by go_num, HF5, Q6, BX6⟩
              case measure => simp [intOf]; omega
theorem rises_walk (a : Option Addr) (cap : Nat) (l : List Job) (hl : l.length ≤ 9223372036854775807) (w : World) (hr : RdJ w.heap.size w a l) :
    Calls Try.prog 4 #[.slice a l.length cap] w fun e w' => e = .returned (.bool true) ∧ Below w.heap.size w w' := by
  by_cases h : l.length ≤ 200
  · exact rises_ok a cap l h w hr
  · exact rises_no a cap l hl (by omega) w
end Go.Proofs.Ytaaaefoanjggcaa
