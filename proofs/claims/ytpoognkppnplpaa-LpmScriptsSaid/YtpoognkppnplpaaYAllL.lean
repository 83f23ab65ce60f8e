/-
  LpmAll: the law's walk.
-/
import Derived.Test.YtpoognkppnplpaaYDrops
namespace Go.Proofs.Ytpoognkppnplpaa
set_option linter.unusedSimpArgs false
set_option linter.unusedVariables false
open Go.RowKit
theorem st_len (room : Int) (L : List Ent) (s : Stp) (h : L.Pairwise fun x y => lessP x.1 y.1) : (stL room L s).length ≤ L.length + 1 := by
  unfold stL putA
  split
  · split
    · rw [putL_length h]
      split <;> omega
    · omega
  · have := List.length_filter_le (fun x => !decide (x.1 = s.p)) L
    unfold dropL
    omega
theorem done_len {room : Int} (h1 : 1 ≤ room) (h2 : room ≤ 4096) (l : List Stp) (hl : ∀ s ∈ l, s.p.1 < 4294967296) : (doneL room l).length ≤ 150 := by
  have h : ∀ k, k ≤ 150 → ((l.take k).foldl (stL room) []).length ≤ k := by
    intro k
    induction k with
    | zero => intro _; simp
    | succ k ih =>
      intro hk
      have ih := ih (by omega)
      by_cases hlt : k < l.length
      · have e := fold_succ (room := room) (List.getElem?_eq_getElem hlt)
        have hg := done_ok h1 h2 (l.take k) (fun s hs => hl s (List.mem_of_mem_take hs))
        have hd : doneL room (l.take k) = (l.take k).foldl (stL room) [] := by
          unfold doneL
          rw [List.take_of_length_le (by rw [List.length_take]; omega)]
        rw [hd] at hg
        rw [e]
        have := st_len room ((l.take k).foldl (stL room) []) l[k] hg.1.rises
        omega
      · rw [List.take_of_length_le (by omega)] at ih ⊢
        omega
  have := h 150 (Nat.le_refl _)
  unfold doneL
  exact this
def dropN (L : List Ent) (k : Nat) : List Ent := ((netsL L).take k).foldl (fun M p => dropL p M) L
theorem dropN_succ {L : List Ent} {k : Nat} {x : Ent} (h : L[k]? = some x) : dropN L (k + 1) = dropL x.1 (dropN L k) := by
  unfold dropN
  have : (netsL L)[k]? = some x.1 := by unfold netsL; rw [List.getElem?_map, h]; rfl
  rw [List.take_add_one, this, List.foldl_append]
  rfl
theorem mem_dropAll : ∀ (m : List (Nat × Int)) (L : List Ent) (x : Ent), x ∈ m.foldl (fun M p => dropL p M) L → x ∈ L ∧ x.1 ∉ m := by
  intro m
  induction m with
  | nil => intro L x h; exact ⟨h, by simp⟩
  | cons p m ih =>
    intro L x h
    rw [List.foldl_cons] at h
    obtain ⟨h1, h2⟩ := ih _ _ h
    unfold dropL at h1
    obtain ⟨h3, h4⟩ := List.mem_filter.1 h1
    refine ⟨h3, fun hm => ?_⟩
    rcases List.mem_cons.1 hm with e | e
    · simp [e] at h4
    · exact h2 e
theorem dropN_all (L : List Ent) : dropN L L.length = [] := by
  unfold dropN
  rw [List.take_of_length_le (by rw [netsL_len]; omega), List.eq_nil_iff_forall_not_mem]
  intro x hx
  obtain ⟨h1, h2⟩ := mem_dropAll _ _ _ hx
  exact h2 (List.mem_map_of_mem h1)
/-- With the way to all something is found of each address. -/
theorem way_all_found {L : List Ent} (h : Good L) {v : Int} (hm : ((0, 0), v) ∈ L) {a : Nat} (ha : a < 4294967296) : ∃ x, lastE (onL a L) = x ∧ hasE (onL a L) = true ∧ x ∈ L ∧ inP x.1 a = true := by
  have h0 : ((0, 0), v) ∈ onL a L := List.mem_filter.2 ⟨hm, by
    have hr : rightP ((0 : Nat), ((0 : Nat) : Int)) = true := right_nat.2 ⟨by omega, by simp⟩
    exact (in_nat hr a).2 (cut_zero ha)⟩
  have hne : onL a L ≠ [] := fun e => by rw [e] at h0; simp at h0
  refine ⟨_, rfl, ?_, ?_⟩
  · unfold hasE
    cases hon : onL a L with
    | nil => exact absurd hon hne
    | cons _ _ => rfl
  · have hl : lastE (onL a L) = (onL a L).getLast hne := by unfold lastE; rw [List.getLast?_eq_some_getLast hne]; rfl
    have hmem : lastE (onL a L) ∈ onL a L := by rw [hl]; exact List.getLast_mem hne
    exact List.mem_filter.1 hmem
theorem putT0 {W : World} {base tb : Nat} {room : Int} {L : List Ent} (h : TabP W base tb room L) (k : Int) {E : Int} {L2 : List Ent} (hE : putE room L (0, 0) = E) (hL : putA room L (0, 0) k = L2) :
    Calls Try.prog 22 #[.pointer (some ⟨tb, 0, none⟩), .agg #[.int .u32 0, .int .i64 0], .int .i64 k] W fun e w' => e = .returned (.int .i64 E) ∧ PutEnd W base tb room L2 w' := putT h 0 (by decide) 0 k hE hL
theorem own_mono {W : World} {base b : Nat} {v : Value} {l : List (Nat × Int)} (h : OwnP W base v l) (hb : b ≤ base) : OwnP W b v l := by
  refine ⟨h.1, ?_⟩
  rcases h.2 with h2 | ⟨g, cap, cur, e, hg, r⟩
  · exact .inl h2
  · exact .inr ⟨g, cap, cur, e, by omega, r⟩
/-- Where the loop of the law stands. -/
structure AlSt (w wm : World) (L : List Ent) (K n : Nat) (b : Int) (v : Value) (W : World) : Prop where
  tab : TabP W wm.heap.size wm.heap.size 4096 L
  bel : Below w.heap.size w W
  lo : w.heap.size ≤ wm.heap.size
  box : Bx W K (.int .u32 n) (.int .i64 b)
theorem AlSt.below {w wm : World} {L : List Ent} {K n : Nat} {b : Int} {v : Value} {W W' : World} (h : AlSt w wm L K n b v W) (hb : Below W.heap.size W W') : AlSt w wm L K n b v W' := ⟨h.tab.below hb, h.bel.trans (hb.mono h.bel.size), h.lo, h.box.keep hb h.box.lt⟩
theorem AlSt.turn {w wm : World} {L L' : List Ent} {K n : Nat} {b : Int} {v : Value} {W W' : World} (h : AlSt w wm L K n b v W) (hq : PutEnd W wm.heap.size wm.heap.size 4096 L' W') : AlSt w wm L' K n b v W' := ⟨hq.1, h.bel.trans (hq.2.bel.mono h.lo), h.lo, h.box.keepT (by unfold SP; decide) hq.2.keep⟩
set_option maxHeartbeats 4000000 in
set_option maxRecDepth 100000 in
theorem all_walk (a : Option Addr) (cap : Nat) (l : List Stp) (hl : l.length ≤ 9223372036854775807) (k : Nat) (hk : k < 4294967296) (w : World) (hr : RdS w.heap.size w a l) :
    Calls Try.prog 8 #[.slice a l.length cap, .int .u32 k] w fun e w' => e = .returned (.bool true) ∧ Below w.heap.size w w' := by
  have haw := awake_any w
  have hmd := fun W (hW : Below w.heap.size w W) => made_okP 4096 (by decide) (by decide) a cap l hl W ((hr.below hW (Nat.le_refl _)).mono hW.size)
  have hsl : ∀ s ∈ l, s.p.1 < 4294967296 := fun s hs => by obtain ⟨j, hj⟩ := List.getElem?_of_mem hs; exact (hr j s hj).1
  have hd := done_ok (room := 4096) (by decide) (by decide) l hsl
  have hdl := done_len (room := 4096) (by decide) (by decide) l hsl
  generalize doneL 4096 l = L at *
  have hr0 : rightP (0, 0) = true := by decide
  have hpE : putE 4096 L (0, 0) = 0 := by unfold putE; rw [hr0, if_pos rfl, if_neg (fun hh => by have := hh.2; omega)]
  obtain ⟨L1, hL1⟩ : ∃ L1, putA 4096 L (0, 0) 5 = L1 := ⟨_, rfl⟩
  have hL1' : putL (0, 0) 5 L = L1 := by rw [← hL1]; unfold putA; rw [hpE, if_pos rfl]
  have hgood : Good L1 := by rw [← hL1']; exact hd.1.put hr0 (by decide) 5
  have hmem : ((0, 0), 5) ∈ L1 := by rw [← hL1']; exact (putL_mem hd.1.rises (0, 0) 5 _).2 (.inl rfl)
  obtain ⟨x, hx1, hx2, hx3, hx4⟩ := way_all_found hgood hmem hk
  have hl1 : L1.length ≤ 151 := by rw [← hL1', putL_length hd.1.rises]; split <;> omega
  have hres : (lastE (onL k L1), hasE (onL k L1)) = (x, true) := by rw [hx1, hx2]
  have hxn := (hgood.right x hx3).2
  have hin := in_any x.1.1 hxn x.1.2 k hk
  rw [show ((x.1.1, x.1.2) : Nat × Int) = x.1 from rfl, hx4] at hin
  have hres0 : (lastE (onL k []), hasE (onL k [])) = (((0, 0), 0), false) := rfl
  obtain ⟨nl, hnl⟩ : ∃ nl, L1.length = nl := ⟨_, rfl⟩
  have HMD := Lib.hid hmd
  have HPE := Lib.hid hpE
  have HPA := Lib.hid hL1
  have HRES := Lib.hid hres
  have HRES0 := Lib.hid hres0
  have HNL := Lib.hid hnl
  have HGOOD := Lib.hid hgood
  rw [hnl] at hl1
  obtain ⟨⟨xn, xb⟩, xv⟩ := x
  simp only at hin
  generalize l.length = len at *
  have T1 : True := trivial
  clear hmd hsl hd hdl hr0 hpE hL1 hL1' hgood hmem hx1 hx2 hx3 hx4 hres hxn hres0 hnl hr hl
  go_enter Try.func8, Try.ntmps8
  go_wp2_with (first
    | (go_at_call 9; refine haw.mono ?_; rintro e w1 ⟨rfl, hb1⟩; have HB1 := Lib.hid hb1; clear hb1)
    | (go_at_call 10; ((with_reducible refine (HMD.out _ HB1.out).mono ?_); rintro e w2 ⟨rfl, hb2⟩); have BO := Lib.hid hb2; clear hb2)
    | (go_at_call 22; ((with_reducible refine (putT0 BO.out.tab 5 HPE.out HPA.out).mono ?_); rintro e w3 ⟨rfl, hq⟩); have HT3 := Lib.hid hq.1; have HB3 := Lib.hid (HB1.out.trans ((BO.out.bel.trans hq.2.bel).mono HB1.out.size)); clear hq)
    | (go_at_call 17; have _t := T1; ((with_reducible refine (findT HT3.out k hk _ _ HRES.out).mono ?_); rintro e w4 ⟨rfl, hb4⟩); have hba := (Below.refl w4.heap.size w4).alloc (Nat.le_refl _) (.cells #[.int .u32 xn, .int .i64 xb] 25); have s4 := (⟨(HT3.out.below hb4).below hba, (HB3.out.trans (hb4.mono HB3.out.size)).trans (hba.mono (Nat.le_trans HB3.out.size hb4.size)), HB1.out.size, Bx.new w4 _ _⟩ : AlSt w w1 L1 w4.heap.size xn xb (.slice none 0 0) _); have S4 := Lib.hid s4; clear hb4 hba s4 T1)
    | (go_at_call 15; ((with_reducible refine (allT S4.out.tab HNL.out).mono ?_); rintro e w5 ⟨⟨A, c, rfl, ho⟩, hb5⟩); have S5 := Lib.hid (S4.out.below hb5); have O5 := Lib.hid ho; clear hb5 ho))
  go_loopw [14] (fun i wr => ∃ j : Nat, i = .int .i64 j ∧ Hid (j ≤ nl) ∧ Hid (AlSt w w1 (dropN L1 j) w4.heap.size xn xb (.slice none 0 0) wr) ∧ Hid (OwnP wr w4.heap.size (.slice A nl c) (netsL L1))) (fun i _ => nl - (intOf i).toNat)
  case atStart => exact ⟨0, rfl, Nat.zero_le _, S5.out, own_mono O5.out (by simp)⟩
  case round =>
    obtain ⟨j, rfl, HJ, HS, HO⟩ := hrel
    have hj := HJ.out
    clear S5 O5 S4 HT3 BO
    by_cases hlt : j < nl
    · obtain ⟨y, hy⟩ : ∃ y, L1[j]? = some y := ⟨_, List.getElem?_eq_getElem (by have := HNL.out; omega)⟩
      have hyn := (HGOOD.out.right y (List.mem_of_getElem? hy)).2
      have hny : (netsL L1)[j]? = some y.1 := by unfold netsL; rw [List.getElem?_map, hy]; rfl
      obtain ⟨g, hA⟩ : ∃ g, A = some ⟨g, 0, none⟩ := by
        rcases HO.out.form with ⟨e, _⟩ | ⟨g, cap, e, _⟩
        · injection e with _ e2 _; omega
        · injection e with e1 _ _; exact ⟨g, e1⟩
      subst hA
      obtain ⟨y0, y1⟩ := HO.out.cell hny
      have hds := dropN_succ hy
      have hdr := dropT HS.out.tab y.1.1 hyn y.1.2 rfl (hds.symm : dropL (y.1.1, y.1.2) (dropN L1 j) = dropN L1 (j + 1))
      generalize dropE (dropN L1 j) (y.1.1, y.1.2) = E at *
      have hj0 : 0 < nl := by omega
      clear hy hyn hny hds
      go_wp2_with (go_at_call 20; ((with_reducible refine hdr.mono ?_); rintro e w6 ⟨rfl, hq⟩); have S6 := Lib.hid (HS.out.turn hq); have O6 := Lib.hid (HO.out.keepT (by unfold SP; decide) hq.2.keep); clear hq)
      go_roundw
      case rel => exact ⟨j + 1, by go_num, by unfold Hid; omega, S6.out, O6.out⟩
      case measure => simp [intOf]; omega
    · obtain rfl : j = nl := by omega
      have hs := HS.out
      rw [← HNL.out, dropN_all] at hs
      obtain ⟨c0, c1, _, _⟩ := hs.box.cells
      have HS2 := Lib.hid hs
      have T1 : True := trivial
      clear hs HS HO
      go_wp2_with (first
        | (go_at_call 17; have _t := T1; ((with_reducible refine (findT HS2.out.tab k hk _ _ HRES0.out).mono ?_); rintro e w7 ⟨rfl, hb7⟩); have hba := (Below.refl w7.heap.size w7).alloc (Nat.le_refl _) (.cells #[.int .u32 0, .int .i64 0] 25); have s7 := (HS2.out.below hb7).below hba; obtain ⟨d0, d1, _, _⟩ := s7.box.cells; have S7 := Lib.hid s7; clear hb7 hba s7 T1)
        | (go_at_call 19; ((with_reducible refine (hin _).mono ?_); rintro e w8 ⟨rfl, hb8⟩); have S8 := Lib.hid (S7.out.below hb8); clear hb8)
        | (go_at_call 13; ((with_reducible refine (lenT S8.out.tab (n := 0) rfl).mono ?_); rintro e w9 ⟨rfl, rfl⟩)))
      go_ret
      exact ⟨rfl, S8.out.bel⟩
end Go.Proofs.Ytpoognkppnplpaa
