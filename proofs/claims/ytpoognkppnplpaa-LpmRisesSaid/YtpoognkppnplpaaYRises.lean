/-
  LpmRises: the law's walk.
-/
import Derived.Test.YtpoognkppnplpaaYAllL
namespace Go.Proofs.Ytpoognkppnplpaa
set_option linter.unusedSimpArgs false
set_option linter.unusedVariables false
open Go.RowKit
theorem rises_no (room : Int) (hroom : room < 1 ∨ 4096 < room) (a : Option Addr) (cap : Nat) (l : List Stp) (hl : l.length ≤ 9223372036854775807) (n : Nat) (b : Int) (w : World) :
    Calls Try.prog 7 #[.int .i64 room, .slice a l.length cap, .agg #[.int .u32 n, .int .i64 b]] w fun e w' => e = .returned (.bool true) ∧ Below w.heap.size w w' := by
  have haw := awake_any (w.alloc (.cells #[.int .u32 n, .int .i64 b] 25))
  have hmd := made_no room hroom a cap l hl
  have HB := Lib.hid ((Below.refl w.heap.size w).alloc (Nat.le_refl _) (.cells #[.int .u32 n, .int .i64 b] 25))
  generalize l.length = len at *
  clear hl hroom
  go_enter Try.func7, Try.ntmps7
  go_wp2_with (first
    | (go_at_call 9; refine haw.mono ?_; rintro e w1 ⟨rfl, hb1⟩; have HB1 := Lib.hid (HB.out.trans (hb1.mono HB.out.size)); clear hb1)
    | (go_at_call 10; refine (hmd _).mono ?_; rintro e w2 ⟨rfl, hb2⟩; have HB2 := Lib.hid (HB1.out.trans (hb2.mono HB1.out.size)); clear hb2))
  go_ret
  exact ⟨rfl, HB2.out⟩
/-- What follows the loop, by the case: the errors, and what is found. -/
theorem rises_end (room : Int) (L : List Ent) (hg : Good L) (n : Nat) (hn : n < 4294967296) (b : Int) : ∃ (E : Int) (L2 : List Ent) (m : Int) (is : Bool), putE room L (n, b) = E ∧ putA room L (n, b) 77 = L2 ∧ (match getL L2 (n, b) with | some m => (m, true) | none => ((0 : Int), false)) = (m, is) ∧
    ((E = 0 ∧ is = true ∧ m = 77) ∨ (E = 3 ∧ is = false) ∨ (E = 1 ∧ is = false ∧ rightP (n, b) = false)) := by
  cases hr : rightP (n, b) with
  | false =>
    have e : putE room L (n, b) = 1 := by unfold putE; rw [hr]; rfl
    have hgn : getL L (n, b) = none := by
      cases hx : getL L (n, b) with
      | none => rfl
      | some m => have := (hg.right _ ((getL_mem hg.rises).1 hx)).1; rw [hr] at this; cases this
    refine ⟨1, L, 0, false, e, by unfold putA; rw [e]; rfl, by rw [hgn], .inr (.inr ⟨rfl, rfl, rfl⟩)⟩
  | true =>
    by_cases hf : getL L (n, b) = none ∧ (L.length : Int) = room
    · have e : putE room L (n, b) = 3 := by unfold putE; rw [hr, if_pos rfl, if_pos hf]
      exact ⟨3, L, 0, false, e, by unfold putA; rw [e]; rfl, by rw [hf.1], .inr (.inl ⟨rfl, rfl⟩)⟩
    · have e : putE room L (n, b) = 0 := by unfold putE; rw [hr, if_pos rfl, if_neg hf]
      exact ⟨0, putL (n, b) 77 L, 77, true, e, by unfold putA; rw [e]; rfl, by rw [getL_put hg, if_pos rfl], .inl ⟨rfl, rfl, rfl⟩⟩
set_option maxHeartbeats 4000000 in
set_option maxRecDepth 100000 in
theorem rises_ok (room : Int) (h1 : 1 ≤ room) (h2 : room ≤ 4096) (a : Option Addr) (cap : Nat) (l : List Stp) (hl : l.length ≤ 9223372036854775807) (n : Nat) (hn : n < 4294967296) (b : Int) (w : World) (hr : RdS w.heap.size w a l) :
    Calls Try.prog 7 #[.int .i64 room, .slice a l.length cap, .agg #[.int .u32 n, .int .i64 b]] w fun e w' => e = .returned (.bool true) ∧ Below w.heap.size w w' := by
  have haw := awake_any (w.alloc (.cells #[.int .u32 n, .int .i64 b] 25))
  have hmd := fun W (hW : Below w.heap.size w W) => made_okP room h1 h2 a cap l hl W ((hr.below hW (Nat.le_refl _)).mono hW.size)
  have HB := Lib.hid ((Below.refl w.heap.size w).alloc (Nat.le_refl _) (.cells #[.int .u32 n, .int .i64 b] 25))
  have BX := Lib.hid (Bx.new w (.int .u32 n) (.int .i64 b))
  have hd := done_ok h1 h2 l (fun s hs => by obtain ⟨j, hj⟩ := List.getElem?_of_mem hs; exact (hr j s hj).1)
  generalize doneL room l = L at *
  obtain ⟨E, L2, m, is, hE, hA, hres, hcase⟩ := rises_end room L hd.1 n hn b
  have hrt := right_any n hn b
  obtain ⟨nl, hnl⟩ : ∃ nl, L.length = nl := ⟨_, rfl⟩
  have hnle : (nl : Int) ≤ room := by rw [← hnl]; exact hd.2
  have hdl : decide ((nl : Int) ≤ room) = true := decide_eq_true hnle
  have HMD := Lib.hid hmd
  have HE := Lib.hid hE
  have HA := Lib.hid hA
  have HRES := Lib.hid hres
  have HNL := Lib.hid hnl
  have HGOOD := Lib.hid hd.1
  have HCASE := Lib.hid hcase
  have hnl5 : nl ≤ 4096 := by omega
  generalize l.length = len at *
  clear hmd hE hA hres hnl hd hcase hr hl h1 h2
  go_enter Try.func7, Try.ntmps7
  go_wp2_with (first
    | (go_at_call 9; refine haw.mono ?_; rintro e w1 ⟨rfl, hb1⟩; have BX1 := Lib.hid (BX.out.keep hb1 BX.out.lt); have HB1 := Lib.hid (HB.out.trans (hb1.mono HB.out.size)); clear hb1)
    | (go_at_call 10; ((with_reducible refine (HMD.out _ HB1.out).mono ?_); rintro e w2 ⟨rfl, hb2⟩); have st := (⟨hb2.tab, hb2.ref, HB1.out.trans (hb2.bel.mono HB1.out.size), HB1.out.size, BX1.out.keep hb2.bel BX1.out.lt⟩ : St w w1 room L L w.heap.size n b w2); have S2 := Lib.hid st; clear hb2 st)
    | (go_at_call 15; ((with_reducible refine (allT S2.out.tab HNL.out).mono ?_); rintro e w4 ⟨⟨A, c, rfl, ho⟩, hb4⟩); have S4 := Lib.hid (S2.out.below hb4); have O4 := Lib.hid ho; clear hb4 ho))
  go_loopw [12] (fun i wr => ∃ j : Nat, i = .int .i64 j ∧ Hid (1 ≤ j ∧ (j ≤ nl ∨ j = 1)) ∧ Hid (Below w4.heap.size w4 wr)) (fun i _ => nl - (intOf i).toNat)
  case atStart => exact ⟨1, rfl, ⟨Nat.le_refl _, .inr rfl⟩, Below.refl _ _⟩
  case round =>
    obtain ⟨j, rfl, HJ, HBL⟩ := hrel
    obtain ⟨hj1, hj2⟩ := HJ.out
    by_cases hlt : j < nl
    · obtain ⟨y, hy⟩ : ∃ y, L[j]? = some y := ⟨_, List.getElem?_eq_getElem (by have := HNL.out; omega)⟩
      obtain ⟨z, hz⟩ : ∃ z, L[j - 1]? = some z := ⟨_, List.getElem?_eq_getElem (by have := HNL.out; omega)⟩
      have hless : lessP z.1 y.1 := by
        have hp := HGOOD.out.rises
        rw [List.pairwise_iff_getElem] at hp
        obtain ⟨g1, e1⟩ := List.getElem?_eq_some_iff.1 hz
        obtain ⟨g2, e2⟩ := List.getElem?_eq_some_iff.1 hy
        have := hp (j - 1) j g1 g2 (by omega)
        rwa [e1, e2] at this
      have hyn : (netsL L)[j]? = some y.1 := by unfold netsL; rw [List.getElem?_map, hy]; rfl
      have hzn : (netsL L)[j - 1]? = some z.1 := by unfold netsL; rw [List.getElem?_map, hz]; rfl
      obtain ⟨W1, hW1⟩ : ∃ W1, wr.drew = W1 := ⟨_, rfl⟩
      have hb1 : Below w4.heap.size w4 W1 := by rw [← hW1]; exact HBL.out.drew
      have O5 := O4.out.below hb1 (Nat.le_refl _)
      obtain ⟨g, hA2⟩ : ∃ g, A = some ⟨g, 0, none⟩ := by
        rcases O5.form with ⟨e, _⟩ | ⟨g, cap, e, _⟩
        · injection e with _ e2 _; omega
        · injection e with e1 _ _; exact ⟨g, e1⟩
      subst hA2
      obtain ⟨y0, y1⟩ := O5.cell hyn
      obtain ⟨z0, z1⟩ := O5.cell hzn
      have hcm := compare_any z.1.1 z.1.2 y.1.1 y.1.2 W1
      have hneg := (cmpP_neg (z.1.1, z.1.2) (y.1.1, y.1.2)).2 hless
      generalize cmpP (z.1.1, z.1.2) (y.1.1, y.1.2) = Z at *
      have hdz : decide (0 ≤ Z) = false := decide_eq_false (by omega)
      have ej : IntKind.i64.wrap ((j : Int) - 1) = ((j - 1 : Nat) : Int) := by rw [IntWalk.i64_in _ (by omega)]; omega
      obtain ⟨j1, hj1e⟩ : ∃ j1, j - 1 = j1 := ⟨_, rfl⟩
      rw [hj1e] at ej z0 z1
      have hj0 : 0 < nl := by omega
      have hj11 : j1 < nl := by omega
      have hj12 : (0 : Int) ≤ j1 := by omega
      have HW := Lib.hid hW1
      have HB5 := Lib.hid hb1
      clear hy hz hless hyn hzn O5 hneg hj1e hb1 hW1
      go_wp2
      refine region_tail 9 (by kernel_rfl) (by kernel_rfl) W1 HW.out ?_
      simp only [List.take_succ_cons, List.take_zero, List.drop_succ_cons, List.drop_zero]
      iterate 9 still_step
      refine wpStill_nil ?_
      go_wp2_with (go_at_call 23; ((with_reducible refine hcm.mono ?_); rintro e w6 ⟨rfl, hb6⟩); have HB6 := Lib.hid (HB5.out.trans (hb6.mono HB5.out.size)); clear hb6)
      go_roundw
      case rel => exact ⟨j + 1, by go_num, ⟨by omega, .inl (by omega)⟩, HB6.out⟩
      case measure => simp [intOf]; omega
    · have hs := S4.out.below HBL.out
      obtain ⟨c0, c1, _, _⟩ := hs.box.cells
      have S5 := Lib.hid hs
      clear hs
      rcases HCASE.out with ⟨rfl, rfl, rfl⟩ | ⟨rfl, rfl⟩ | ⟨rfl, rfl, hright⟩
      · go_wp2_with (first
          | (go_at_call 22; ((with_reducible refine (putT S5.out.tab n hn b 77 HE.out HA.out).mono ?_); rintro e w7 ⟨rfl, hq⟩); have st := S5.out.turn hq; obtain ⟨d0, d1, _, _⟩ := st.box.cells; have S7 := Lib.hid st; clear hq st)
          | (go_at_call 11; ((with_reducible refine (getT S7.out.tab n hn b _ _ HRES.out).mono ?_); rintro e w8 ⟨rfl, hb8⟩); have st := S7.out.below hb8; obtain ⟨f0, f1, _, _⟩ := st.box.cells; have S8 := Lib.hid st; clear hb8 st))
        go_ret
        exact ⟨rfl, S8.out.bel⟩
      · go_wp2_with (first
          | (go_at_call 22; ((with_reducible refine (putT S5.out.tab n hn b 77 HE.out HA.out).mono ?_); rintro e w7 ⟨rfl, hq⟩); have st := S5.out.turn hq; obtain ⟨d0, d1, _, _⟩ := st.box.cells; have S7 := Lib.hid st; clear hq st)
          | (go_at_call 11; ((with_reducible refine (getT S7.out.tab n hn b _ _ HRES.out).mono ?_); rintro e w8 ⟨rfl, hb8⟩); have st := S7.out.below hb8; obtain ⟨f0, f1, _, _⟩ := st.box.cells; have S8 := Lib.hid st; clear hb8 st))
        go_ret
        exact ⟨rfl, S8.out.bel⟩
      · rw [hright] at hrt
        clear hright
        go_wp2_with (first
          | (go_at_call 22; ((with_reducible refine (putT S5.out.tab n hn b 77 HE.out HA.out).mono ?_); rintro e w7 ⟨rfl, hq⟩); have st := S5.out.turn hq; obtain ⟨d0, d1, _, _⟩ := st.box.cells; have S7 := Lib.hid st; clear hq st)
          | (go_at_call 11; ((with_reducible refine (getT S7.out.tab n hn b _ _ HRES.out).mono ?_); rintro e w8 ⟨rfl, hb8⟩); have st := S7.out.below hb8; obtain ⟨f0, f1, _, _⟩ := st.box.cells; have S8 := Lib.hid st; clear hb8 st)
          | (go_at_call 24; ((with_reducible refine (hrt _).mono ?_); rintro e w9 ⟨rfl, hb9⟩); have S9 := Lib.hid (S8.out.below hb9); clear hb9))
        go_ret
        exact ⟨rfl, S9.out.bel⟩
theorem rises_walk (room : Int) (a : Option Addr) (cap : Nat) (l : List Stp) (hl : l.length ≤ 9223372036854775807) (n : Nat) (hn : n < 4294967296) (b : Int) (w : World) (hr : RdS w.heap.size w a l) :
    Calls Try.prog 7 #[.int .i64 room, .slice a l.length cap, .agg #[.int .u32 n, .int .i64 b]] w fun e w' => e = .returned (.bool true) ∧ Below w.heap.size w w' := by
  by_cases h1 : 1 ≤ room
  · by_cases h2 : room ≤ 4096
    · exact rises_ok room h1 h2 a cap l hl n hn b w hr
    · exact rises_no room (.inr (by omega)) a cap l hl n b w
  · exact rises_no room (.inl (by omega)) a cap l hl n b w
end Go.Proofs.Ytpoognkppnplpaa
