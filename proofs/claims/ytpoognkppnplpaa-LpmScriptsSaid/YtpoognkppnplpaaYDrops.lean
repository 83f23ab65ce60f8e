/-
  LpmDrops: the law's walk.
-/
import Derived.Test.YtpoognkppnplpaaYAwk
namespace Go.Proofs.Ytpoognkppnplpaa
set_option linter.unusedSimpArgs false
set_option linter.unusedVariables false
open Go.RowKit
theorem OwnP.keepT {S : TypeId → Prop} (hS : S 25) {W W' : World} {base : Nat} {v : Value} {l : List (Nat × Int)} (h : OwnP W base v l) (k : KeepT S W W') : OwnP W' base v l := by
  refine ⟨h.1, ?_⟩
  rcases h.2 with h2 | ⟨g, cap, cur, e, hg, hh, r⟩
  · exact .inl h2
  · exact .inr ⟨g, cap, cur, e, hg, k.2 _ _ _ _ hS hh, r⟩
theorem Bx.keepT {S : TypeId → Prop} (hS : S 25) {W W' : World} {k : Nat} {x y : Value} (h : Bx W k x y) (t : KeepT S W W') : Bx W' k x y := t.2 _ _ _ _ hS h
theorem netsL_len (L : List Ent) : (netsL L).length = L.length := by unfold netsL; simp
theorem OwnP.shapeN {W : World} {base : Nat} {v : Value} {l : List (Nat × Int)} (h : OwnP W base v l) {n : Nat} (hn : l.length = n) : ∃ A c, v = .slice A n c := by
  subst hn
  rcases h.form with ⟨e, hs⟩ | ⟨g, cap, e, _⟩
  · exact ⟨none, 0, by rw [e, hs]; rfl⟩
  · exact ⟨_, _, e⟩
/-- What any steps leave. -/
theorem done_ok {room : Int} (h1 : 1 ≤ room) (h2 : room ≤ 4096) (l : List Stp) (hl : ∀ s ∈ l, s.p.1 < 4294967296) : Good (doneL room l) ∧ ((doneL room l).length : Int) ≤ room := by
  unfold doneL
  have h : ∀ (m : List Stp) (L : List Ent), (∀ s ∈ m, s.p.1 < 4294967296) → Good L → (L.length : Int) ≤ room → Good (m.foldl (stL room) L) ∧ ((m.foldl (stL room) L).length : Int) ≤ room := by
    intro m
    induction m with
    | nil => intro L _ hg hle; exact ⟨hg, hle⟩
    | cons s m ih =>
      intro L hs hg hle
      rw [List.foldl_cons]
      refine ih _ (fun t ht => hs t (List.mem_cons_of_mem _ ht)) ?_ ?_
      · unfold stL putA
        split
        · split
          · rename_i he
            unfold putE at he
            split at he
            · rename_i hr
              exact hg.put hr (hs s (by simp)) _
            · cases he
          · exact hg
        · exact hg.drop _
      · unfold stL putA
        split
        · split
          · rename_i he
            have hpl := putL_length hg.rises s.p s.n
            unfold putE at he
            split at he
            · split at he
              · cases he
              · rename_i hn
                rw [hpl]
                split
                · exact hle
                · rename_i hns
                  have : getL L s.p = none := by simpa using hns
                  have h3 : ¬ (L.length : Int) = room := fun e => hn ⟨this, e⟩
                  omega
            · cases he
          · exact hle
        · have := List.length_filter_le (fun x => !decide (x.1 = s.p)) L
          unfold dropL
          omega
  exact h _ [] (fun s hs => hl s (List.mem_of_mem_take hs)) Good.nil (by simp; omega)
section
variable {W : World} {base tb rb : Nat} {room : Int} {L : List Ent}
theorem findT (h : TabP W base tb room L) (a : Nat) (ha : a < 4294967296) (x : Ent) (is : Bool) (hres : (lastE (onL a L), hasE (onL a L)) = (x, is)) :
    Calls Try.prog 17 #[.pointer (some ⟨tb, 0, none⟩), .int .u32 a] W fun e w' => e = .returned (.tuple #[.agg #[.int .u32 x.1.1, .int .i64 x.1.2], .int .i64 x.2, .bool is]) ∧ Below W.heap.size W w' := tfind_any _ _ a ha room L W h x is hres
theorem getT (h : TabP W base tb room L) (n : Nat) (hn : n < 4294967296) (b : Int) (r1 : Int) (r2 : Bool) (hres : (match getL L (n, b) with | some m => (m, true) | none => ((0 : Int), false)) = (r1, r2)) :
    Calls Try.prog 11 #[.pointer (some ⟨tb, 0, none⟩), .agg #[.int .u32 n, .int .i64 b]] W fun e w' => e = .returned (.tuple #[.int .i64 r1, .bool r2]) ∧ Below W.heap.size W w' := tget_any _ _ n hn b room L W h r1 r2 hres
theorem allT (h : TabP W base tb room L) {n : Nat} (hn : L.length = n) : Calls Try.prog 15 #[.pointer (some ⟨tb, 0, none⟩)] W fun e w' => (∃ A c, e = .returned (.slice A n c) ∧ OwnP w' W.heap.size (.slice A n c) (netsL L)) ∧ Below W.heap.size W w' :=
  (tall_any _ _ room L W h).mono fun e w' ⟨⟨v, he, ho⟩, hb⟩ => by
    obtain ⟨A, c, hv⟩ := ho.shapeN ((netsL_len L).trans hn)
    subst hv
    exact ⟨⟨A, c, he, ho⟩, hb⟩
theorem lenT (h : TabP W base tb room L) {n : Nat} (hn : L.length = n) : Calls Try.prog 13 #[.pointer (some ⟨tb, 0, none⟩)] W fun e w' => e = .returned (.int .i64 n) ∧ W = w' := by
  subst hn
  exact len_any _ _ room L W h
theorem putT (h : TabP W base tb room L) (n : Nat) (hn : n < 4294967296) (b k : Int) {E : Int} {L2 : List Ent} (hE : putE room L (n, b) = E) (hL : putA room L (n, b) k = L2) :
    Calls Try.prog 22 #[.pointer (some ⟨tb, 0, none⟩), .agg #[.int .u32 n, .int .i64 b], .int .i64 k] W fun e w' => e = .returned (.int .i64 E) ∧ PutEnd W base tb room L2 w' := by
  subst hE hL
  exact put_any _ _ n hn b k room L W h
theorem dropT (h : TabP W base tb room L) (n : Nat) (hn : n < 4294967296) (b : Int) {E : Bool} {L2 : List Ent} (hE : dropE L (n, b) = E) (hL : dropL (n, b) L = L2) :
    Calls Try.prog 20 #[.pointer (some ⟨tb, 0, none⟩), .agg #[.int .u32 n, .int .i64 b]] W fun e w' => e = .returned (.bool E) ∧ PutEnd W base tb room L2 w' := by
  subst hE hL
  exact drop_any _ _ n hn b room L W h
theorem rfindR (h : RefP W base rb room L) (a : Nat) (ha : a < 4294967296) (x : Ent) (is : Bool) (hres : (lastE (onL a L), hasE (onL a L)) = (x, is)) :
    Calls Try.prog 18 #[.pointer (some ⟨rb, 0, none⟩), .int .u32 a] W fun e w' => e = .returned (.tuple #[.agg #[.int .u32 x.1.1, .int .i64 x.1.2], .int .i64 x.2, .bool is]) ∧ Below W.heap.size W w' := rfind_any _ _ a ha room L W h x is hres
theorem rdropR (h : RefP W base rb room L) (n : Nat) (b : Int) {E : Bool} {L2 : List Ent} (hE : dropE L (n, b) = E) (hL : dropL (n, b) L = L2) :
    Calls Try.prog 21 #[.pointer (some ⟨rb, 0, none⟩), .agg #[.int .u32 n, .int .i64 b]] W fun e w' => e = .returned (.bool E) ∧ RPutEnd W base rb room L2 w' := by
  subst hE hL
  exact rdrop_any _ _ n b room L W h
theorem sameT {l : List (Nat × Int)} {b1 b2 n : Nat} {A B : Option Addr} {c d : Nat} (h1 : OwnP W b1 (.slice A n c) l) (h2 : OwnP W b2 (.slice B n d) l) (hn : l.length = n) (hl : n ≤ 5000) :
    Calls Try.prog 14 #[.slice A n c, .slice B n d] W fun e w' => e = .returned (.bool true) ∧ Below W.heap.size W w' := by
  subst hn
  have := same_any A B c d l l hl hl W h1.rd h2.rd
  rwa [decide_eq_true rfl] at this
end
/-- What a law holds behind made: both tables, a net's box. -/
structure St (w wm : World) (room : Int) (L L2 : List Ent) (k : Nat) (n : Nat) (b : Int) (W : World) : Prop where
  tab : TabP W wm.heap.size wm.heap.size room L
  ref : RefP W (wm.heap.size + 1) (wm.heap.size + 1) room L2
  bel : Below w.heap.size w W
  lo : w.heap.size ≤ wm.heap.size
  box : Bx W k (.int .u32 n) (.int .i64 b)
theorem St.below {w wm : World} {room : Int} {L L2 : List Ent} {k n : Nat} {b : Int} {W W' : World} (h : St w wm room L L2 k n b W) (hb : Below W.heap.size W W') : St w wm room L L2 k n b W' := ⟨h.tab.below hb, h.ref.below hb, h.bel.trans (hb.mono h.bel.size), h.lo, h.box.keep hb h.box.lt⟩
theorem St.turn {w wm : World} {room : Int} {L L' L2 : List Ent} {k n : Nat} {b : Int} {W W' : World} (h : St w wm room L L2 k n b W) (hq : PutEnd W wm.heap.size wm.heap.size room L' W') : St w wm room L' L2 k n b W' := ⟨hq.1, h.ref.keep hq.2.keep, h.bel.trans (hq.2.bel.mono h.lo), h.lo, h.box.keepT (by unfold SP; decide) hq.2.keep⟩
theorem St.rturn {w wm : World} {room : Int} {L L2 L3 : List Ent} {k n : Nat} {b : Int} {W W' : World} (h : St w wm room L L2 k n b W) (hq : RPutEnd W (wm.heap.size + 1) (wm.heap.size + 1) room L3 W') : St w wm room L L3 k n b W' := ⟨h.tab.keep hq.2.keep, hq.1, h.bel.trans (hq.2.bel.mono (by have := h.lo; omega)), h.lo, h.box.keepT (by unfold SR; decide) hq.2.keep⟩
theorem drops_no (room : Int) (hroom : room < 1 ∨ 4096 < room) (a : Option Addr) (cap : Nat) (l : List Stp) (hl : l.length ≤ 9223372036854775807) (n : Nat) (b : Int) (w : World) :
    Calls Try.prog 6 #[.int .i64 room, .slice a l.length cap, .agg #[.int .u32 n, .int .i64 b]] w fun e w' => e = .returned (.bool true) ∧ Below w.heap.size w w' := by
  have haw := awake_any (w.alloc (.cells #[.int .u32 n, .int .i64 b] 25))
  have hmd := made_no room hroom a cap l hl
  have HB := Lib.hid ((Below.refl w.heap.size w).alloc (Nat.le_refl _) (.cells #[.int .u32 n, .int .i64 b] 25))
  generalize l.length = len at *
  clear hl hroom
  go_enter Try.func6, Try.ntmps6
  go_wp2_with (first
    | (go_at_call 9; refine haw.mono ?_; rintro e w1 ⟨rfl, hb1⟩; have HB1 := Lib.hid (HB.out.trans (hb1.mono HB.out.size)); clear hb1)
    | (go_at_call 10; refine (hmd _).mono ?_; rintro e w2 ⟨rfl, hb2⟩; have HB2 := Lib.hid (HB1.out.trans (hb2.mono HB1.out.size)); clear hb2))
  go_ret
  exact ⟨rfl, HB2.out⟩
set_option maxHeartbeats 4000000 in
set_option maxRecDepth 100000 in
theorem drops_is (room : Int) (h1 : 1 ≤ room) (h2 : room ≤ 4096) (a : Option Addr) (cap : Nat) (l : List Stp) (hl : l.length ≤ 9223372036854775807) (n : Nat) (hn : n < 4294967296) (b : Int) (w : World) (hr : RdS w.heap.size w a l) (m : Int) (hg : getL (doneL room l) (n, b) = some m) (hgood : Good (doneL room l)) (hlen : ((doneL room l).length : Int) ≤ room) :
    Calls Try.prog 6 #[.int .i64 room, .slice a l.length cap, .agg #[.int .u32 n, .int .i64 b]] w fun e w' => e = .returned (.bool true) ∧ Below w.heap.size w w' := by
  have haw := awake_any (w.alloc (.cells #[.int .u32 n, .int .i64 b] 25))
  have hmd := fun W (hW : Below w.heap.size w W) => made_okP room h1 h2 a cap l hl W ((hr.below hW (Nat.le_refl _)).mono hW.size)
  have HB := Lib.hid ((Below.refl w.heap.size w).alloc (Nat.le_refl _) (.cells #[.int .u32 n, .int .i64 b] 25))
  have BX := Lib.hid (Bx.new w (.int .u32 n) (.int .i64 b))
  generalize doneL room l = L at *
  have hrp := (hgood.right _ ((getL_mem hgood.rises).1 hg)).1
  obtain ⟨L', hL'⟩ : ∃ L', dropL (n, b) L = L' := ⟨_, rfl⟩
  obtain ⟨x, is, hres⟩ : ∃ x is, (lastE (onL n L'), hasE (onL n L')) = (x, is) := ⟨_, _, rfl⟩
  have hE : dropE L (n, b) = true := by unfold dropE; rw [hg]; rfl
  have hg' : getL L' (n, b) = none := by rw [← hL', getL_drop hgood, if_pos rfl]
  have hll := dropL_length hgood.rises (n, b)
  rw [hg, hL'] at hll
  simp only [Option.isSome_some, if_true] at hll
  have hpE : putE room L' (n, b) = 0 := by unfold putE; rw [hrp, if_pos rfl, if_neg (fun hh => by have := hh.2; omega)]
  have hpA : putA room L' (n, b) m = L := by unfold putA; rw [hpE, if_pos rfl, ← hL']; exact put_drop hgood.rises hg
  obtain ⟨nl, hnl⟩ : ∃ nl, L.length = nl := ⟨_, rfl⟩
  have hnl' : L'.length = nl - 1 := by omega
  have hpos : 1 ≤ nl := by omega
  have hnl5 : nl ≤ 4096 := by omega
  have HMD := Lib.hid hmd
  have HG := Lib.hid hg
  have HG' := Lib.hid hg'
  have HE := Lib.hid hE
  have HLL := Lib.hid hL'
  have HRES := Lib.hid hres
  have HPE := Lib.hid hpE
  have HPA := Lib.hid hpA
  have HNL := Lib.hid hnl
  have HNL' := Lib.hid hnl'
  obtain ⟨⟨xn, xb⟩, xv⟩ := x
  generalize l.length = len at *
  have T1 : True := trivial
  have T2 : True := trivial
  clear hmd hg hg' hE hL' hres hpE hpA hnl hnl' hr hl hgood hlen hrp hll h1 h2
  go_enter Try.func6, Try.ntmps6
  go_wp2_with (first
    | (go_at_call 9; refine haw.mono ?_; rintro e w1 ⟨rfl, hb1⟩; have BX1 := Lib.hid (BX.out.keep hb1 BX.out.lt); have HB1 := Lib.hid (HB.out.trans (hb1.mono HB.out.size)); clear hb1)
    | (go_at_call 10; ((with_reducible refine (HMD.out _ HB1.out).mono ?_); rintro e w2 ⟨rfl, hb2⟩); have st := (⟨hb2.tab, hb2.ref, HB1.out.trans (hb2.bel.mono HB1.out.size), HB1.out.size, BX1.out.keep hb2.bel BX1.out.lt⟩ : St w w1 room L L w.heap.size n b w2); have S2 := Lib.hid st; obtain ⟨c0, c1, _, _⟩ := st.box.cells; clear hb2 st)
    | (go_at_call 11; have _t := T1; ((with_reducible refine (getT S2.out.tab n hn b m true (by rw [HG.out])).mono ?_); rintro e w3 ⟨rfl, hb3⟩); have st := S2.out.below hb3; have S3 := Lib.hid st; obtain ⟨c0, c1, _, _⟩ := st.box.cells; clear hb3 st T1)
    | (go_at_call 15; have _t := T2; ((with_reducible refine (allT S3.out.tab HNL.out).mono ?_); rintro e w4 ⟨⟨A, c, rfl, ho⟩, hb4⟩); have st := S3.out.below hb4; have S4 := Lib.hid st; have O4 := Lib.hid ho; obtain ⟨c0, c1, _, _⟩ := st.box.cells; clear hb4 st ho T2)
    | (go_at_call 20; ((with_reducible refine (dropT S4.out.tab n hn b HE.out HLL.out).mono ?_); rintro e w5 ⟨rfl, hq⟩); have st := S4.out.turn hq; have S5 := Lib.hid st; have O5 := Lib.hid (O4.out.keepT (by unfold SP; decide) hq.2.keep); obtain ⟨c0, c1, _, _⟩ := st.box.cells; clear hq st)
    | (go_at_call 11; ((with_reducible refine (getT S5.out.tab n hn b 0 false (by rw [HG'.out])).mono ?_); rintro e w6 ⟨rfl, hb3⟩); have st := S5.out.below hb3; have S6 := Lib.hid st; have O6 := Lib.hid (O5.out.below hb3 (Nat.le_refl _)); obtain ⟨c0, c1, _, _⟩ := st.box.cells; clear hb3 st)
    | (go_at_call 13; ((with_reducible refine (lenT S6.out.tab HNL'.out).mono ?_); rintro e w7 ⟨rfl, rfl⟩))
    | (go_at_call 17; ((with_reducible refine (findT S6.out.tab n hn _ _ HRES.out).mono ?_); rintro e w8 ⟨rfl, hb3⟩); have hba := (Below.refl w8.heap.size w8).alloc (Nat.le_refl _) (.cells #[.int .u32 xn, .int .i64 xb] 25); have st := (S6.out.below hb3).below hba; have S8 := Lib.hid st; have O8 := Lib.hid ((O6.out.below hb3 (Nat.le_refl _)).below hba (Nat.le_refl _)); have X8 := Lib.hid (Bx.new w8 (.int .u32 xn) (.int .i64 xb)); obtain ⟨c0, c1, _, _⟩ := st.box.cells; clear hb3 st hba)
    | (go_at_call 21; ((with_reducible refine (rdropR S8.out.ref n b HE.out HLL.out).mono ?_); rintro e w9 ⟨rfl, hq⟩); have st := S8.out.rturn hq; have S9 := Lib.hid st; have O9 := Lib.hid (O8.out.keepT (by unfold SR; decide) hq.2.keep); have X9 := Lib.hid (X8.out.keepT (by unfold SR; decide) hq.2.keep); obtain ⟨c0, c1, _, _⟩ := st.box.cells; clear hq st)
    | (go_at_call 18; ((with_reducible refine (rfindR S9.out.ref n hn _ _ HRES.out).mono ?_); rintro e w10 ⟨rfl, hb3⟩); have hba := (Below.refl w10.heap.size w10).alloc (Nat.le_refl _) (.cells #[.int .u32 xn, .int .i64 xb] 25); have st := (S9.out.below hb3).below hba; have S10 := Lib.hid st; have O10 := Lib.hid ((O9.out.below hb3 (Nat.le_refl _)).below hba (Nat.le_refl _)); have x10 := (X9.out.keep hb3 X9.out.lt).alloc (.cells #[.int .u32 xn, .int .i64 xb] 25); have y10 := Bx.new w10 (.int .u32 xn) (.int .i64 xb); obtain ⟨d0, d1, _, _⟩ := x10.cells; obtain ⟨f0, f1, _, _⟩ := y10.cells; obtain ⟨c0, c1, _, _⟩ := st.box.cells; clear hb3 st hba x10 y10)
    | (go_at_call 22; ((with_reducible refine (putT S10.out.tab n hn b m HPE.out HPA.out).mono ?_); rintro e w11 ⟨rfl, hq⟩); have S11 := Lib.hid (S10.out.turn hq); have O11 := Lib.hid (O10.out.keepT (by unfold SP; decide) hq.2.keep); clear hq)
    | (go_at_call 15; ((with_reducible refine (allT S11.out.tab HNL.out).mono ?_); rintro e w12 ⟨⟨A2, c2, rfl, ho⟩, hb4⟩); have S12 := Lib.hid (S11.out.below hb4); have P12 := Lib.hid ho; have O12 := Lib.hid (O11.out.below hb4 (Nat.le_refl _)); clear hb4 ho)
    | (go_at_call 14; ((with_reducible refine (sameT P12.out O12.out ((netsL_len L).trans HNL.out) (by omega)).mono ?_); rintro e w13 ⟨rfl, hb4⟩); have S13 := Lib.hid (S12.out.below hb4); clear hb4))
  go_ret
  exact ⟨rfl, S13.out.bel⟩
set_option maxHeartbeats 4000000 in
set_option maxRecDepth 100000 in
theorem drops_not (room : Int) (h1 : 1 ≤ room) (h2 : room ≤ 4096) (a : Option Addr) (cap : Nat) (l : List Stp) (hl : l.length ≤ 9223372036854775807) (n : Nat) (hn : n < 4294967296) (b : Int) (w : World) (hr : RdS w.heap.size w a l) (hg : getL (doneL room l) (n, b) = none) (hgood : Good (doneL room l)) (hlen : ((doneL room l).length : Int) ≤ room) :
    Calls Try.prog 6 #[.int .i64 room, .slice a l.length cap, .agg #[.int .u32 n, .int .i64 b]] w fun e w' => e = .returned (.bool true) ∧ Below w.heap.size w w' := by
  have haw := awake_any (w.alloc (.cells #[.int .u32 n, .int .i64 b] 25))
  have hmd := fun W (hW : Below w.heap.size w W) => made_okP room h1 h2 a cap l hl W ((hr.below hW (Nat.le_refl _)).mono hW.size)
  have HB := Lib.hid ((Below.refl w.heap.size w).alloc (Nat.le_refl _) (.cells #[.int .u32 n, .int .i64 b] 25))
  have BX := Lib.hid (Bx.new w (.int .u32 n) (.int .i64 b))
  generalize doneL room l = L at *
  have hL' := dropL_none hg
  obtain ⟨x, is, hres⟩ : ∃ x is, (lastE (onL n L), hasE (onL n L)) = (x, is) := ⟨_, _, rfl⟩
  have hE : dropE L (n, b) = false := by unfold dropE; rw [hg]; rfl
  obtain ⟨nl, hnl⟩ : ∃ nl, L.length = nl := ⟨_, rfl⟩
  have hnl5 : nl ≤ 4096 := by omega
  have HMD := Lib.hid hmd
  have HG := Lib.hid hg
  have HE := Lib.hid hE
  have HLL := Lib.hid hL'
  have HRES := Lib.hid hres
  have HNL := Lib.hid hnl
  obtain ⟨⟨xn, xb⟩, xv⟩ := x
  generalize l.length = len at *
  have T1 : True := trivial
  have T2 : True := trivial
  clear hmd hg hE hL' hres hnl hr hl hgood hlen h1 h2
  go_enter Try.func6, Try.ntmps6
  go_wp2_with (first
    | (go_at_call 9; refine haw.mono ?_; rintro e w1 ⟨rfl, hb1⟩; have BX1 := Lib.hid (BX.out.keep hb1 BX.out.lt); have HB1 := Lib.hid (HB.out.trans (hb1.mono HB.out.size)); clear hb1)
    | (go_at_call 10; ((with_reducible refine (HMD.out _ HB1.out).mono ?_); rintro e w2 ⟨rfl, hb2⟩); have st := (⟨hb2.tab, hb2.ref, HB1.out.trans (hb2.bel.mono HB1.out.size), HB1.out.size, BX1.out.keep hb2.bel BX1.out.lt⟩ : St w w1 room L L w.heap.size n b w2); have S2 := Lib.hid st; obtain ⟨c0, c1, _, _⟩ := st.box.cells; clear hb2 st)
    | (go_at_call 11; have _t := T1; ((with_reducible refine (getT S2.out.tab n hn b 0 false (by rw [HG.out])).mono ?_); rintro e w3 ⟨rfl, hb3⟩); have st := S2.out.below hb3; have S3 := Lib.hid st; obtain ⟨c0, c1, _, _⟩ := st.box.cells; clear hb3 st T1)
    | (go_at_call 15; have _t := T2; ((with_reducible refine (allT S3.out.tab HNL.out).mono ?_); rintro e w4 ⟨⟨A, c, rfl, ho⟩, hb4⟩); have st := S3.out.below hb4; have S4 := Lib.hid st; have O4 := Lib.hid ho; obtain ⟨c0, c1, _, _⟩ := st.box.cells; clear hb4 st ho T2)
    | (go_at_call 20; ((with_reducible refine (dropT S4.out.tab n hn b HE.out HLL.out).mono ?_); rintro e w5 ⟨rfl, hq⟩); have st := S4.out.turn hq; have S5 := Lib.hid st; have O5 := Lib.hid (O4.out.keepT (by unfold SP; decide) hq.2.keep); obtain ⟨c0, c1, _, _⟩ := st.box.cells; clear hq st)
    | (go_at_call 11; ((with_reducible refine (getT S5.out.tab n hn b 0 false (by rw [HG.out])).mono ?_); rintro e w6 ⟨rfl, hb3⟩); have st := S5.out.below hb3; have S6 := Lib.hid st; have O6 := Lib.hid (O5.out.below hb3 (Nat.le_refl _)); obtain ⟨c0, c1, _, _⟩ := st.box.cells; clear hb3 st)
    | (go_at_call 17; ((with_reducible refine (findT S6.out.tab n hn _ _ HRES.out).mono ?_); rintro e w8 ⟨rfl, hb3⟩); have hba := (Below.refl w8.heap.size w8).alloc (Nat.le_refl _) (.cells #[.int .u32 xn, .int .i64 xb] 25); have st := (S6.out.below hb3).below hba; have S8 := Lib.hid st; have O8 := Lib.hid ((O6.out.below hb3 (Nat.le_refl _)).below hba (Nat.le_refl _)); have X8 := Lib.hid (Bx.new w8 (.int .u32 xn) (.int .i64 xb)); obtain ⟨c0, c1, _, _⟩ := st.box.cells; clear hb3 st hba)
    | (go_at_call 21; ((with_reducible refine (rdropR S8.out.ref n b HE.out HLL.out).mono ?_); rintro e w9 ⟨rfl, hq⟩); have st := S8.out.rturn hq; have S9 := Lib.hid st; have O9 := Lib.hid (O8.out.keepT (by unfold SR; decide) hq.2.keep); have X9 := Lib.hid (X8.out.keepT (by unfold SR; decide) hq.2.keep); obtain ⟨c0, c1, _, _⟩ := st.box.cells; clear hq st)
    | (go_at_call 18; ((with_reducible refine (rfindR S9.out.ref n hn _ _ HRES.out).mono ?_); rintro e w10 ⟨rfl, hb3⟩); have hba := (Below.refl w10.heap.size w10).alloc (Nat.le_refl _) (.cells #[.int .u32 xn, .int .i64 xb] 25); have st := (S9.out.below hb3).below hba; have S10 := Lib.hid st; have O10 := Lib.hid ((O9.out.below hb3 (Nat.le_refl _)).below hba (Nat.le_refl _)); have x10 := (X9.out.keep hb3 X9.out.lt).alloc (.cells #[.int .u32 xn, .int .i64 xb] 25); have y10 := Bx.new w10 (.int .u32 xn) (.int .i64 xb); obtain ⟨d0, d1, _, _⟩ := x10.cells; obtain ⟨f0, f1, _, _⟩ := y10.cells; obtain ⟨c0, c1, _, _⟩ := st.box.cells; clear hb3 st hba x10 y10)
    | (go_at_call 15; ((with_reducible refine (allT S10.out.tab HNL.out).mono ?_); rintro e w12 ⟨⟨A2, c2, rfl, ho⟩, hb4⟩); have S12 := Lib.hid (S10.out.below hb4); have P12 := Lib.hid ho; have O12 := Lib.hid (O10.out.below hb4 (Nat.le_refl _)); clear hb4 ho)
    | (go_at_call 14; ((with_reducible refine (sameT P12.out O12.out ((netsL_len L).trans HNL.out) (by omega)).mono ?_); rintro e w13 ⟨rfl, hb4⟩); have S13 := Lib.hid (S12.out.below hb4); clear hb4))
  go_ret
  exact ⟨rfl, S13.out.bel⟩
theorem drops_walk (room : Int) (a : Option Addr) (cap : Nat) (l : List Stp) (hl : l.length ≤ 9223372036854775807) (n : Nat) (hn : n < 4294967296) (b : Int) (w : World) (hr : RdS w.heap.size w a l) :
    Calls Try.prog 6 #[.int .i64 room, .slice a l.length cap, .agg #[.int .u32 n, .int .i64 b]] w fun e w' => e = .returned (.bool true) ∧ Below w.heap.size w w' := by
  by_cases h1 : 1 ≤ room
  · by_cases h2 : room ≤ 4096
    · have hd := done_ok h1 h2 l (fun s hs => by obtain ⟨j, hj⟩ := List.getElem?_of_mem hs; exact (hr j s hj).1)
      cases hg : getL (doneL room l) (n, b) with
      | none => exact drops_not room h1 h2 a cap l hl n hn b w hr hg hd.1 hd.2
      | some m => exact drops_is room h1 h2 a cap l hl n hn b w hr m hg hd.1 hd.2
    · exact drops_no room (.inr (by omega)) a cap l hl n b w
  · exact drops_no room (.inl (by omega)) a cap l hl n b w
end Go.Proofs.Ytpoognkppnplpaa
