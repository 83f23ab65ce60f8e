/-
  FloodSome: the walk.
-/
import Derived.Test.YtbgilngpkogapaaFGoL
import Derived.Deep.RegionHeldLaw
namespace Go.Proofs.Ytbgilngpkogapaa.ti
set_option linter.unusedSimpArgs false
set_option linter.unusedVariables false
open Go.RowKit
theorem KindE.step_append {E' : Type} {sl T : TypeId} {sz bytes : Nat} {z : Value} {enc : E' → List Value} (K : KindE sl T sz bytes z enc) {w : World} {ops : Array Oper} {o : Oper} {a : Act} {K' : Act → World → Prop} {Q : Exit → Act → World → Prop} {E : Prop} (hgd : o.guard = Option.none) (s x : Operand)
    (ho : o.op = .call { callee := .builtin .append, args := #[s, x], argTypes := #[sl, sl] }) (base : Nat) (v : Value) (l : List E') (hs : a.eval s = v) (hown : OwnE T sz enc w base v l)
    (A : Option Addr) (m : List E') (n c : Nat) (hx : a.eval x = .slice A n c) (hn : n = m.length) (hr : RdE sz enc w A m) (h63 : l.length + m.length ≤ maxLen) (hby : (l.length + m.length) * bytes ≤ 140737488355328) (hbase : base ≤ w.heap.size)
    (h : ∀ A' n' c' w', n' = (l ++ m).length → OwnE T sz enc w' base (.slice A' n' c') (l ++ m) → Below base w w' → w.grownBy w' v.ownBlock → K' (a.put o.dst (.slice A' n' c')) w') : if Region.wanted o (yielded ops a.tmps) = true then Oper.wp Try.prog o a w K' Q else E := by
  have hw : Region.wanted o (yielded ops a.tmps) = true := by simp [Region.wanted, hgd]
  rw [if_pos hw]
  subst hn
  obtain ⟨v', w', hrun, h1, h2, h3⟩ := K.append w o.type hown c hr h63 hby hbase
  obtain ⟨A', c', e, _⟩ := h1.shape
  subst e
  unfold Oper.wp
  simp only [execOp, ho, resolve, invoke, builtin, hs, hx, List.size_toArray, List.map_toArray, List.map_cons, List.map_nil, Result.andThen]
  simp [hs, hx, hrun, Result.andThen]
  rw [← List.length_append]
  exact h A' _ c' w' rfl h1 h2 h3
theorem goT_map (s : ScD) (l : List TS) : goT s l = (l.map fun x => x.t).filter fun t => goesG t s := by
  unfold goT
  rw [List.filter_map]
  rfl
theorem goT_append (s : ScD) (l m : List TS) : goT s (l ++ m) = goT s l ++ goT s m := by
  unfold goT
  rw [List.filter_append, List.map_append]
theorem goT_again {s : ScD} {l x : List TS} (h : x.map (fun x => x.t) = goT s l) : goT s x = x.map fun x => x.t := by
  rw [goT_map, h, goT_map, List.filter_filter]
  simp
theorem some_of (s : ScD) (a : Option Addr) (n c : Nat) (l : List TS) (hn : n = l.length) (hl : l.length ≤ 200) (w : World) (h : InL w a l) : Calls Try.prog 11 #[.slice a n c, aggSc s] w fun e w' => GotG w w' s l e := by
  subst hn
  exact psome_any s a c l hl w h
theorem same_of (a b : Option Addr) (c n d : Nat) (l m : List TS) (hn : n = m.length) (hl : l.length ≤ 200) (hv : l.map (fun x => x.t) = m.map (fun x => x.t)) (w : World) (h1 : InL w a l) (h2 : InL w b m) :
    Calls Try.prog 10 #[.slice a l.length c, .slice b n d] w fun e w' => e = .returned (.bool true) ∧ Below w.heap.size w w' := by
  subst hn
  exact same_any a b c d l m hl hv w h1 h2
set_option maxHeartbeats 3200000 in
set_option maxRecDepth 100000 in
theorem some_walk (a : Option Addr) (c : Nat) (l : List TS) (b : Option Addr) (d : Nat) (m : List TS) (s : ScD) (w : World) (hr : RdE 10 encT w a l) (hin : ∀ x ∈ l, In2 w x.t x.s) (hr2 : RdE 10 encT w b m) (hin2 : ∀ x ∈ m, In2 w x.t x.s) : Calls Try.prog 6 #[.slice a l.length c, .slice b m.length d, aggSc s] w fun e w' => e = .returned (.bool true) ∧ Below w.heap.size w w' := by
  have HR1 := Lib.hid hr
  have HI1 := Lib.hid hin
  have HR2 := Lib.hid hr2
  have HI2 := Lib.hid hin2
  obtain ⟨w0, hw0⟩ : ∃ w0, w.alloc (.cells #[.int .i64 s.self, .int .i64 s.level, .bool s.top, .int .i64 s.node, .int .i64 s.link, .int .i64 s.olev, .int .i64 s.nonce] 26) = w0 := ⟨_, rfl⟩
  have HB0 : Hid (Below w.heap.size w w0) := by rw [← hw0]; exact below_box _ _
  have HA0 : Hid (Arr w0 w.heap.size 26 (cellsSc s)) := by rw [← hw0]; exact Arr.new _ _ _
  have HW := Lib.hid hw0
  obtain ⟨n1, hm⟩ : ∃ m, l.length = m := ⟨_, rfl⟩
  have HM1 := Lib.hid hm
  rw [hm]
  obtain ⟨n2, hm2⟩ : ∃ m', m.length = m' := ⟨_, rfl⟩
  have HM2 := Lib.hid hm2
  rw [hm2]
  clear hm hm2 hr hin hr2 hin2 hw0
  by_cases hbig : (60 : Int) < n1
  · unfold aggSc
    go_enter Try.func6, Try.ntmps6
    go_wp2_with (go_at_call 7; refine (awake_any _).mono ?_; rintro e w1 ⟨rfl, hb⟩; rw [HW.out] at hb; have HB1 := Lib.hid (HB0.out.trans (hb.mono HB0.out.size)); clear hb)
    go_ret
    exact ⟨rfl, HB1.out⟩
  by_cases hbig2 : (60 : Int) < n2
  · unfold aggSc
    go_enter Try.func6, Try.ntmps6
    go_wp2_with (go_at_call 7; refine (awake_any _).mono ?_; rintro e w1 ⟨rfl, hb⟩; rw [HW.out] at hb; have HB1 := Lib.hid (HB0.out.trans (hb.mono HB0.out.size)); clear hb)
    go_ret
    exact ⟨rfl, HB1.out⟩
  · have hk1 : n1 ≤ 60 := by omega
    have hk2 : n2 ≤ 60 := by omega
    unfold aggSc
    go_enter Try.func6, Try.ntmps6
    go_wp2_with (go_at_call 7; refine (awake_any _).mono ?_; rintro e w1 ⟨rfl, hb⟩; rw [HW.out] at hb; have HB1 := Lib.hid (HB0.out.trans (hb.mono HB0.out.size)); have HA1 := Lib.hid (HA0.out.below hb HA0.out.lt); clear hb)
    go_loopw [8] (fun iv wr => ∃ i : Nat, i ≤ n1 ∧ iv = .int .i64 i ∧ Hid (∀ (j : Nat) (x : TS), j < i → l[j]? = some x → x.t.es.length ≤ 100 ∧ x.t.rs.length ≤ 100) ∧ Hid (Below w1.heap.size w1 wr)) (fun iv _ => n1 - (intOf iv).toNat)
    case atStart => exact ⟨0, by omega, rfl, fun j x hj => absurd hj (by omega), Below.refl _ _⟩
    case round =>
      obtain ⟨i, him, rfl, HN, HB⟩ := hrel
      have BW : Hid (Below w.heap.size w wr) := HB1.out.trans (HB.out.mono HB1.out.size)
      by_cases hlt : i < n1
      · obtain ⟨x, hx⟩ : ∃ x, l[i]? = some x := ⟨_, List.getElem?_eq_getElem (by have := HM1.out; omega)⟩
        obtain ⟨g, o, rfl, hg, hc⟩ := (HR1.out.below BW.out) i x hx
        obtain ⟨p0, p1, p2, p3, p4, p5, p6, p7, p8, p9⟩ := cells10 hc
        have hlt2 : (i : Int) < n1 := by omega
        have HX := Lib.hid hx
        clear hc hx
        by_cases h1 : (100 : Int) < x.t.es.length
        · go_wp2
          go_ret
          exact ⟨rfl, BW.out⟩
        by_cases h2 : (100 : Int) < x.t.rs.length
        · go_wp2
          go_ret
          exact ⟨rfl, BW.out⟩
        have HN2 : Hid (∀ (j : Nat) (y : TS), j < i + 1 → l[j]? = some y → y.t.es.length ≤ 100 ∧ y.t.rs.length ≤ 100) := fun j y hj hy => by
          rcases Nat.lt_or_ge j i with h3 | h3
          · exact HN.out j y h3 hy
          · obtain rfl : j = i := by omega
            rw [HX.out] at hy
            obtain rfl := Option.some.inj hy
            omega
        go_wp2
        go_roundw
        case rel => exact ⟨i + 1, by omega, by go_num, HN2, HB.out⟩
        case measure => simp [intOf]; omega
      · obtain rfl : n1 = i := by omega
        have HL1 : Hid (∀ W, Below w.heap.size w W → InL W a l) := fun W hW => ⟨HR1.out.below hW, fun x hx => by
          obtain ⟨j, hj⟩ := List.getElem?_of_mem hx
          have h3 := HN.out j x (by have := (List.getElem?_eq_some_iff.1 hj).1; have := HM1.out; omega) hj
          exact ((HI1.out x hx).below hW).rd h3.1 h3.2⟩
        go_wp2
        go_loopw [9] (fun iv wr => ∃ i : Nat, i ≤ n2 ∧ iv = .int .i64 i ∧ Hid (∀ (j : Nat) (x : TS), j < i → m[j]? = some x → x.t.es.length ≤ 100 ∧ x.t.rs.length ≤ 100) ∧ Hid (Below w1.heap.size w1 wr)) (fun iv _ => n2 - (intOf iv).toNat)
        case atStart => exact ⟨0, by omega, rfl, fun j x hj => absurd hj (by omega), HB.out⟩
        case round =>
          obtain ⟨i, him, rfl, HN, HB⟩ := hrel
          have BW : Hid (Below w.heap.size w wr) := HB1.out.trans (HB.out.mono HB1.out.size)
          by_cases hlt : i < n2
          · obtain ⟨x, hx⟩ : ∃ x, m[i]? = some x := ⟨_, List.getElem?_eq_getElem (by have := HM2.out; omega)⟩
            obtain ⟨g, o, rfl, hg, hc⟩ := (HR2.out.below BW.out) i x hx
            obtain ⟨p0, p1, p2, p3, p4, p5, p6, p7, p8, p9⟩ := cells10 hc
            have hlt2 : (i : Int) < n2 := by omega
            have HX := Lib.hid hx
            clear hc hx
            by_cases h1 : (100 : Int) < x.t.es.length
            · go_wp2
              go_ret
              exact ⟨rfl, BW.out⟩
            by_cases h2 : (100 : Int) < x.t.rs.length
            · go_wp2
              go_ret
              exact ⟨rfl, BW.out⟩
            have HN2 : Hid (∀ (j : Nat) (y : TS), j < i + 1 → m[j]? = some y → y.t.es.length ≤ 100 ∧ y.t.rs.length ≤ 100) := fun j y hj hy => by
              rcases Nat.lt_or_ge j i with h3 | h3
              · exact HN.out j y h3 hy
              · obtain rfl : j = i := by omega
                rw [HX.out] at hy
                obtain rfl := Option.some.inj hy
                omega
            go_wp2
            go_roundw
            case rel => exact ⟨i + 1, by omega, by go_num, HN2, HB.out⟩
            case measure => simp [intOf]; omega
          · obtain rfl : n2 = i := by omega
            have HL2 : Hid (∀ W, Below w.heap.size w W → InL W b m) := fun W hW => ⟨HR2.out.below hW, fun x hx => by
              obtain ⟨j, hj⟩ := List.getElem?_of_mem hx
              have h3 := HN.out j x (by have := (List.getElem?_eq_some_iff.1 hj).1; have := HM2.out; omega) hj
              exact ((HI2.out x hx).below hW).rd h3.1 h3.2⟩
        
            obtain ⟨W0, hW0⟩ : ∃ W0, W0 = wr := ⟨_, rfl⟩
            subst hW0
            have T1 : True := trivial
            have T2 : True := trivial
            have HA2 := Lib.hid (HA1.out.below HB.out HA1.out.lt)
            have HLL : Hid (l.length ≤ 60 ∧ m.length ≤ 60) := by have := HM1.out; have := HM2.out; exact ⟨by omega, by omega⟩
            have HS1 : Hid (∀ W, InL W a l → Calls Try.prog 11 #[.slice a n1 c, aggSc s] W fun e w' => GotG W w' s l e) := fun W hW => by
              have := psome_any s a c l (by have := HLL.out; omega) W hW
              rw [HM1.out] at this
              exact this
            have HS2 : Hid (∀ W, InL W b m → Calls Try.prog 11 #[.slice b n2 d, aggSc s] W fun e w' => GotG W w' s m e) := fun W hW => by
              have := psome_any s b d m (by have := HLL.out; omega) W hW
              rw [HM2.out] at this
              exact this
            clear hk1 hk2
            go_wp2_with (first
              | (go_at_call 11; have tt := T1; clear T1 tt; refine (HS1.out _ (HL1.out _ BW.out)).mono ?_; rintro e w2 ⟨A1, k1, x1, rfl, ho1, hi1, hv1, hb1⟩; have I1 := Lib.hid hi1; have V1 := Lib.hid hv1; have B2 := Lib.hid hb1; have HA3 := Lib.hid (HA2.out.below hb1 HA2.out.lt); clear ho1 hi1 hv1 hb1)
              | (go_at_call 11; have tt := T2; clear T2 tt; refine (HS2.out _ (HL2.out _ (BW.out.trans (B2.out.mono BW.out.size)))).mono ?_; rintro e w3 ⟨A2, k2, x2, rfl, ho2, hi2, hv2, hb2⟩; have I2 := Lib.hid hi2; have V2 := Lib.hid hv2; have B3 := Lib.hid (B2.out.trans (hb2.mono B2.out.size)); have I13 := Lib.hid (I1.out.below hb2); have HA4 := Lib.hid (HA3.out.below hb2 HA3.out.lt); clear ho2 hi2 hv2 hb2)
              | (refine wpList_load_arr rfl 26 (.tmp 5) rfl w.heap.size rfl HA2.out Try.underlying26 rfl sizeSc rfl ?_)
              | (refine wpList_load_arr rfl 26 (.tmp 5) rfl w.heap.size rfl HA3.out Try.underlying26 rfl sizeSc rfl ?_))
            have L1 := Lib.hid (HL1.out _ (BW.out.trans (B3.out.mono BW.out.size)))
            have L2 := Lib.hid (HL2.out _ (BW.out.trans (B3.out.mono BW.out.size)))
            have hb0 : Below w3.heap.size w3 w3.drew := (Below.refl _ _).drew
            have hb5 : Below w3.heap.size w3 (w3.drew.alloc (.cells #[] 35)) := hb0.alloc (Nat.le_refl _) _
            have HK : Hid (∀ W, Below w3.heap.size w3 W → W.cell? ⟨w.heap.size, 0, none⟩ = some (.int .i64 s.self) ∧ W.cell? ⟨w.heap.size, 1, none⟩ = some (.int .i64 s.level) ∧ W.cell? ⟨w.heap.size, 2, none⟩ = some (.bool s.top) ∧ W.cell? ⟨w.heap.size, 3, none⟩ = some (.int .i64 s.node) ∧ W.cell? ⟨w.heap.size, 4, none⟩ = some (.int .i64 s.link) ∧ W.cell? ⟨w.heap.size, 5, none⟩ = some (.int .i64 s.olev) ∧ W.cell? ⟨w.heap.size, 6, none⟩ = some (.int .i64 s.nonce)) := fun W hW => cells7 (HA4.out.below hW HA4.out.lt)
            have HX12 : Hid (x1.length ≤ 60 ∧ x2.length ≤ 60) := by
              have e1 := congrArg List.length V1.out
              have e2 := congrArg List.length V2.out
              rw [List.length_map] at e1 e2
              have := goT_le s l
              have := goT_le s m
              have := HLL.out
              exact ⟨by omega, by omega⟩
            go_region_held_law (fun W => W.cell? ⟨w.heap.size, 0, none⟩ = some (.int .i64 s.self) ∧ W.cell? ⟨w.heap.size, 1, none⟩ = some (.int .i64 s.level) ∧ W.cell? ⟨w.heap.size, 2, none⟩ = some (.bool s.top) ∧ W.cell? ⟨w.heap.size, 3, none⟩ = some (.int .i64 s.node) ∧ W.cell? ⟨w.heap.size, 4, none⟩ = some (.int .i64 s.link) ∧ W.cell? ⟨w.heap.size, 5, none⟩ = some (.int .i64 s.olev) ∧ W.cell? ⟨w.heap.size, 6, none⟩ = some (.int .i64 s.nonce)) (first | exact HK.out _ hb0 | exact HK.out _ hb5 | exact HK.out _ B8.out | exact HK.out _ B7.out | exact HK.out _ B6.out) (first
              | (refine kindP.step_append rfl (.tmp 79) (.tmp 80) rfl w3.heap.size _ [] rfl (kindP.own0 w3.drew) a l n1 c rfl HM1.out.symm (L1.out.row.below hb5) (by have := HLL.out; unfold maxLen; simp; omega) (by have := HLL.out; simp; omega) (by simp) ?_; intro A6 n6 c6 w6 hn6 ho6 hb6 hg6; have O6 := Lib.hid ho6; have B6 := Lib.hid (hb5.trans hb6); clear hn6 ho6 hb6 hg6)
              | (refine kindP.step_append rfl (.tmp 81) (.tmp 82) rfl w3.heap.size _ ([] ++ l) rfl O6.out b m n2 d rfl HM2.out.symm (L2.out.row.below B6.out) (by have := HLL.out; unfold maxLen; simp; omega) (by have := HLL.out; simp; omega) B6.out.size ?_; intro A7 n7 c7 w7 hn7 ho7 hb7 hg7; have N7 : Hid (n7 = (l ++ m).length) := hn7; have O7 : Hid (OwnE 35 10 encT w7 w3.heap.size (.slice A7 n7 c7) (l ++ m)) := ho7; have B7 := Lib.hid (B6.out.trans hb7); clear hn7 ho7 hb7 hg7)
              | (go_at_call 11; refine (some_of s A7 n7 c7 (l ++ m) N7.out (by have := HLL.out; simp; omega) w7 ⟨kindP.rd O7.out, fun x hx => (List.mem_append.1 hx).elim (fun h => (L1.out.all x h).below B7.out) (fun h => (L2.out.all x h).below B7.out)⟩).mono ?_; rintro e w8 ⟨A3, k3, x3, rfl, ho3, hi3, hv3, hb3⟩; have I3 := Lib.hid hi3; have V3 := Lib.hid hv3; have B8 := Lib.hid (B7.out.trans (hb3.mono B7.out.size)); clear ho3 hi3 hv3 hb3))
            have X1 := Lib.hid (I13.out.below B8.out)
            have X2 := Lib.hid (I2.out.below B8.out)
            have HA8 := Lib.hid (HA4.out.below B8.out HA4.out.lt)
            have TS1 : True := trivial
            have TS2 : True := trivial
            have BW8 : Hid (Below w.heap.size w w8) := BW.out.trans ((B3.out.trans (B8.out.mono B3.out.size)).mono BW.out.size)
            have VV : Hid (x3.map (fun x => x.t) = (x1 ++ x2).map (fun x => x.t)) := by unfold Hid; rw [V3.out, goT_append, List.map_append, V1.out, V2.out]
            have HX3 : Hid (x3.length ≤ 120) := by
              have e := congrArg List.length VV.out
              rw [List.length_map, List.length_map, List.length_append] at e
              have := HX12.out
              unfold Hid; omega
            have HXL : Hid ((x1.length : Int) ≤ n1) := by
              have e1 := congrArg List.length V1.out
              rw [List.length_map] at e1
              have := goT_le s l
              have := HM1.out
              unfold Hid; omega
            have hxl := HXL.out
            clear hbig hbig2 hxl
            go_wp2_with (first
              | (refine wpList_load_arr rfl 26 (.tmp 5) rfl w.heap.size rfl HA8.out Try.underlying26 rfl sizeSc rfl ?_)
              | (go_at_call 11; refine (some_of s A1 x1.length k1 x1 rfl (by have := HX12.out; omega) _ X1.out).mono ?_; rintro e w9 ⟨A4, k4, x4, rfl, ho4, hi4, hv4, hb4⟩; have I4 := Lib.hid hi4; have V4 : Hid (x4.map (fun x => x.t) = x1.map (fun x => x.t)) := hv4.trans (goT_again V1.out); have B9 := Lib.hid (BW8.out.trans (hb4.mono BW8.out.size)); have Y1 := Lib.hid (X1.out.below hb4); have Y2 := Lib.hid (X2.out.below hb4); have Y3 := Lib.hid (I3.out.below hb4); have hb55 : Below w9.heap.size w9 (w9.alloc (.cells #[] 35)) := below_box _ _; have HB55 := Lib.hid hb55; clear ho4 hi4 hv4 hb4 hb55)
              | (at_builtin; refine kindP.wp_append rfl (.tmp 90) (.tmp 91) rfl w9.heap.size _ [] rfl (kindP.own0 w9) A1 x1 x1.length k1 rfl rfl (Y1.out.row.below HB55.out) (by have := HX12.out; unfold maxLen; simp; omega) (by have := HX12.out; simp; omega) (by simp) ?_; intro A6 n6 c6 w10 hn6 ho6 hb6 hg6; have O10 : Hid (OwnE 35 10 encT w10 w9.heap.size (.slice A6 n6 c6) x1) := ho6; have B10 := Lib.hid (HB55.out.trans hb6); clear hn6 ho6 hb6 hg6)
              | (at_builtin; refine kindP.wp_append rfl (.tmp 92) (.tmp 93) rfl w9.heap.size _ x1 rfl O10.out A2 x2 x2.length k2 rfl rfl (Y2.out.row.below B10.out) (by have := HX12.out; unfold maxLen; simp; omega) (by have := HX12.out; simp; omega) B10.out.size ?_; intro A7 n7 c7 w11 hn7 ho7 hb7 hg7; have N11 : Hid (n7 = (x1 ++ x2).length) := hn7; have O11 : Hid (OwnE 35 10 encT w11 w9.heap.size (.slice A7 n7 c7) (x1 ++ x2)) := ho7; have B11 := Lib.hid (B10.out.trans hb7); clear hn7 ho7 hb7 hg7)
              | (go_at_call 10; have tt := TS1; clear TS1 tt; refine (same_of A3 A7 k3 n7 c7 x3 (x1 ++ x2) N11.out (by have := HX3.out; omega) VV.out _ (Y3.out.below B11.out) ⟨kindP.rd O11.out, fun x hx => (List.mem_append.1 hx).elim (fun h => (Y1.out.all x h).below B11.out) (fun h => (Y2.out.all x h).below B11.out)⟩).mono ?_; rintro e w12 ⟨rfl, hb12⟩; have B12 := Lib.hid (B11.out.trans (hb12.mono B11.out.size)); clear hb12)
              | (go_at_call 10; have tt := TS2; clear TS2 tt; refine (same_any A4 A1 k4 k1 x4 x1 (by have e := congrArg List.length V4.out; rw [List.length_map, List.length_map] at e; have := HX12.out; omega) V4.out _ (I4.out.below B12.out) (Y1.out.below B12.out)).mono ?_; rintro e w13 ⟨rfl, hb13⟩; have B13 := Lib.hid (B12.out.trans (hb13.mono B12.out.size)); clear hb13))
            all_goals go_ret
            all_goals exact ⟨by have := HXL.out; simp; omega, B9.out.trans (B13.out.mono B9.out.size)⟩
        
end Go.Proofs.Ytbgilngpkogapaa.ti
