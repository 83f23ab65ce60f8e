/-
  THE DOCUMENT's Decode, walked: the record whose bytes these are, in memory of its own; or ErrForm: just what the program's returns.
-/
import Derived.Test.YteelknmafnoccaaRItem
namespace Go.Proofs.Yteelknmafnoccaa
open Go.RowKit
set_option linter.unusedVariables false

theorem right_bad {l : List It} {x : It} (hx : x ∈ l) (hs : shapeB x = false) : rightB l = false := by
  rcases Bool.eq_false_or_eq_true (rightB l) with h | h
  · have := right_shape l 0 h x hx
    rw [hs] at this
    cases this
  · exact h
theorem finD_bad {x : It} (hs : shapeB x = false) (pre : List It) (o : Option (List It)) : finD (o.map fun m => pre ++ x :: m) = none := by
  cases o with
  | none => rfl
  | some m =>
    have hr : rightB (pre ++ x :: m) = false := right_bad (x := x) (by simp) hs
    show (if rightB (pre ++ x :: m) = true then some (pre ++ x :: m) else none) = none
    rw [if_neg (by simp [hr])]
theorem Rd.back {k : IntKind} {n₀ : Nat} {W W' : World} {a : Option Addr} {zs : List Int} (h : Rd k n₀ W' a zs) (hb : Below n₀ W W') : Rd k n₀ W a zs := fun hp => by
  obtain ⟨b, off, e, hlt, hc⟩ := h hp
  exact ⟨b, off, e, hlt, fun j hj => (hb.cell (p := ⟨b, off + j, none⟩) hlt).symm.trans (hc j hj)⟩
def AnItemN (x : It) (rest : List Int) (n₀ : Nat) (w : World) (e : Ending) (w' : World) : Prop :=
  ∃ A c R n1 cr, e = .returned (.tuple #[.agg #[.int .i64 x.kind, .int .i64 x.id, .int .i64 x.n, .slice A x.bs.length c], .slice R n1 cr, .bool true]) ∧ n1 = rest.length ∧
    w'.ownsRow w.heap.size 5 1 (.slice A x.bs.length c) x.bs.length (x.bs.map (Value.int .u8)) ∧ n1 ≤ cr ∧ cr ≤ 9223372036854775807 ∧ Rd .u8 n₀ w R rest ∧ Below w.heap.size w w'
theorem AnItemD.n {x : It} {rest : List Int} {n₀ : Nat} {w w' : World} {e : Ending} (h : AnItemD x rest n₀ w e w') : AnItemN x rest n₀ w e w' := by
  obtain ⟨A, c, R, cr, h1, h2, h3, h4, h5, h6⟩ := h
  exact ⟨A, c, R, _, cr, h1, rfl, h2, h3, h4, h5, h6⟩

set_option maxHeartbeats 8000000 in
set_option maxRecDepth 100000 in
theorem rdecode_any (a : Option Addr) (cap : Nat) (zs : List Int) (hlen : zs.length ≤ 9223372036854775807) (hcap : zs.length ≤ cap) (hcm : cap ≤ 9223372036854775807) (hb : ∀ x ∈ zs, 0 ≤ x ∧ x ≤ 255) (w : World) (hr : Rd .u8 w.heap.size w a zs) :
    Calls Try.prog 17 #[.slice a zs.length cap] w (Decoded (decB zs) w) := by
  by_cases hbig : 4096 < zs.length
  · have hd : decB zs = none := by unfold decB; rw [if_pos hbig]
    have HD := Lib.hid hd
    clear hr hd hb
    go_enter Try.func17, Try.ntmps17
    go_wp2
    go_ret2
    exact Decoded.none HD.out (Below.refl _ _)
  · have HD := Lib.hid (decB_fin hbig)
    obtain ⟨D, hD⟩ : ∃ D, decS zs.length zs = D := ⟨_, rfl⟩
    rw [hD] at HD
    have HR := Lib.hid hr
    have HB := Lib.hid hb
    have HD0 : Hid (D = (decS zs.length zs).map ([] ++ ·)) := by
      unfold Hid
      rw [hD]
      cases D <;> rfl
    clear hr hb hD
    go_enter Try.func17, Try.ntmps17
    go_wp2
    go_loopw [0, 4] (fun bv lv wr => DecRel zs D w bv lv wr) (fun bv _ _ => lenOf bv)
    case atStart => exact ⟨zs.length, zs, [], a, _, cap, rfl, rfl, Nat.le_refl _, by simp; omega, hcap, hcm, HR.out, HB.out, OwnD.nil _ _, HD0.out, Below.refl _ _⟩
    case round =>
      obtain ⟨f, ys, pre, A, n, c, rfl, hn, hf, hpl, hyc, hcm', hrd, hby, hown, hdd, hbel⟩ := hrel
      have HRD := Lib.hid hrd
      have HBY := Lib.hid hby
      have HO := Lib.hid hown
      have HDD := Lib.hid hdd
      have HBE := Lib.hid hbel
      clear hrd hby hown hdd hbel
      cases ys with
      | nil =>
        obtain rfl : n = 0 := hn
        have hd : D = some pre := by
          have h := HDD.out
          cases f <;> simpa [decS] using h
        have HDP := Lib.hid hd
        clear hd
        obtain ⟨L, ln, lc, rfl, hln, hlc, hlm⟩ := HO.out.form_n
        have HLN := Lib.hid hln
        clear hln
        have hrt : ∀ R, rightB pre = R → Calls Try.prog 15 #[.slice L ln lc] wr fun e w' => e = .returned (.bool R) ∧ Below wr.heap.size wr w' := fun R hR => right_n HLN.out (by simp at hpl; omega) HO.out.rd hR
        rcases Bool.eq_false_or_eq_true (rightB pre) with hR | hR
        · have h1 := hrt true hR
          have HF : Hid (decB zs = some pre) := Lib.hid (by rw [HD.out, HDP.out, finD, if_pos hR])
          clear hrt hR
          go_wp2_with (go_at_call 15; refine h1.mono ?_; rintro e w1 ⟨rfl, hb1⟩; have H1 := Lib.hid (HBE.out.trans (hb1.mono HBE.out.size)); have R1 := Lib.hid ((HO.out.rd.below hb1).mono hb1.size); clear hb1)
          go_ret2
          exact Decoded.some HF.out HLN.out hlc hlm R1.out H1.out
        · have h1 := hrt false hR
          have HF : Hid (decB zs = none) := Lib.hid (by rw [HD.out, HDP.out, finD, if_neg (by simp [hR])])
          clear hrt hR
          go_wp2_with (go_at_call 15; refine h1.mono ?_; rintro e w1 ⟨rfl, hb1⟩; have H1 := Lib.hid (HBE.out.trans (hb1.mono HBE.out.size)); clear hb1)
          go_ret2
          exact Decoded.none HF.out H1.out
      | cons z zt =>
        obtain ⟨f, rfl⟩ : ∃ g, f = g + 1 := ⟨f - 1, by simp at hf; omega⟩
        obtain ⟨ys, hys⟩ : ∃ ys, z :: zt = ys := ⟨_, rfl⟩
        have hDD := HDD.out
        rw [decS] at hDD
        rw [hys] at hn hf hpl hyc HRD HBY hDD
        have hpos : 0 < ys.length := by rw [← hys]; simp
        clear hys HDD
        have hn0 : 0 < n := by omega
        rcases item_part ys with ⟨x, k, hp, hi⟩ | ⟨hi, hbad⟩
        · rw [hp] at hDD
          obtain ⟨k0, k1, kok, kbs, _⟩ := part_props HBY.out hp
          simp only at hDD
          have h1 : Calls Try.prog 30 #[.slice A n c] wr (AnItemN x (ys.drop k) w.heap.size wr) := by
            rw [hn]
            exact (ritem_some (by omega) hyc hcm' HBY.out HBE.out.size (HRD.out.below HBE.out) hi).mono fun e w' h => h.n
          have HDN : Hid (D = (decS f (ys.drop k)).map ((pre ++ [x]) ++ ·)) := Lib.hid (by rw [hDD, Option.map_map]; congr 1; funext m; simp)
          have HN := Lib.hid hn
          have hkn : k ≤ n := by omega
          have HYL := Lib.hid (List.length_drop (i := k) (l := ys))
          clear hDD hp hi hn kok
          go_wp2_with (first
              | (go_at_call 30; refine h1.mono ?_; rintro e w1 ⟨A5, c5, R, n1, cr, rfl, hn1, ho5, hcr, hcr2, hrd1, hb1⟩; have H1 := Lib.hid (HBE.out.trans (hb1.mono HBE.out.size)); have O1 := Lib.hid (HO.out.below hb1); have O5 := Lib.hid (own_mono ho5 HBE.out.size); have HN1 := Lib.hid hn1; have HR1 := Lib.hid (hrd1.back HBE.out); clear hb1 ho5 hn1 hrd1)
              | (at_builtin; refine wpList_append_part rfl _ _ rfl w.heap.size _ pre rfl ((O1.out.below ((Below.refl _ _).alloc (Nat.le_refl _) _)).below ((Below.refl _ _).alloc (Nat.le_refl _) _)) x A5 c5 (own_below O5.out (((Below.refl w1.heap.size w1).alloc (Nat.le_refl _) _).alloc (by simp) _) (fun j hj => (O5.out.lt j hj).2)) ⟨w1.heap.size + 1, 0, none⟩ 1 rfl ?hcell (by omega) ?hbase ?_; (case hcell => (have hc4 := cells_built (w1.alloc (.cells #[.int .i64 x.kind, .int .i64 x.id, .int .i64 x.n, .slice A5 x.bs.length c5] 41)) (.int .i64 x.kind) (.int .i64 x.id) (.int .i64 x.n) (.slice A5 x.bs.length c5); rw [show (w1.alloc (.cells #[.int .i64 x.kind, .int .i64 x.id, .int .i64 x.n, .slice A5 x.bs.length c5] 41)).heap.size = w1.heap.size + 1 by simp] at hc4; exact hc4)); (case hbase => (have := H1.out.size; simp; omega)); intro v1 X1 ho hb _; have OX := Lib.hid ho; have HX := Lib.hid (((H1.out.alloc H1.out.size _).alloc (by have := H1.out.size; simp; omega) _).trans hb); clear ho hb))
          have e1 : n1 = (ys.drop k).length := HN1.out
          have e2 : (ys.drop k).length = ys.length - k := HYL.out
          have e3 : n = ys.length := HN.out
          exact ⟨⟨f, ys.drop k, pre ++ [x], R, n1, cr, rfl, e1, by omega, by rw [List.length_append]; simp only [List.length_cons, List.length_nil]; omega, by omega, hcr2, HR1.out, (fun y hy => HBY.out y (List.mem_of_mem_drop hy)), OX.out, HDN.out, HX.out⟩, by show _ < n; simp only [lenOf]; omega⟩
        · have HF : Hid (decB zs = none) := Lib.hid (by
            rw [HD.out, hDD]
            rcases hp : partS ys with _ | ⟨x, k⟩
            · rfl
            · simp only
              rw [Option.map_map]
              exact finD_bad (hbad x k hp) pre _)
          have h1 : Calls Try.prog 30 #[.slice A n c] wr (NoItem wr) := by
            rw [hn]
            exact ritem_none (by omega) hyc hcm' HBY.out HBE.out.size (HRD.out.below HBE.out) hi
          have HN := Lib.hid hn
          clear hDD hi hn hbad
          go_wp2_with (go_at_call 30; refine h1.mono ?_; rintro e w1 ⟨rfl, hb1⟩; have H1 := Lib.hid (HBE.out.trans (hb1.mono HBE.out.size)); clear hb1)
          go_ret2
          exact Decoded.none HF.out ((H1.out.alloc H1.out.size _))
end Go.Proofs.Yteelknmafnoccaa
