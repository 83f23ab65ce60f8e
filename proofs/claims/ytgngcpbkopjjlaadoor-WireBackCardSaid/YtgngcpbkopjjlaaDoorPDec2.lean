/-
  THE PROGRAM's Decode, walked.
-/
import Derived.Test.YtgngcpbkopjjlaaDoorPDec
import Derived.Test.YtgngcpbkopjjlaaDoorJoinI
namespace Go.Proofs.YtgngcpbkopjjlaaDoor
open Go.RowKit
set_option linter.unusedVariables false

def finD : Option (List It) → Option (List It)
  | none => none
  | some l => if rightB l = true then some l else none
theorem decB_fin {zs : List Int} (h : ¬ 4096 < zs.length) : decB zs = finD (decS zs.length zs) := by
  unfold decB
  rw [if_neg h]
  generalize decS zs.length zs = D
  cases D <;> rfl
/-- What Decode returns: a record in memory of its own, or ErrForm. -/
def Decoded (r : Option (List It)) (w : World) (e : Ending) (w' : World) : Prop := match r with
  | none => e = .returned (.tuple #[.slice none 0 0, .int .i64 2]) ∧ Below w.heap.size w w'
  | some l => ∃ A n c, e = .returned (.tuple #[.slice A n c, .int .i64 0]) ∧ n = l.length ∧ n ≤ c ∧ c ≤ maxLen ∧ RdI w'.heap.size w' A l ∧ Below w.heap.size w w'
theorem Decoded.none {r : Option (List It)} (h : r = Option.none) {w w' : World} (hb : Below w.heap.size w w') : Decoded r w (.returned (.tuple #[.slice Option.none 0 0, .int .i64 2])) w' := by
  subst h
  exact ⟨rfl, hb⟩
theorem Decoded.some {r : Option (List It)} {l : List It} (h : r = Option.some l) {w w' : World} {A : Option Addr} {n c : Nat} (hn : n = l.length) (hc : n ≤ c) (hm : c ≤ maxLen) (hr : RdI w'.heap.size w' A l) (hb : Below w.heap.size w w') : Decoded r w (.returned (.tuple #[.slice A n c, .int .i64 0])) w' := by
  subst h
  exact ⟨A, n, c, rfl, hn, hc, hm, hr, hb⟩
theorem cells_built (W : World) (x0 x1 x2 x3 : Value) : ∀ j u, [x0, x1, x2, x3][j]? = some u → (W.alloc (.cells #[x0, x1, x2, x3] 64)).cell? ((⟨W.heap.size, 0, Option.none⟩ : Addr).add j) = some u := by
  intro j u hu
  have e := cell_of_row (W.alloc (.cells #[x0, x1, x2, x3] 64)) W.heap.size (0 + j) _ 64 (0, 0) (heap_alloc_new W _)
  have hadd : (⟨W.heap.size, 0, Option.none⟩ : Addr).add j = ⟨W.heap.size, 0 + j, Option.none⟩ := by unfold Addr.add; split <;> simp_all
  rw [hadd, e, Nat.zero_add]
  simpa using hu
def lenOf : Value → Nat
  | .slice _ n _ => n
  | _ => 0

/-- How the loop stands: the rest of the bytes, the items so far. -/
def DecRel (zs : List Int) (D : Option (List It)) (w : World) (bv lv : Value) (wr : World) : Prop :=
  ∃ (f : Nat) (ys : List Int) (pre : List It) (A : Option Addr) (n c : Nat), bv = .slice A n c ∧ n = ys.length ∧ ys.length ≤ f ∧ pre.length + ys.length ≤ 4096 ∧ ys.length ≤ c ∧ c ≤ 9223372036854775807 ∧
    Rd .u8 w.heap.size w A ys ∧ (∀ x ∈ ys, 0 ≤ x ∧ x ≤ 255) ∧ OwnD wr w.heap.size lv pre ∧ D = (decS f ys).map (pre ++ ·) ∧ Below w.heap.size w wr

set_option maxHeartbeats 8000000 in
set_option maxRecDepth 100000 in
theorem pdecode_any (a : Option Addr) (cap : Nat) (zs : List Int) (hlen : zs.length ≤ 9223372036854775807) (hcap : zs.length ≤ cap) (hcm : cap ≤ 9223372036854775807) (hb : ∀ x ∈ zs, 0 ≤ x ∧ x ≤ 255) (w : World) (hr : Rd .u8 w.heap.size w a zs) :
    Calls Tryd.prog 22 #[.slice a zs.length cap] w (Decoded (decB zs) w) := by
  by_cases hbig : 4096 < zs.length
  · have hd : decB zs = none := by unfold decB; rw [if_pos hbig]
    have HD := Lib.hid hd
    clear hr hd hb
    go_enter Tryd.func22, Tryd.ntmps22
    go_wp2
    go_ret2
    exact Decoded.none HD.out (Below.refl _ _)
  · have HD := Lib.hid (decB_fin hbig)
    obtain ⟨D, hD⟩ : ∃ D, decS zs.length zs = D := ⟨_, rfl⟩
    rw [hD] at HD
    have HR := Lib.hid hr
    have HB := Lib.hid hb
    have HD0 : Hid (D = (decS zs.length zs).map ([] ++ ·)) := by
      unfold Hid
      rw [hD]
      cases D <;> rfl
    clear hr hb hD
    go_enter Tryd.func22, Tryd.ntmps22
    go_wp2
    go_loopw [0, 4] (fun bv lv wr => DecRel zs D w bv lv wr) (fun bv _ _ => lenOf bv)
    case atStart => exact ⟨zs.length, zs, [], a, _, cap, rfl, rfl, Nat.le_refl _, by simp; omega, hcap, hcm, HR.out, HB.out, OwnD.nil _ _, HD0.out, Below.refl _ _⟩
    case round =>
      obtain ⟨f, ys, pre, A, n, c, rfl, hn, hf, hpl, hyc, hcm', hrd, hby, hown, hdd, hbel⟩ := hrel
      have HRD := Lib.hid hrd
      have HBY := Lib.hid hby
      have HO := Lib.hid hown
      have HDD := Lib.hid hdd
      have HBE := Lib.hid hbel
      clear hrd hby hown hdd hbel
      cases ys with
      | nil =>
        obtain rfl : n = 0 := hn
        have hd : D = some pre := by
          have h := HDD.out
          cases f <;> simpa [decS] using h
        have HDP := Lib.hid hd
        clear hd
        obtain ⟨L, ln, lc, rfl, hln, hlc, hlm⟩ := HO.out.form_n
        have HLN := Lib.hid hln
        clear hln
        have hrt : ∀ R, rightB pre = R → Calls Tryd.prog 16 #[.slice L ln lc] wr fun e w' => e = .returned (.bool R) ∧ Below wr.heap.size wr w' := fun R hR => pright_n HLN.out (by simp at hpl; omega) HO.out.rd hR
        rcases Bool.eq_false_or_eq_true (rightB pre) with hR | hR
        · have h1 := hrt true hR
          have HF : Hid (decB zs = some pre) := Lib.hid (by rw [HD.out, HDP.out, finD, if_pos hR])
          clear hrt hR
          go_wp2_with (go_at_call 16; refine h1.mono ?_; rintro e w1 ⟨rfl, hb1⟩; have H1 := Lib.hid (HBE.out.trans (hb1.mono HBE.out.size)); have R1 := Lib.hid ((HO.out.rd.below hb1).mono hb1.size); clear hb1)
          go_ret2
          exact Decoded.some HF.out HLN.out hlc hlm R1.out H1.out
        · have h1 := hrt false hR
          have HF : Hid (decB zs = none) := Lib.hid (by rw [HD.out, HDP.out, finD, if_neg (by simp [hR])])
          clear hrt hR
          go_wp2_with (go_at_call 16; refine h1.mono ?_; rintro e w1 ⟨rfl, hb1⟩; have H1 := Lib.hid (HBE.out.trans (hb1.mono HBE.out.size)); clear hb1)
          go_ret2
          exact Decoded.none HF.out H1.out
      | cons z zt =>
        obtain ⟨f, rfl⟩ : ∃ g, f = g + 1 := ⟨f - 1, by simp at hf; omega⟩
        obtain ⟨ys, hys⟩ : ∃ ys, z :: zt = ys := ⟨_, rfl⟩
        have hDD := HDD.out
        rw [decS] at hDD
        rw [hys] at hn hf hpl hyc HRD HBY hDD
        have hpos : 0 < ys.length := by rw [← hys]; simp
        clear hys HDD
        obtain ⟨b, off, rfl, hbb, _⟩ := HRD.out hpos
        have hpart : ∀ W, Below w.heap.size w W → Calls Tryd.prog 42 #[.slice (some ⟨b, off, none⟩) n c] W fun e w' => match partS ys with
            | none => NoPart W e w'
            | some (x, k) => APart x k W e w' := fun W hW => by
          rw [hn]
          rcases hp : partS ys with _ | ⟨x, k⟩
          · exact part_none (by omega) hyc hcm' HBY.out ((HRD.out.below hW).mono hW.size) hp
          · exact part_some (by omega) hyc hcm' HBY.out ((HRD.out.below hW).mono hW.size) hp
        rcases hp : partS ys with _ | ⟨x, k⟩
        · rw [hp] at hDD hpart
          simp only [Option.map_none] at hDD
          have HF : Hid (decB zs = none) := Lib.hid (by rw [HD.out, hDD]; rfl)
          have h1 := hpart wr HBE.out
          have HN := Lib.hid hn
          have hn0 : 0 < n := by omega
          clear hpart hDD hp hn
          go_wp2_with (go_at_call 42; refine h1.mono ?_; rintro e w1 ⟨rfl, hb1⟩; have H1 := Lib.hid (HBE.out.trans (hb1.mono HBE.out.size)); clear hb1)
          go_ret2
          exact Decoded.none HF.out ((H1.out.alloc H1.out.size _))
        · rw [hp] at hDD hpart
          obtain ⟨k0, k1, kok, kbs, _⟩ := part_props HBY.out hp
          simp only at hDD hpart
          have h1 := hpart wr HBE.out
          have HDN : Hid (D = (decS f (ys.drop k)).map ((pre ++ [x]) ++ ·)) := Lib.hid (by rw [hDD, Option.map_map]; congr 1; funext m; simp)
          have HN := Lib.hid hn
          have hn0 : 0 < n := by omega
          have hkn : k ≤ n := by omega
          have hnc : n ≤ c := by omega
          clear hpart hDD hp hn kok
          have hyl : (ys.drop k).length = n - k := by rw [List.length_drop, HN.out]
          have HYL := Lib.hid hyl
          clear hyl
          by_cases hck : c = k
          · subst hck
            go_wp2_with (first
              | (go_at_call 42; refine h1.mono ?_; rintro e w1 ⟨A5, c5, rfl, ho5, hb1⟩; have H1 := Lib.hid (HBE.out.trans (hb1.mono HBE.out.size)); have O1 := Lib.hid (HO.out.below hb1); have O5 := Lib.hid (own_mono ho5 HBE.out.size); clear hb1 ho5)
              | (at_builtin; refine wpList_append_part rfl _ _ rfl w.heap.size _ pre rfl ((O1.out.below ((Below.refl _ _).alloc (Nat.le_refl _) _)).below ((Below.refl _ _).alloc (Nat.le_refl _) _)) x A5 c5 (own_below O5.out (((Below.refl w1.heap.size w1).alloc (Nat.le_refl _) _).alloc (by simp) _) (fun j hj => (O5.out.lt j hj).2)) ⟨w1.heap.size + 1, 0, none⟩ 1 rfl ?hcell (by omega) ?hbase ?_; (case hcell => (have hc4 := cells_built (w1.alloc (.cells #[.int .i64 x.kind, .int .i64 x.id, .int .i64 x.n, .slice A5 x.bs.length c5] 64)) (.int .i64 x.kind) (.int .i64 x.id) (.int .i64 x.n) (.slice A5 x.bs.length c5); rw [show (w1.alloc (.cells #[.int .i64 x.kind, .int .i64 x.id, .int .i64 x.n, .slice A5 x.bs.length c5] 64)).heap.size = w1.heap.size + 1 by simp] at hc4; exact hc4)); (case hbase => (have := H1.out.size; simp; omega)); intro v1 X1 ho hb _; have OX := Lib.hid ho; have HX := Lib.hid (((H1.out.alloc H1.out.size _).alloc (by have := H1.out.size; simp; omega) _).trans hb); clear ho hb))
            exact ⟨⟨f, ys.drop c, pre ++ [x], some ⟨b, off, none⟩, 0, 0, rfl, by rw [HYL.out]; omega, by rw [HYL.out]; have := HN.out; omega, by rw [HYL.out, List.length_append]; have := HN.out; simp; omega, by rw [HYL.out]; omega, by omega, (fun hp => by rw [HYL.out] at hp; omega), (fun y hy => HBY.out y (List.mem_of_mem_drop hy)), OX.out, HDN.out, HX.out⟩, by show _ < n; simp only [lenOf]; omega⟩
          · go_wp2_with (first
              | (go_at_call 42; refine h1.mono ?_; rintro e w1 ⟨A5, c5, rfl, ho5, hb1⟩; have H1 := Lib.hid (HBE.out.trans (hb1.mono HBE.out.size)); have O1 := Lib.hid (HO.out.below hb1); have O5 := Lib.hid (own_mono ho5 HBE.out.size); clear hb1 ho5)
              | (at_builtin; refine wpList_append_part rfl _ _ rfl w.heap.size _ pre rfl ((O1.out.below ((Below.refl _ _).alloc (Nat.le_refl _) _)).below ((Below.refl _ _).alloc (Nat.le_refl _) _)) x A5 c5 (own_below O5.out (((Below.refl w1.heap.size w1).alloc (Nat.le_refl _) _).alloc (by simp) _) (fun j hj => (O5.out.lt j hj).2)) ⟨w1.heap.size + 1, 0, none⟩ 1 rfl ?hcell (by omega) ?hbase ?_; (case hcell => (have hc4 := cells_built (w1.alloc (.cells #[.int .i64 x.kind, .int .i64 x.id, .int .i64 x.n, .slice A5 x.bs.length c5] 64)) (.int .i64 x.kind) (.int .i64 x.id) (.int .i64 x.n) (.slice A5 x.bs.length c5); rw [show (w1.alloc (.cells #[.int .i64 x.kind, .int .i64 x.id, .int .i64 x.n, .slice A5 x.bs.length c5] 64)).heap.size = w1.heap.size + 1 by simp] at hc4; exact hc4)); (case hbase => (have := H1.out.size; simp; omega)); intro v1 X1 ho hb _; have OX := Lib.hid ho; have HX := Lib.hid (((H1.out.alloc H1.out.size _).alloc (by have := H1.out.size; simp; omega) _).trans hb); clear ho hb))
            exact ⟨⟨f, ys.drop k, pre ++ [x], some ⟨b, off + k, none⟩, n - k, c - k, rfl, HYL.out.symm, by rw [HYL.out]; have := HN.out; omega, by rw [HYL.out, List.length_append]; have := HN.out; simp; omega, by rw [HYL.out]; omega, by omega, HRD.out.drop k, (fun y hy => HBY.out y (List.mem_of_mem_drop hy)), OX.out, HDN.out, HX.out⟩, by show _ < n; simp only [lenOf]; omega⟩
end Go.Proofs.YtgngcpbkopjjlaaDoor
