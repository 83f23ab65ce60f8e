/-
  THE RULES as data; whether one of them has a piece sent; the library's IndexFunc, ContainsFunc over rules.
-/
import Derived.Test.YtbgilngpkogapaaGCl
namespace Go.Proofs.Ytbgilngpkogapaa.ti
set_option linter.unusedSimpArgs false
set_option linter.unusedVariables false
open Go.RowKit
/-- A rule's direction, side, closure, answer. -/
def dirG : Nat → Int | 0 => 2 | 1 => 2 | _ => 1
def sideG : Nat → Int | 0 => 1 | 1 => 0 | 2 => -1 | 3 => 0 | _ => 1
def fvG (sb o1 o2 : Nat) : Nat → Value
  | 0 => .func (.func 21) #[] #[]
  | 1 => .func (.func 22) #[] #[.pointer (some ⟨sb, 0, none⟩)]
  | 2 => .func (.func 19) #[] #[.pointer (some ⟨sb, 0, none⟩)]
  | 3 => .func (.func 23) #[] #[.pointer (some ⟨o2, 0, none⟩), .pointer (some ⟨o1, 0, none⟩)]
  | _ => .func (.func 24) #[] #[.pointer (some ⟨o2, 0, none⟩), .pointer (some ⟨sb, 0, none⟩)]
def ansG (t : TiV) (s : ScD) : Nat → Bool | 0 => true | 1 => s.top | 2 => ofSelf t s | 3 => ofNode t && ofSelf t s | _ => reflG t s
def encG (sb o1 o2 : Nat) (k : Nat) : List Value := [.int .i64 (dirG k), .int .i64 (sideG k), fvG sb o1 o2 k]
/-- Does a rule have it sent? -/
def fitsG (t : TiV) (s : ScD) (k : Nat) : Bool := decide (dirG k = t.hd.id.d) && ansG t s k
set_option maxHeartbeats 1600000 in
set_option maxRecDepth 100000 in
theorem al1_0 (t : TiV) (l : Sl2) (sb o1 o2 : Nat) (s : ScD) (tb : Nat) (d sd : Int) (w : World) (h : EnvG w sb o1 o2 s) (ht : Arr w tb 35 (cellsV t l)) :
    Calls Try.prog 18 #[.agg #[.int .i64 d, .int .i64 sd, .func (.func 21) #[] #[]], .pointer (some ⟨tb, 0, none⟩)] w fun e w' => e = .returned (.bool (decide (d = t.hd.id.d) && true)) ∧ Below w.heap.size w w' := by
  have c0 : w.cell? ⟨tb, 0, none⟩ = some (.int .i64 t.hd.id.d) := ht.cell 0
  have hlt := ht.lt
  have B1 : Hid (Below w.heap.size w (w.alloc (.cells #[.int .i64 d, .int .i64 sd, .func (.func 21) #[] #[]] 51))) := below_box _ _
  have HE : Hid (EnvG (w.alloc (.cells #[.int .i64 d, .int .i64 sd, .func (.func 21) #[] #[]] 51)) sb o1 o2 s) := h.below (below_box _ _)
  have HT : Hid (Arr (w.alloc (.cells #[.int .i64 d, .int .i64 sd, .func (.func 21) #[] #[]] 51)) tb 35 (cellsV t l)) := ht.alloc _
  clear h ht
  by_cases hd : d = t.hd.id.d
  · subst hd
    go_enter Try.func18, Try.ntmps18
    go_wp2_with (first
      | (refine wpList_load_g 35 (.tmp 1) rfl tb rfl HT.out Try.underlying35 rfl sizeV rfl ?_)
      | (go_at_call 21; refine (cl3_any t l _).mono ?_; rintro e w2 ⟨rfl, hb2⟩; have B2 := Lib.hid (B1.out.trans (hb2.mono B1.out.size)); clear hb2))
    go_ret
    exact ⟨by simp, B2.out⟩
  · have hx : (d == t.hd.id.d) = false := by simpa using hd
    have HD := Lib.hid hd
    clear hd
    go_enter Try.func18, Try.ntmps18
    go_wp2
    go_ret
    exact ⟨by simp [HD.out], B1.out⟩
set_option maxHeartbeats 1600000 in
set_option maxRecDepth 100000 in
theorem al1_1 (t : TiV) (l : Sl2) (sb o1 o2 : Nat) (s : ScD) (tb : Nat) (d sd : Int) (w : World) (h : EnvG w sb o1 o2 s) (ht : Arr w tb 35 (cellsV t l)) :
    Calls Try.prog 18 #[.agg #[.int .i64 d, .int .i64 sd, .func (.func 22) #[] #[.pointer (some ⟨sb, 0, none⟩)]], .pointer (some ⟨tb, 0, none⟩)] w fun e w' => e = .returned (.bool (decide (d = t.hd.id.d) && s.top)) ∧ Below w.heap.size w w' := by
  have c0 : w.cell? ⟨tb, 0, none⟩ = some (.int .i64 t.hd.id.d) := ht.cell 0
  have hlt := ht.lt
  have B1 : Hid (Below w.heap.size w (w.alloc (.cells #[.int .i64 d, .int .i64 sd, .func (.func 22) #[] #[.pointer (some ⟨sb, 0, none⟩)]] 51))) := below_box _ _
  have HE : Hid (EnvG (w.alloc (.cells #[.int .i64 d, .int .i64 sd, .func (.func 22) #[] #[.pointer (some ⟨sb, 0, none⟩)]] 51)) sb o1 o2 s) := h.below (below_box _ _)
  have HT : Hid (Arr (w.alloc (.cells #[.int .i64 d, .int .i64 sd, .func (.func 22) #[] #[.pointer (some ⟨sb, 0, none⟩)]] 51)) tb 35 (cellsV t l)) := ht.alloc _
  clear h ht
  by_cases hd : d = t.hd.id.d
  · subst hd
    go_enter Try.func18, Try.ntmps18
    go_wp2_with (first
      | (refine wpList_load_g 35 (.tmp 1) rfl tb rfl HT.out Try.underlying35 rfl sizeV rfl ?_)
      | (go_at_call 22; refine (cl4_any t l sb o1 o2 s _ HE.out).mono ?_; rintro e w2 ⟨rfl, hb2⟩; have B2 := Lib.hid (B1.out.trans (hb2.mono B1.out.size)); clear hb2))
    go_ret
    exact ⟨by simp, B2.out⟩
  · have hx : (d == t.hd.id.d) = false := by simpa using hd
    have HD := Lib.hid hd
    clear hd
    go_enter Try.func18, Try.ntmps18
    go_wp2
    go_ret
    exact ⟨by simp [HD.out], B1.out⟩
set_option maxHeartbeats 1600000 in
set_option maxRecDepth 100000 in
theorem al1_2 (t : TiV) (l : Sl2) (sb o1 o2 : Nat) (s : ScD) (tb : Nat) (d sd : Int) (w : World) (h : EnvG w sb o1 o2 s) (ht : Arr w tb 35 (cellsV t l)) :
    Calls Try.prog 18 #[.agg #[.int .i64 d, .int .i64 sd, .func (.func 19) #[] #[.pointer (some ⟨sb, 0, none⟩)]], .pointer (some ⟨tb, 0, none⟩)] w fun e w' => e = .returned (.bool (decide (d = t.hd.id.d) && ofSelf t s)) ∧ Below w.heap.size w w' := by
  have c0 : w.cell? ⟨tb, 0, none⟩ = some (.int .i64 t.hd.id.d) := ht.cell 0
  have hlt := ht.lt
  have B1 : Hid (Below w.heap.size w (w.alloc (.cells #[.int .i64 d, .int .i64 sd, .func (.func 19) #[] #[.pointer (some ⟨sb, 0, none⟩)]] 51))) := below_box _ _
  have HE : Hid (EnvG (w.alloc (.cells #[.int .i64 d, .int .i64 sd, .func (.func 19) #[] #[.pointer (some ⟨sb, 0, none⟩)]] 51)) sb o1 o2 s) := h.below (below_box _ _)
  have HT : Hid (Arr (w.alloc (.cells #[.int .i64 d, .int .i64 sd, .func (.func 19) #[] #[.pointer (some ⟨sb, 0, none⟩)]] 51)) tb 35 (cellsV t l)) := ht.alloc _
  clear h ht
  by_cases hd : d = t.hd.id.d
  · subst hd
    go_enter Try.func18, Try.ntmps18
    go_wp2_with (first
      | (refine wpList_load_g 35 (.tmp 1) rfl tb rfl HT.out Try.underlying35 rfl sizeV rfl ?_)
      | (go_at_call 19; refine (cl1_any t l sb o1 o2 s _ HE.out).mono ?_; rintro e w2 ⟨rfl, hb2⟩; have B2 := Lib.hid (B1.out.trans (hb2.mono B1.out.size)); clear hb2))
    go_ret
    exact ⟨by simp, B2.out⟩
  · have hx : (d == t.hd.id.d) = false := by simpa using hd
    have HD := Lib.hid hd
    clear hd
    go_enter Try.func18, Try.ntmps18
    go_wp2
    go_ret
    exact ⟨by simp [HD.out], B1.out⟩
set_option maxHeartbeats 1600000 in
set_option maxRecDepth 100000 in
theorem al1_3 (t : TiV) (l : Sl2) (sb o1 o2 : Nat) (s : ScD) (tb : Nat) (d sd : Int) (w : World) (h : EnvG w sb o1 o2 s) (ht : Arr w tb 35 (cellsV t l)) :
    Calls Try.prog 18 #[.agg #[.int .i64 d, .int .i64 sd, .func (.func 23) #[] #[.pointer (some ⟨o2, 0, none⟩), .pointer (some ⟨o1, 0, none⟩)]], .pointer (some ⟨tb, 0, none⟩)] w fun e w' => e = .returned (.bool (decide (d = t.hd.id.d) && (ofNode t && ofSelf t s))) ∧ Below w.heap.size w w' := by
  have c0 : w.cell? ⟨tb, 0, none⟩ = some (.int .i64 t.hd.id.d) := ht.cell 0
  have hlt := ht.lt
  have B1 : Hid (Below w.heap.size w (w.alloc (.cells #[.int .i64 d, .int .i64 sd, .func (.func 23) #[] #[.pointer (some ⟨o2, 0, none⟩), .pointer (some ⟨o1, 0, none⟩)]] 51))) := below_box _ _
  have HE : Hid (EnvG (w.alloc (.cells #[.int .i64 d, .int .i64 sd, .func (.func 23) #[] #[.pointer (some ⟨o2, 0, none⟩), .pointer (some ⟨o1, 0, none⟩)]] 51)) sb o1 o2 s) := h.below (below_box _ _)
  have HT : Hid (Arr (w.alloc (.cells #[.int .i64 d, .int .i64 sd, .func (.func 23) #[] #[.pointer (some ⟨o2, 0, none⟩), .pointer (some ⟨o1, 0, none⟩)]] 51)) tb 35 (cellsV t l)) := ht.alloc _
  clear h ht
  by_cases hd : d = t.hd.id.d
  · subst hd
    go_enter Try.func18, Try.ntmps18
    go_wp2_with (first
      | (refine wpList_load_g 35 (.tmp 1) rfl tb rfl HT.out Try.underlying35 rfl sizeV rfl ?_)
      | (go_at_call 23; refine (cl5_any t l sb o1 o2 s _ HE.out).mono ?_; rintro e w2 ⟨rfl, hb2⟩; have B2 := Lib.hid (B1.out.trans (hb2.mono B1.out.size)); clear hb2))
    go_ret
    exact ⟨by simp, B2.out⟩
  · have hx : (d == t.hd.id.d) = false := by simpa using hd
    have HD := Lib.hid hd
    clear hd
    go_enter Try.func18, Try.ntmps18
    go_wp2
    go_ret
    exact ⟨by simp [HD.out], B1.out⟩
set_option maxHeartbeats 1600000 in
set_option maxRecDepth 100000 in
theorem al1_4 (t : TiV) (l : Sl2) (sb o1 o2 : Nat) (s : ScD) (tb : Nat) (d sd : Int) (w : World) (h : EnvG w sb o1 o2 s) (ht : Arr w tb 35 (cellsV t l)) :
    Calls Try.prog 18 #[.agg #[.int .i64 d, .int .i64 sd, .func (.func 24) #[] #[.pointer (some ⟨o2, 0, none⟩), .pointer (some ⟨sb, 0, none⟩)]], .pointer (some ⟨tb, 0, none⟩)] w fun e w' => e = .returned (.bool (decide (d = t.hd.id.d) && reflG t s)) ∧ Below w.heap.size w w' := by
  have c0 : w.cell? ⟨tb, 0, none⟩ = some (.int .i64 t.hd.id.d) := ht.cell 0
  have hlt := ht.lt
  have B1 : Hid (Below w.heap.size w (w.alloc (.cells #[.int .i64 d, .int .i64 sd, .func (.func 24) #[] #[.pointer (some ⟨o2, 0, none⟩), .pointer (some ⟨sb, 0, none⟩)]] 51))) := below_box _ _
  have HE : Hid (EnvG (w.alloc (.cells #[.int .i64 d, .int .i64 sd, .func (.func 24) #[] #[.pointer (some ⟨o2, 0, none⟩), .pointer (some ⟨sb, 0, none⟩)]] 51)) sb o1 o2 s) := h.below (below_box _ _)
  have HT : Hid (Arr (w.alloc (.cells #[.int .i64 d, .int .i64 sd, .func (.func 24) #[] #[.pointer (some ⟨o2, 0, none⟩), .pointer (some ⟨sb, 0, none⟩)]] 51)) tb 35 (cellsV t l)) := ht.alloc _
  clear h ht
  by_cases hd : d = t.hd.id.d
  · subst hd
    go_enter Try.func18, Try.ntmps18
    go_wp2_with (first
      | (refine wpList_load_g 35 (.tmp 1) rfl tb rfl HT.out Try.underlying35 rfl sizeV rfl ?_)
      | (go_at_call 24; refine (cl6_any t l sb o1 o2 s _ HE.out).mono ?_; rintro e w2 ⟨rfl, hb2⟩; have B2 := Lib.hid (B1.out.trans (hb2.mono B1.out.size)); clear hb2))
    go_ret
    exact ⟨by simp, B2.out⟩
  · have hx : (d == t.hd.id.d) = false := by simpa using hd
    have HD := Lib.hid hd
    clear hd
    go_enter Try.func18, Try.ntmps18
    go_wp2
    go_ret
    exact ⟨by simp [HD.out], B1.out⟩
theorem al1_any (t : TiV) (l : Sl2) (sb o1 o2 : Nat) (s : ScD) (tb k : Nat) (w : World) (h : EnvG w sb o1 o2 s) (ht : Arr w tb 35 (cellsV t l)) :
    Calls Try.prog 18 #[.agg #[.int .i64 (dirG k), .int .i64 (sideG k), fvG sb o1 o2 k], .pointer (some ⟨tb, 0, none⟩)] w fun e w' => e = .returned (.bool (fitsG t s k)) ∧ Below w.heap.size w w' := by
  unfold fitsG
  match k with
  | 0 => exact al1_0 t l sb o1 o2 s tb _ _ w h ht
  | 1 => exact al1_1 t l sb o1 o2 s tb _ _ w h ht
  | 2 => exact al1_2 t l sb o1 o2 s tb _ _ w h ht
  | 3 => exact al1_3 t l sb o1 o2 s tb _ _ w h ht
  | k + 4 => exact al1_4 t l sb o1 o2 s tb _ _ w h ht
set_option maxHeartbeats 1600000 in
set_option maxRecDepth 100000 in
theorem r7_any (B : Nat) (x : Int) (d sd : Int) (fv : Value) (w : World) (hc : w.cell? ⟨B, 0, none⟩ = some (.int .i64 x)) (hB : B < w.heap.size) :
    Calls Try.prog 27 #[.agg #[.int .i64 d, .int .i64 sd, fv], .pointer (some ⟨B, 0, none⟩)] w fun e w' => e = .returned (.bool (sd != x)) ∧ Below w.heap.size w w' := by
  go_enter Try.func27, Try.ntmps27
  go_wp2
  go_ret
  exact ⟨rfl, below_box _ _⟩
/-- The first of a list. -/
def FirstG (p : Nat → Bool) (l : List Nat) (i : Int) : Prop := (i = -1 ∧ ∀ k ∈ l, p k = false) ∨ ∃ (j k : Nat), i = j ∧ l[j]? = some k ∧ p k = true ∧ ∀ (j' k' : Nat), j' < j → l[j']? = some k' → p k' = false
set_option maxHeartbeats 1600000 in
set_option maxRecDepth 100000 in
theorem idxA (p : Nat → Bool) (sb o1 o2 B : Nat) (a : Option Addr) (c : Nat) (l : List Nat) (hl : l.length ≤ 9223372036854775807) (w : World) (hr : RdE 3 (encG sb o1 o2) w a l)
    (hcl : ∀ W, Below w.heap.size w W → ∀ k, Calls Try.prog 18 #[.agg #[.int .i64 (dirG k), .int .i64 (sideG k), fvG sb o1 o2 k], .pointer (some ⟨B, 0, none⟩)] W fun e w' => e = .returned (.bool (p k)) ∧ Below W.heap.size W w') :
    Calls Try.prog 30 #[.slice a l.length c, .func (.func 18) #[] #[.pointer (some ⟨B, 0, none⟩)]] w fun e w' => ∃ i : Int, e = .returned (.int .i64 i) ∧ FirstG p l i ∧ Below w.heap.size w w' := by
  have HC := Lib.hid hcl
  have HK := Lib.hid hr
  obtain ⟨m, hm⟩ : ∃ m, l.length = m := ⟨_, rfl⟩
  have HM := Lib.hid hm
  rw [hm] at hl ⊢
  clear hm hcl hr
  go_enter Try.func30, Try.ntmps30
  go_wp2
  go_loopw [8] (fun iv wr => ∃ i : Nat, i ≤ m ∧ iv = .int .i64 i ∧ Hid (∀ (j k : Nat), j < i → l[j]? = some k → p k = false) ∧ Hid (Below w.heap.size w wr)) (fun iv _ => m - (intOf iv).toNat)
  case atStart => exact ⟨0, by omega, rfl, fun j k hj => absurd hj (by omega), Below.refl _ _⟩
  case round =>
    obtain ⟨i, him, rfl, HN, HB⟩ := hrel
    by_cases hlt : i < m
    · obtain ⟨k, hk⟩ : ∃ k, l[i]? = some k := ⟨_, List.getElem?_eq_getElem (by have := HM.out; omega)⟩
      obtain ⟨g, o, rfl, hg, hc⟩ := HK.out i k hk
      have hd0 : wr.cell? ⟨g, o + i * 3, none⟩ = some (.int .i64 (dirG k)) := (HB.out.cell (p := ⟨g, o + i * 3, none⟩) hg).trans (hc 0 _ rfl)
      have hd1 : wr.cell? ⟨g, o + i * 3 + 1, none⟩ = some (.int .i64 (sideG k)) := (HB.out.cell (p := ⟨g, o + i * 3 + 1, none⟩) hg).trans (hc 1 _ rfl)
      have hd2 : wr.cell? ⟨g, o + i * 3 + 2, none⟩ = some (fvG sb o1 o2 k) := (HB.out.cell (p := ⟨g, o + i * 3 + 2, none⟩) hg).trans (hc 2 _ rfl)
      have HQ := Lib.hid (HC.out wr HB.out k)
      have HKD := Lib.hid hk
      clear hc hk
      go_wp2_with (go_at_call 18; refine HQ.out.mono ?_; rintro e w2 ⟨rfl, hb2⟩; have B2 := Lib.hid (HB.out.trans (hb2.mono HB.out.size)); clear hb2)
      · rename_i hxt
        go_ret
        exact ⟨_, rfl, .inr ⟨i, k, rfl, HKD.out, hxt, fun j' k' h1 h2 => HN.out j' k' h1 h2⟩, B2.out⟩
      · rename_i hxt
        refine ⟨⟨i + 1, by omega, by go_num, fun j k' hj hk => ?_, B2⟩, by simp [intOf]; omega⟩
        rcases Nat.lt_or_ge j i with h1 | h1
        · exact HN.out j k' h1 hk
        · obtain rfl : j = i := by omega
          rw [HKD.out] at hk
          obtain rfl := Option.some.inj hk
          exact hxt
    · obtain rfl : i = m := by omega
      go_wp2
      go_ret
      refine ⟨-1, rfl, .inl ⟨rfl, fun k hk => ?_⟩, HB.out⟩
      obtain ⟨j, hj⟩ := List.getElem?_of_mem hk
      exact HN.out j k (by have := (List.getElem?_eq_some_iff.1 hj).1; have := HM.out; omega) hj
set_option maxHeartbeats 1600000 in
set_option maxRecDepth 100000 in
theorem idxR (p : Nat → Bool) (sb o1 o2 B : Nat) (a : Option Addr) (c : Nat) (l : List Nat) (hl : l.length ≤ 9223372036854775807) (w : World) (hr : RdE 3 (encG sb o1 o2) w a l)
    (hcl : ∀ W, Below w.heap.size w W → ∀ k, Calls Try.prog 27 #[.agg #[.int .i64 (dirG k), .int .i64 (sideG k), fvG sb o1 o2 k], .pointer (some ⟨B, 0, none⟩)] W fun e w' => e = .returned (.bool (p k)) ∧ Below W.heap.size W w') :
    Calls Try.prog 30 #[.slice a l.length c, .func (.func 27) #[] #[.pointer (some ⟨B, 0, none⟩)]] w fun e w' => ∃ i : Int, e = .returned (.int .i64 i) ∧ FirstG p l i ∧ Below w.heap.size w w' := by
  have HC := Lib.hid hcl
  have HK := Lib.hid hr
  obtain ⟨m, hm⟩ : ∃ m, l.length = m := ⟨_, rfl⟩
  have HM := Lib.hid hm
  rw [hm] at hl ⊢
  clear hm hcl hr
  go_enter Try.func30, Try.ntmps30
  go_wp2
  go_loopw [8] (fun iv wr => ∃ i : Nat, i ≤ m ∧ iv = .int .i64 i ∧ Hid (∀ (j k : Nat), j < i → l[j]? = some k → p k = false) ∧ Hid (Below w.heap.size w wr)) (fun iv _ => m - (intOf iv).toNat)
  case atStart => exact ⟨0, by omega, rfl, fun j k hj => absurd hj (by omega), Below.refl _ _⟩
  case round =>
    obtain ⟨i, him, rfl, HN, HB⟩ := hrel
    by_cases hlt : i < m
    · obtain ⟨k, hk⟩ : ∃ k, l[i]? = some k := ⟨_, List.getElem?_eq_getElem (by have := HM.out; omega)⟩
      obtain ⟨g, o, rfl, hg, hc⟩ := HK.out i k hk
      have hd0 : wr.cell? ⟨g, o + i * 3, none⟩ = some (.int .i64 (dirG k)) := (HB.out.cell (p := ⟨g, o + i * 3, none⟩) hg).trans (hc 0 _ rfl)
      have hd1 : wr.cell? ⟨g, o + i * 3 + 1, none⟩ = some (.int .i64 (sideG k)) := (HB.out.cell (p := ⟨g, o + i * 3 + 1, none⟩) hg).trans (hc 1 _ rfl)
      have hd2 : wr.cell? ⟨g, o + i * 3 + 2, none⟩ = some (fvG sb o1 o2 k) := (HB.out.cell (p := ⟨g, o + i * 3 + 2, none⟩) hg).trans (hc 2 _ rfl)
      have HQ := Lib.hid (HC.out wr HB.out k)
      have HKD := Lib.hid hk
      clear hc hk
      go_wp2_with (go_at_call 27; refine HQ.out.mono ?_; rintro e w2 ⟨rfl, hb2⟩; have B2 := Lib.hid (HB.out.trans (hb2.mono HB.out.size)); clear hb2)
      · rename_i hxt
        go_ret
        exact ⟨_, rfl, .inr ⟨i, k, rfl, HKD.out, hxt, fun j' k' h1 h2 => HN.out j' k' h1 h2⟩, B2.out⟩
      · rename_i hxt
        refine ⟨⟨i + 1, by omega, by go_num, fun j k' hj hk => ?_, B2⟩, by simp [intOf]; omega⟩
        rcases Nat.lt_or_ge j i with h1 | h1
        · exact HN.out j k' h1 hk
        · obtain rfl : j = i := by omega
          rw [HKD.out] at hk
          obtain rfl := Option.some.inj hk
          exact hxt
    · obtain rfl : i = m := by omega
      go_wp2
      go_ret
      refine ⟨-1, rfl, .inl ⟨rfl, fun k hk => ?_⟩, HB.out⟩
      obtain ⟨j, hj⟩ := List.getElem?_of_mem hk
      exact HN.out j k (by have := (List.getElem?_eq_some_iff.1 hj).1; have := HM.out; omega) hj
theorem firstG_any {p : Nat → Bool} {l : List Nat} {i : Int} (h : FirstG p l i) : decide (0 ≤ i) = l.any p := by
  rcases h with ⟨rfl, h⟩ | ⟨j, k, rfl, hj, hk, _⟩
  · rw [show decide ((0 : Int) ≤ -1) = false from rfl]
    symm
    rw [List.any_eq_false]
    exact fun k hk => by rw [h k hk]; simp
  · rw [show decide ((0 : Int) ≤ (j : Int)) = true from by simp]
    symm
    rw [List.any_eq_true]
    exact ⟨k, List.mem_of_getElem? hj, hk⟩
set_option maxHeartbeats 1600000 in
set_option maxRecDepth 100000 in
theorem hasA (p : Nat → Bool) (sb o1 o2 B : Nat) (a : Option Addr) (c : Nat) (l : List Nat) (hl : l.length ≤ 9223372036854775807) (w : World) (hr : RdE 3 (encG sb o1 o2) w a l)
    (hcl : ∀ W, Below w.heap.size w W → ∀ k, Calls Try.prog 18 #[.agg #[.int .i64 (dirG k), .int .i64 (sideG k), fvG sb o1 o2 k], .pointer (some ⟨B, 0, none⟩)] W fun e w' => e = .returned (.bool (p k)) ∧ Below W.heap.size W w') :
    Calls Try.prog 17 #[.slice a l.length c, .func (.func 18) #[] #[.pointer (some ⟨B, 0, none⟩)]] w fun e w' => e = .returned (.bool (l.any p)) ∧ Below w.heap.size w w' := by
  have HI := Lib.hid (idxA p sb o1 o2 B a c l hl w hr hcl)
  obtain ⟨m, hm⟩ : ∃ m, l.length = m := ⟨_, rfl⟩
  rw [hm] at hl HI ⊢
  clear hm hcl hr
  go_enter Try.func17, Try.ntmps17
  go_wp2_with (go_at_call 30; refine HI.out.mono ?_; rintro e w2 ⟨i, rfl, hf, hb2⟩; have HF := Lib.hid hf; have B2 := Lib.hid hb2; clear hb2 hf)
  go_ret
  exact ⟨by rw [← firstG_any HF.out]; simp, B2.out⟩
set_option maxHeartbeats 1600000 in
set_option maxRecDepth 100000 in
theorem allow_any (t : TiV) (sl : Sl2) (sb o1 o2 : Nat) (s : ScD) (a : Option Addr) (c : Nat) (l : List Nat) (hl : l.length ≤ 9223372036854775807) (w : World) (h : EnvG w sb o1 o2 s) (hr : RdE 3 (encG sb o1 o2) w a l) :
    Calls Try.prog 13 #[aggV t sl, .slice a l.length c] w fun e w' => e = .returned (.bool (l.any (fitsG t s))) ∧ Below w.heap.size w w' := by
  have hbx : Below w.heap.size w (w.alloc (.cells #[.int .i64 t.hd.id.d, .int .i64 t.hd.id.o, .int .i64 t.hd.id.k, .int .i64 t.hd.id.n, .int .i64 t.hd.seq, .int .i64 t.hd.life, .int .i64 t.level, .bool t.over, .slice sl.ea t.es.length sl.ec, .slice sl.ra t.rs.length sl.rc] 35)) := below_box _ _
  have HI := Lib.hid (hasA (fitsG t s) sb o1 o2 w.heap.size a c l hl _ (hr.below hbx) fun W hW k => al1_any t sl sb o1 o2 s w.heap.size k W ((h.below hbx).below hW) ((box_own w t sl).out.below hW (box_own w t sl).out.lt))
  have HB := Lib.hid hbx
  obtain ⟨m, hm⟩ : ∃ m, l.length = m := ⟨_, rfl⟩
  rw [hm] at hl HI ⊢
  clear hm h hr hbx
  unfold aggV
  go_enter Try.func13, Try.ntmps13
  go_wp2_with (go_at_call 17; refine HI.out.mono ?_; rintro e w2 ⟨rfl, hb2⟩; have B2 := Lib.hid (HB.out.trans (hb2.mono HB.out.size)); clear hb2)
  go_ret
  exact ⟨rfl, B2.out⟩
end Go.Proofs.Ytbgilngpkogapaa.ti
