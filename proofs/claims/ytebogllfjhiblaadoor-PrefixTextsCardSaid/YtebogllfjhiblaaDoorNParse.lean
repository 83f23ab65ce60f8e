/-
  PREFIXES: the prefix of a text: what the program answers.
-/
import Derived.Test.YtebogllfjhiblaaDoorNRead
namespace Go.Proofs.YtebogllfjhiblaaDoor
set_option linter.unusedVariables false
open Go.RowKit
attribute [local go_sem] strL_toList
def parseS (l : List UInt8) : Option (Nat × Int) := match readS l with
  | none => none
  | some p => if textP p = l then some p else none
/-- What Parse answers. -/
def ParseSays (r : Option (Nat × Int)) (e : Ending) : Prop := match r with
  | none => e = .returned (.tuple #[.agg #[.int .u32 0, .int .i64 0], .int .i64 2])
  | some p => e = .returned (.tuple #[.agg #[.int .u32 p.1, .int .i64 p.2], .int .i64 0])
theorem ParseSays.no {r : Option (Nat × Int)} (h : r = none) : ParseSays r (.returned (.tuple #[.agg #[.int .u32 0, .int .i64 0], .int .i64 2])) := by subst h; rfl
theorem ParseSays.yes {r : Option (Nat × Int)} {n : Nat} {b : Int} (h : r = some (n, b)) : ParseSays r (.returned (.tuple #[.agg #[.int .u32 n, .int .i64 b], .int .i64 0])) := by subst h; rfl
theorem readS_lt {l : List UInt8} {p : Nat × Int} (h : readS l = some p) : p.1 < 4294967296 := by
  unfold readS at h
  split at h
  · cases h
  · rename_i x hx
    split at h
    · cases h
    · injection h with h
      subst h
      have := (readN_lt 4 x hx).1
      simpa using this
theorem parse_start (w w1 : World) (h : Below (w.alloc (.cells #[.int .u32 0, .int .i64 0] 24)).heap.size (w.alloc (.cells #[.int .u32 0, .int .i64 0] 24)) w1) :
    Bx w1 w.heap.size (.int .u32 0) (.int .i64 0) ∧ Below w.heap.size w w1 := ⟨(Bx.new w _ _).keep h (Bx.new w (.int .u32 0) (.int .i64 0)).lt, boxedA h⟩
set_option maxHeartbeats 1600000 in
set_option maxRecDepth 100000 in
theorem parse_any (l : List UInt8) (hl : l.length ≤ 100000) (w : World) (hL : LibP w) : Calls Tryd.prog 12 #[.string (strL l)] w fun e w' => ParseSays (parseS l) e ∧ Below w.heap.size w w' := by
  have hrd := read_any l hl (w.alloc (.cells #[.int .u32 0, .int .i64 0] 24)) (hL.below ((Below.refl _ _).alloc (Nat.le_refl _) _))
  have HL := Lib.hid hL
  have hps : parseS l = match readS l with
    | none => none
    | some p => if textP p = l then some p else none := rfl
  clear hL hl
  cases hr : readS l with
  | none =>
    rw [hr] at hrd hps
    have HP : Hid (parseS l = none) := hps
    clear hr hps
    go_enter Tryd.func12, Tryd.ntmps12
    go_wp2_with (go_at_call 29; refine hrd.mono ?_; rintro e w1 ⟨he, hb1⟩; unfold ReadSays at he; subst he; have st := parse_start w w1 hb1; obtain ⟨c0, c1, f0, f1⟩ := st.1.cells; have hz := st.1.lt; have ST := Lib.hid st; clear hb1 st)
    exact bodyPost_ret (results_bx rfl rfl ((ST.out.1.set _ _).alloc _)) rfl ⟨.no HP.out, (((ST.out.2.setCell (p := ⟨w.heap.size, 0, none⟩) (Nat.le_refl _) _).setCell (p := ⟨w.heap.size, 1, none⟩) (Nat.le_refl _) _)).alloc (by have := ST.out.2.size; simpa using this) _⟩
  | some p =>
    obtain ⟨n, b⟩ := p
    have hn := readS_lt hr
    rw [hr] at hrd hps
    have htx := fun W h => text_any n hn b W h
    have HPS := Lib.hid hps
    have HNN := Lib.hid hn
    clear hr hps hn
    by_cases ht : textP (n, b) = l
    · have HP : Hid (parseS l = some (n, b)) := by unfold Hid; rw [HPS.out]; exact if_pos ht
      rw [ht] at htx
      have hd : (l == l) = true := by simp
      clear ht
      go_enter Tryd.func12, Tryd.ntmps12
      go_wp2_with (first
        | (go_at_call 29; refine hrd.mono ?_; rintro e w1 ⟨he, hb1⟩; unfold ReadSays at he; subst he; have st := parse_start w w1 hb1; have s4 := Lib.hid (Bx.new w1 (.int .u32 n) (.int .i64 b)); have ST := Lib.hid st; have X1 := Lib.hid (st.1.alloc (.cells #[.int .u32 n, .int .i64 b] 24)); have HB1 := Lib.hid (st.2.alloc st.2.size (.cells #[.int .u32 n, .int .i64 b] 24)); clear hb1 st)
        | (go_at_call 14; refine (htx _ (HL.out.below HB1.out).tab).mono ?_; rintro e w2 ⟨rfl, hb2⟩; have X2 := Lib.hid (X1.out.keep hb2 X1.out.lt); have Y2 := Lib.hid (s4.out.keep hb2 s4.out.lt); have HB2 := Lib.hid (HB1.out.trans (hb2.mono HB1.out.size)); obtain ⟨c0, c1, f0, f1⟩ := X2.out.cells; obtain ⟨d0, d1, _, _⟩ := Y2.out.cells; clear hb2))
      exact bodyPost_ret (results_bx rfl rfl (X2.out.set _ _)) rfl ⟨.yes HP.out, (HB2.out.setCell (p := ⟨w.heap.size, 0, none⟩) (Nat.le_refl _) _).setCell (p := ⟨w.heap.size, 1, none⟩) (Nat.le_refl _) _⟩
    · have HP : Hid (parseS l = none) := by unfold Hid; rw [HPS.out]; exact if_neg ht
      have hd : (textP (n, b) == l) = false := by simpa using ht
      generalize textP (n, b) = TX at *
      clear ht
      go_enter Tryd.func12, Tryd.ntmps12
      go_wp2_with (first
        | (go_at_call 29; refine hrd.mono ?_; rintro e w1 ⟨he, hb1⟩; unfold ReadSays at he; subst he; have st := parse_start w w1 hb1; have s4 := Lib.hid (Bx.new w1 (.int .u32 n) (.int .i64 b)); have ST := Lib.hid st; have X1 := Lib.hid (st.1.alloc (.cells #[.int .u32 n, .int .i64 b] 24)); have HB1 := Lib.hid (st.2.alloc st.2.size (.cells #[.int .u32 n, .int .i64 b] 24)); clear hb1 st)
        | (go_at_call 14; refine (htx _ (HL.out.below HB1.out).tab).mono ?_; rintro e w2 ⟨rfl, hb2⟩; have X2 := Lib.hid (X1.out.keep hb2 X1.out.lt); have HB2 := Lib.hid (HB1.out.trans (hb2.mono HB1.out.size)); obtain ⟨c0, c1, f0, f1⟩ := X2.out.cells; clear hb2))
      exact bodyPost_ret (results_bx rfl rfl (X2.out.set _ _)) rfl ⟨.no HP.out, (HB2.out.setCell (p := ⟨w.heap.size, 0, none⟩) (Nat.le_refl _) _).setCell (p := ⟨w.heap.size, 1, none⟩) (Nat.le_refl _) _⟩
end Go.Proofs.YtebogllfjhiblaaDoor
