/-
  THE DOCUMENT s Find: where the first field of an id is, and what is behind it.
-/
import Derived.Test.YteelknmafnoccaaEnd
namespace Go.Proofs.Yteelknmafnoccaa
open Go.RowKit

theorem endFrom_ge : ∀ (l : List It) (d : Int) (i : Nat), i ≤ endFrom d i l ∧ endFrom d i l ≤ i + l.length := by
  intro l
  induction l with
  | nil => intro d i; simp [endFrom]
  | cons x l ih =>
    intro d i
    rw [endFrom]
    split
    · simp
    · have := ih (step x d) (i + 1)
      simp only [List.length_cons]
      omega
theorem endAt_gt {l : List It} {i : Nat} (h : i < l.length) : i < endAt l i ∧ endAt l i ≤ l.length := by
  have hd : l.drop i = l[i] :: l.drop (i + 1) := List.drop_eq_getElem_cons h
  unfold endAt
  rw [hd, endFrom]
  split
  · omega
  · have := endFrom_ge (l.drop (i + 1)) (step l[i] 0) (i + 1)
    rw [List.length_drop] at this
    omega

/-- The first field of that id, from i on: where it is, and what is behind it. -/
def findGo (l : List It) (id : Int) : Nat → Nat → Int × Int × Bool
  | 0, _ => (0, 0, false)
  | f + 1, i => match l[i]? with
    | none => (0, 0, false)
    | some x => if x.id = id then ((i : Int), (endAt l i : Nat), true) else findGo l id f (endAt l i)
def findS (l : List It) (id : Int) : Int × Int × Bool := if rightB l = true then findGo l id (l.length + 1) 0 else (0, 0, false)

set_option maxHeartbeats 4000000 in
set_option maxRecDepth 100000 in
theorem rfind_any (a : Option Addr) (cap : Nat) (l : List It) (id : Int) (hlen : l.length ≤ 1000000) (w : World) (hr : RdI w.heap.size w a l) :
    Calls Try.prog 20 #[.slice a l.length cap, .int .i64 id] w fun e w' => e = .returned (.tuple #[.int .i64 (findS l id).1, .int .i64 (findS l id).2.1, .bool (findS l id).2.2]) ∧ Below w.heap.size w w' := by
  have hright := right_any a cap l (by omega) w hr
  have HR := Lib.hid hr
  clear hr
  obtain ⟨r1, r2, r3, hres⟩ : ∃ r1 r2 r3, findS l id = (r1, r2, r3) := ⟨_, _, _, rfl⟩
  rw [hres]
  by_cases hrb : rightB l = true
  · have HF0 : Hid (findGo l id (l.length + 1) 0 = (r1, r2, r3)) := by rw [Hid, ← hres, findS, if_pos hrb]
    rw [hrb] at hright
    clear hres hrb
    go_enter Try.func20, Try.ntmps20
    go_wp2_with (go_at_call 15; refine hright.mono ?_; rintro e w1 ⟨rfl, hb1⟩; have H1 := Lib.hid hb1; clear hb1)
    go_loopw [8] (fun iv wr => ∃ i f : Nat, i ≤ l.length ∧ l.length - i < f ∧ iv = .int .i64 i ∧ Hid (findGo l id f i = (r1, r2, r3)) ∧ Below w.heap.size w wr) (fun iv _ => l.length - (intOf iv).toNat)
    case atStart => exact ⟨0, l.length + 1, Nat.zero_le _, by omega, rfl, HF0, H1.out⟩
    case round =>
      obtain ⟨i, f, hi, hf, rfl, HF, hbel⟩ := hrel
      have HB := Lib.hid hbel
      clear hbel
      obtain ⟨f, rfl⟩ : ∃ f', f = f' + 1 := ⟨f - 1, by omega⟩
      by_cases hlt : i < l.length
      · obtain ⟨b, off, rfl, hb, hc⟩ := HR.out (by omega)
        obtain ⟨x, hx⟩ : ∃ x, l[i]? = some x := ⟨_, List.getElem?_eq_getElem hlt⟩
        obtain ⟨_, c1, _⟩ := hc i x hx
        have g1 := (HB.out.cell (p := ⟨b, off + i * 4 + 1, none⟩) hb).trans c1
        have hend := end_any (some ⟨b, off, none⟩) cap l i hi hlen
        have hgt := endAt_gt hlt
        have h := HF.out
        rw [findGo, hx] at h
        simp only at h
        have hE := fun W (hW : Below w.heap.size w W) => hend W ((HR.out.below hW).mono hW.size)
        have HE := Lib.hid hE
        clear hc c1 hend hE
        by_cases hid' : x.id = id
        · rw [if_pos hid'] at h
          have HH := Lib.hid h
          have hid2 : (x.id == id) = true := by simpa using hid'
          clear h hid' hx
          go_wp2_with (go_at_call 32; refine (HE.out _ HB.out).mono ?_; rintro e w' ⟨rfl, rfl⟩)
          go_ret3
          have hh := HH.out
          injection hh with h1 h2
          injection h2 with h2 h3
          subst h1 h2 h3
          exact ⟨rfl, HB.out⟩
        · rw [if_neg hid'] at h
          have HH := Lib.hid h
          have hid2 : (x.id == id) = false := by simpa using hid'
          clear h hid' hx
          go_wp2_with (go_at_call 32; refine (HE.out _ HB.out).mono ?_; rintro e w' ⟨rfl, rfl⟩)
          go_roundw
          case rel => exact ⟨endAt l i, f, hgt.2, by omega, rfl, HH, HB.out⟩
          case measure => simp [intOf]; omega
      · have h := HF.out
        rw [findGo, List.getElem?_eq_none (by omega)] at h
        simp only at h
        have HH := Lib.hid h
        clear h
        obtain rfl : i = l.length := by omega
        go_wp2
        go_ret3
        have hh := HH.out
        injection hh with h1 h2
        injection h2 with h2 h3
        subst h1 h2 h3
        exact ⟨rfl, HB.out⟩
  · have hrf : rightB l = false := by simpa using hrb
    rw [hrf] at hright
    rw [findS, if_neg hrb] at hres
    injection hres with h1 h2
    injection h2 with h2 h3
    subst h1 h2 h3
    clear hrb hrf
    by_cases h0 : 0 < l.length
    all_goals
      go_enter Try.func20, Try.ntmps20
      go_wp2_with (go_at_call 15; refine hright.mono ?_; rintro e w1 ⟨rfl, hb1⟩; have H1 := Lib.hid hb1; clear hb1)
      refine wp_loop_rounds 1 ?_
      rw [rounds_succ]
      go_wp2
      go_ret3
      exact ⟨rfl, H1.out⟩
end Go.Proofs.Yteelknmafnoccaa
