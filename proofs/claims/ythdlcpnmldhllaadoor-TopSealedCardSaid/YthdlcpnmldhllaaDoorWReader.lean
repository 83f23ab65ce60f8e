/-
  THE READER: its four functions take items off a row that lies below.
-/
import Derived.Test.YthdlcpnmldhllaaDoorWTrav
import Derived.BigQuiet
namespace Go.Proofs.YthdlcpnmldhllaaDoor
open Go.RowKit Go.Shelf
set_option linter.unusedVariables false

/-- A reader's block holds what is left of a row. -/
def RInv (base bw : Nat) (s : List It) (W : World) : Prop := base ≤ bw ∧ ∃ A n c, W.heap[bw]? = some (.cells #[.slice A n c] 97 (0, 0)) ∧ RdI base W A s ∧ n = s.length ∧ n ≤ c ∧ c ≤ maxLen
theorem RInv.calm {base bw : Nat} {s : List It} {W W' : World} (h : RInv base bw s W) (k : Calm base W W') : RInv base bw s W' := by
  obtain ⟨hb, A, n, c, h1, h2, h3⟩ := h
  exact ⟨hb, A, n, c, k.keep bw _ _ _ h1 rfl, h2.below k.bel, h3⟩
theorem RdI.drop1 {n₀ : Nat} {w : World} {b off : Nat} {x : It} {l : List It} (h : RdI n₀ w (some ⟨b, off, none⟩) (x :: l)) : RdI n₀ w (some ⟨b, off + 4, none⟩) l := fun hp => by
  obtain ⟨b', off', e, hb, hc⟩ := h (by simp)
  injection e with e
  injection e with e1 e2
  subst e1 e2
  refine ⟨b, off + 4, rfl, hb, fun i y hx => ?_⟩
  obtain ⟨c0, c1, c2, A, cap, c3, h1, h2, hr⟩ := hc (i + 1) y (by simpa using hx)
  rw [show off + (i + 1) * 4 = off + 4 + i * 4 by omega] at c0 c1 c2 c3
  exact ⟨c0, c1, c2, A, cap, c3, h1, h2, hr⟩
/-- The box of what is left is turned. -/
theorem RInv.turn {base bw : Nat} {s' : List It} {W : World} {A A' : Option Addr} {n n' c c' : Nat} (hb : base ≤ bw) (hbox : W.heap[bw]? = some (.cells #[.slice A n c] 97 (0, 0))) (hr : RdI base W A' s') (hn : n' = s'.length) (hc : n' ≤ c') (hm : c' ≤ maxLen) :
    RInv base bw s' (W.setCell ⟨bw, 0, none⟩ (.slice A' n' c')) ∧ Keep base W (W.setCell ⟨bw, 0, none⟩ (.slice A' n' c')) ∧ TrK W (W.setCell ⟨bw, 0, none⟩ (.slice A' n' c')) := by
  have hB : Below base W (W.setCell ⟨bw, 0, none⟩ (.slice A' n' c')) := (Below.refl _ _).setCell (p := ⟨bw, 0, none⟩) hb _
  refine ⟨⟨hb, A', n', c', by simp [World.setCell, Array.getElem?_modify, hbox], hr.below hB, hn, hc, hm⟩, (Keep.refl base W).turn hb hbox rfl 0 _, fun k cs z hk => ?_⟩
  rw [Below.heap_setCell _ _ _ _ (fun e => ?_)]
  · exact hk
  · simp only at e
    subst e
    rw [hbox] at hk
    injection hk with hk
    injection hk with _ h2
    exact absurd h2 (by decide)

theorem reader_next (base bw : Nat) (s : List It) (kind id : Int) (b : Bool) (hB : nextB kind id s = b) (W : World) (h : RInv base bw s W) :
    Calls Tryd.prog 67 #[.pointer (some ⟨bw, 0, none⟩), .int .i64 kind, .int .i64 id] W fun e w' => e = .returned (.bool b) ∧ W = w' := by
  obtain ⟨hb, A, n, c, hbox, hr, hn, hc1, hc2⟩ := h
  have c0 : W.cell? ⟨bw, 0, none⟩ = some (.slice A n c) := by simp [World.cell?, hbox]
  cases s with
  | nil =>
    simp at hn
    subst hn
    obtain rfl : false = b := hB
    clear hbox hr
    go_enter Tryd.func67, Tryd.ntmps67
    go_wp2
    go_ret
    exact ⟨rfl, rfl⟩
  | cons x s =>
    obtain ⟨q, off, rfl, hlt, hcs⟩ := hr (by simp)
    obtain ⟨x0, x1, x2, _⟩ := hcs 0 x rfl
    simp only [Nat.zero_mul, Nat.add_zero] at x0 x1 x2
    obtain ⟨m, rfl⟩ : ∃ m, n = m + 1 := ⟨s.length, by simpa using hn⟩
    have hm : m + 1 ≤ maxLen := by omega
    unfold maxLen at hm
    clear hbox hr hcs hn
    by_cases hk : x.kind = kind
    · by_cases hi : x.id = id
      · subst hk hi
        obtain rfl : true = b := by rw [← hB]; simp [nextB]
        clear hB
        go_enter Tryd.func67, Tryd.ntmps67
        go_wp2
        go_ret
        exact ⟨rfl, rfl⟩
      · subst hk
        obtain rfl : false = b := by rw [← hB]; simp [nextB, hi]
        have hib : (x.id == id) = false := by simpa using hi
        clear hB
        go_enter Tryd.func67, Tryd.ntmps67
        go_wp2
        go_ret
        exact ⟨rfl, rfl⟩
    · obtain rfl : false = b := by rw [← hB]; simp [nextB, hk]
      have hkb : (x.kind == kind) = false := by simpa using hk
      clear hB
      go_enter Tryd.func67, Tryd.ntmps67
      go_wp2
      go_ret
      exact ⟨rfl, rfl⟩
theorem reader_more (base bw : Nat) (s : List It) (id : Int) (is : Bool) (W : World) (h : RInv base bw s W) :
    Calls Tryd.prog 44 #[.pointer (some ⟨bw, 0, none⟩), .int .i64 id, .bool is] W fun e w' => e = .returned (.bool (nextB 3 id s)) ∧ W = w' := by
  have H := Lib.hid h
  clear h
  go_enter Tryd.func44, Tryd.ntmps44
  go_wp2_with (go_at_call 67; refine (reader_next base bw s 3 id _ rfl W H.out).mono ?_; rintro e w' ⟨rfl, rfl⟩)
  go_ret
  exact ⟨rfl, rfl⟩
theorem next_cons {kind id : Int} {s : List It} (h : nextB kind id s = true) : ∃ x t, s = x :: t := by
  cases s with
  | nil => simp [nextB] at h
  | cons x t => exact ⟨x, t, rfl⟩
theorem reader_skip (base bw : Nat) (s : List It) (kind id : Int) (W : World) (h : RInv base bw s W) :
    Calls Tryd.prog 68 #[.pointer (some ⟨bw, 0, none⟩), .int .i64 kind, .int .i64 id] W fun e w' => e = .returned (.bool (skipS kind id s).1) ∧ RInv base bw (skipS kind id s).2 w' ∧ Keep base W w' ∧ TrK W w' := by
  rcases hB : nextB kind id s with _ | _
  · have hN := Lib.hid (reader_next base bw s kind id _ hB W h)
    have H := Lib.hid h
    have e : skipS kind id s = (false, s) := by simp [skipS, hB]
    rw [e]
    clear h hB e
    go_enter Tryd.func68, Tryd.ntmps68
    go_wp2_with (go_at_call 67; refine hN.out.mono ?_; rintro e w' ⟨rfl, rfl⟩)
    go_ret
    exact ⟨rfl, H.out, Keep.refl _ _, fun _ _ _ hk => hk⟩
  · have hN := Lib.hid (reader_next base bw s kind id _ hB W h)
    have e : skipS kind id s = (true, s.drop 1) := by simp [skipS, hB]
    rw [e]
    obtain ⟨x, t, rfl⟩ := next_cons hB
    obtain ⟨hb, A, n, c, hbox, hr, hn, hc1, hc2⟩ := h
    obtain ⟨q, off, rfl, hlt, hcs⟩ := hr (by simp)
    obtain ⟨m, rfl⟩ : ∃ m, n = m + 1 := ⟨t.length, by simpa using hn⟩
    have hmt : m = t.length := by simpa using hn
    have c0 : W.cell? ⟨bw, 0, none⟩ = some (.slice (some ⟨q, off, none⟩) (m + 1) c) := by simp [World.cell?, hbox]
    have f0 : W.frozen? ⟨bw, 0, none⟩ = false := by simp [World.frozen?, hbox]
    have hm : c ≤ maxLen := by omega
    have HBox := Lib.hid hbox
    have HR := Lib.hid hr
    have HT := Lib.hid hmt
    unfold maxLen at hm
    clear hbox hr hcs hn hmt hB e
    by_cases hc : c = 1
    · subst hc
      obtain rfl : m = 0 := by omega
      go_enter Tryd.func68, Tryd.ntmps68
      go_wp2_with (go_at_call 67; refine hN.out.mono ?_; rintro e w' ⟨rfl, rfl⟩)
      go_ret
      refine ⟨rfl, RInv.turn hb HBox.out (fun hp => ?_) HT.out (by omega) (by unfold maxLen; omega)⟩
      have := HT.out
      simp at hp
      omega
    · go_enter Tryd.func68, Tryd.ntmps68
      go_wp2_with (go_at_call 67; refine hN.out.mono ?_; rintro e w' ⟨rfl, rfl⟩)
      go_ret
      exact ⟨rfl, RInv.turn hb HBox.out HR.out.drop1 HT.out (by omega) (by unfold maxLen; omega)⟩
theorem reader_open (base bw : Nat) (s : List It) (id : Int) (W : World) (h : RInv base bw s W) :
    Calls Tryd.prog 42 #[.pointer (some ⟨bw, 0, none⟩), .int .i64 id] W fun e w' => e = .returned (.bool (skipS 3 id s).1) ∧ RInv base bw (skipS 3 id s).2 w' ∧ Keep base W w' ∧ TrK W w' := by
  have HN := Lib.hid (reader_skip base bw s 3 id W h)
  clear h
  go_enter Tryd.func42, Tryd.ntmps42
  go_wp2_with (go_at_call 68; refine HN.out.mono ?_; rintro e w1 ⟨rfl, hn⟩; have HX := Lib.hid hn; clear hn)
  go_ret
  exact ⟨rfl, HX.out⟩
theorem reader_end (base bw : Nat) (s : List It) (W : World) (h : RInv base bw s W) :
    Calls Tryd.prog 43 #[.pointer (some ⟨bw, 0, none⟩)] W fun e w' => e = .returned (.bool (skipS 4 0 s).1) ∧ RInv base bw (skipS 4 0 s).2 w' ∧ Keep base W w' ∧ TrK W w' := by
  have HN := Lib.hid (reader_skip base bw s 4 0 W h)
  clear h
  go_enter Tryd.func43, Tryd.ntmps43
  go_wp2_with (go_at_call 68; refine HN.out.mono ?_; rintro e w1 ⟨rfl, hn⟩; have HX := Lib.hid hn; clear hn)
  go_ret
  exact ⟨rfl, HX.out⟩
theorem reader_number (base bw : Nat) (s : List It) (id n : Int) (B off : Nat) (W : World) (h : RInv base bw s W) (ha : At base W B off [.int .i64 n]) :
    Calls Tryd.prog 41 #[.pointer (some ⟨bw, 0, none⟩), .int .i64 id, .pointer (some ⟨B, off, none⟩)] W fun e w' => e = .returned (.bool (rMac.num s id n).1) ∧ RInv base bw (rMac.num s id n).2.2 w' ∧ Chg base B off (off + 1) W w' ∧ At base w' B off [.int .i64 (rMac.num s id n).2.1] ∧ TrK W w' := by
  rcases hB : nextB 1 id s with _ | _
  · have hN := Lib.hid (reader_next base bw s 1 id _ hB W h)
    have H := Lib.hid h
    have HA := Lib.hid ha
    have e : rMac.num s id n = (false, n, s) := by simp [rMac, hB]
    rw [e]
    clear h hB e ha
    go_enter Tryd.func41, Tryd.ntmps41
    go_wp2_with (go_at_call 67; refine hN.out.mono ?_; rintro e w' ⟨rfl, rfl⟩)
    go_ret
    exact ⟨rfl, H.out, (Keep.refl _ _).chg _ _ _, HA.out, fun _ _ _ hk => hk⟩
  · have hN := Lib.hid (reader_next base bw s 1 id _ hB W h)
    obtain ⟨x, t, rfl⟩ := next_cons hB
    have e : rMac.num (x :: t) id n = (true, x.n, t) := by simp [rMac, hB]
    rw [e]
    obtain ⟨hb, A, k, c, hbox, hr, hn, hc1, hc2⟩ := h
    obtain ⟨q, o, rfl, hlt, hcs⟩ := hr (by simp)
    obtain ⟨_, _, x2, _⟩ := hcs 0 x rfl
    simp only [Nat.zero_mul, Nat.add_zero] at x2
    obtain ⟨m, rfl⟩ : ∃ m, k = m + 1 := ⟨t.length, by simpa using hn⟩
    have hmt : m = t.length := by simpa using hn
    have c0 : W.cell? ⟨bw, 0, none⟩ = some (.slice (some ⟨q, o, none⟩) (m + 1) c) := by simp [World.cell?, hbox]
    have f0 : W.frozen? ⟨bw, 0, none⟩ = false := by simp [World.frozen?, hbox]
    have hm : c ≤ maxLen := by omega
    have a0 := ha.cell0 rfl
    have af := ha.frozen off
    have ha' := ha
    obtain ⟨hBb, csB, tB, hBB, hkB, _⟩ := ha'
    have hne : B ≠ bw := fun e => by
      subst e
      rw [hbox] at hBB
      injection hBB with hBB
      injection hBB with _ h2
      subst h2
      exact absurd hkB (by decide)
    have hne' : bw ≠ B := fun e => hne e.symm
    have hW1 : (W.setCell ⟨B, off, none⟩ (.int .i64 x.n)).heap[bw]? = some (.cells #[.slice (some ⟨q, o, none⟩) (m + 1) c] 97 (0, 0)) := by rw [Below.heap_setCell _ _ _ _ hne']; exact hbox
    have hBel : Below base W (W.setCell ⟨B, off, none⟩ (.int .i64 x.n)) := (Below.refl _ _).setCell (p := ⟨B, off, none⟩) hBb _
    have hC : Chg base B off (off + 1) W (W.setCell ⟨B, off, none⟩ (.int .i64 x.n)) := ((Keep.refl base W).chg B off (off + 1)).set hBb (Nat.le_refl _) (Nat.lt_succ_self _) _
    have hA1 : At base (W.setCell ⟨B, off, none⟩ (.int .i64 x.n)) B off [.int .i64 x.n] := ha.set 0 (by simp) _
    have hTr : TrK W (W.setCell ⟨B, off, none⟩ (.int .i64 x.n)) := fun k cs z hk => by
      rw [Below.heap_setCell _ _ _ _ (fun e => ?_)]
      · exact hk
      · simp only at e
        subst e
        rw [hBB] at hk
        injection hk with hk
        injection hk with _ h2
        subst h2
        exact absurd hkB (by decide)
    have HBox := Lib.hid hW1
    have HR := Lib.hid (hr.below hBel)
    have HT := Lib.hid hmt
    have HC := Lib.hid hC
    have HA1 := Lib.hid hA1
    have HTr := Lib.hid hTr
    unfold maxLen at hm
    clear hbox hr hcs hn hmt hB e ha hBB hW1 hBel hC hA1 hTr
    by_cases hc : c = 1
    · subst hc
      obtain rfl : m = 0 := by omega
      go_enter Tryd.func41, Tryd.ntmps41
      go_wp2_with (go_at_call 67; refine hN.out.mono ?_; rintro e w' ⟨rfl, rfl⟩)
      go_ret
      obtain ⟨t1, t2, t3⟩ := RInv.turn (s' := t) (A' := some ⟨q, o, none⟩) (n' := 0) (c' := 0) hb HBox.out (fun hp => by have := HT.out; omega) HT.out (by omega) (by unfold maxLen; omega)
      exact ⟨rfl, t1, HC.out.trans (t2.chg _ _ _), HA1.out.keep t2, fun k cs z hk => t3 k cs z (HTr.out k cs z hk)⟩
    · go_enter Tryd.func41, Tryd.ntmps41
      go_wp2_with (go_at_call 67; refine hN.out.mono ?_; rintro e w' ⟨rfl, rfl⟩)
      go_ret
      obtain ⟨t1, t2, t3⟩ := RInv.turn (s' := t) (A' := some ⟨q, o + 4, none⟩) (n' := m) (c' := c - 1) hb HBox.out HR.out.drop1 HT.out (by omega) (by unfold maxLen; omega)
      exact ⟨rfl, t1, HC.out.trans (t2.chg _ _ _), HA1.out.keep t2, fun k cs z hk => t3 k cs z (HTr.out k cs z hk)⟩
/-- The reader's traversal, from block n on. -/
def rEnv (n : Nat) : Env (List It) := { M := rMac, g1 := 41, g2 := 42, g3 := 43, g4 := 44, bt := n + 1 + 1, bw := n + 1, base := n, inv := RInv n (n + 1), len := fun _ => 0 }
theorem rEnv_ok (n : Nat) : (rEnv n).Ok where
  e1 := enters_of Tryd.func41 (by kernel_rfl) rfl
  e2 := enters_of Tryd.func42 (by kernel_rfl) rfl
  e3 := enters_of Tryd.func43 (by kernel_rfl) rfl
  e4 := enters_of Tryd.func44 (by kernel_rfl) rfl
  le := by show n ≤ n + 1 + 1; omega
  lnum := fun s id k => Nat.zero_le _
  lopn := fun s id => Nat.zero_le _
  lfin := fun s => Nat.zero_le _
  calm := fun s W W' h k => RInv.calm h k
  num := fun s id k B off W h hl ha => reader_number n (n + 1) s id k B off W h ha
  opn := fun s id W h hl => reader_open n (n + 1) s id W h
  fin := fun s W h hl => reader_end n (n + 1) s W h
  more := fun s id is W h => by
    refine (reader_more n (n + 1) s id is W h).mono ?_
    rintro e w' ⟨h1, rfl⟩
    exact ⟨h1, h, Keep.refl _ _, fun _ _ _ hk => hk⟩
end Go.Proofs.YthdlcpnmldhllaaDoor
