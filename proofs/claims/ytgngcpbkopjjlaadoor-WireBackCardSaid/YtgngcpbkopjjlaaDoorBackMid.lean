/-
  THE PROGRAM's Decode of packets.
-/
import Derived.Test.YtgngcpbkopjjlaaDoorWTrav
import Derived.BigQuiet
import Derived.Test.YtgngcpbkopjjlaaDoorWGood
import Derived.Test.YtgngcpbkopjjlaaDoorWTie
import Derived.Test.YtgngcpbkopjjlaaDoorWWrite
import Derived.Test.YtgngcpbkopjjlaaDoorPDec
import Derived.Test.YtgngcpbkopjjlaaDoorTie
import Derived.LaidMore
import Derived.OpenShut
import Derived.Test.YtgngcpbkopjjlaaDoorFrame
import Derived.Test.YtgngcpbkopjjlaaDoorPDec2
import Derived.Deep.QuietTactic
import Derived.Deep.AppendLies

/-
  THE READER: its four functions take items off a row that lies below.
-/
namespace Go.Proofs.YtgngcpbkopjjlaaDoor
open Go.RowKit Go.Shelf
set_option linter.unusedVariables false

/-- A reader's block holds what is left of a row. -/
def RInv (base bw : Nat) (s : List It) (W : World) : Prop := base ≤ bw ∧ ∃ A n c, W.heap[bw]? = some (.cells #[.slice A n c] 78 (0, 0)) ∧ RdI base W A s ∧ n = s.length ∧ n ≤ c ∧ c ≤ maxLen
theorem RInv.calm {base bw : Nat} {s : List It} {W W' : World} (h : RInv base bw s W) (k : Calm base W W') : RInv base bw s W' := by
  obtain ⟨hb, A, n, c, h1, h2, h3⟩ := h
  exact ⟨hb, A, n, c, k.keep bw _ _ _ h1 rfl, h2.below k.bel, h3⟩
theorem RdI.drop1 {n₀ : Nat} {w : World} {b off : Nat} {x : It} {l : List It} (h : RdI n₀ w (some ⟨b, off, none⟩) (x :: l)) : RdI n₀ w (some ⟨b, off + 4, none⟩) l := fun hp => by
  obtain ⟨b', off', e, hb, hc⟩ := h (by simp)
  injection e with e
  injection e with e1 e2
  subst e1 e2
  refine ⟨b, off + 4, rfl, hb, fun i y hx => ?_⟩
  obtain ⟨c0, c1, c2, A, cap, c3, h1, h2, hr⟩ := hc (i + 1) y (by simpa using hx)
  rw [show off + (i + 1) * 4 = off + 4 + i * 4 by omega] at c0 c1 c2 c3
  exact ⟨c0, c1, c2, A, cap, c3, h1, h2, hr⟩
/-- The box of what is left is turned. -/
theorem RInv.turn {base bw : Nat} {s' : List It} {W : World} {A A' : Option Addr} {n n' c c' : Nat} (hb : base ≤ bw) (hbox : W.heap[bw]? = some (.cells #[.slice A n c] 78 (0, 0))) (hr : RdI base W A' s') (hn : n' = s'.length) (hc : n' ≤ c') (hm : c' ≤ maxLen) :
    RInv base bw s' (W.setCell ⟨bw, 0, none⟩ (.slice A' n' c')) ∧ Keep base W (W.setCell ⟨bw, 0, none⟩ (.slice A' n' c')) ∧ TrK W (W.setCell ⟨bw, 0, none⟩ (.slice A' n' c')) := by
  have hB : Below base W (W.setCell ⟨bw, 0, none⟩ (.slice A' n' c')) := (Below.refl _ _).setCell (p := ⟨bw, 0, none⟩) hb _
  refine ⟨⟨hb, A', n', c', by simp [World.setCell, Array.getElem?_modify, hbox], hr.below hB, hn, hc, hm⟩, (Keep.refl base W).turn hb hbox rfl 0 _, fun k cs z hk => ?_⟩
  rw [Below.heap_setCell _ _ _ _ (fun e => ?_)]
  · exact hk
  · simp only at e
    subst e
    rw [hbox] at hk
    injection hk with hk
    injection hk with _ h2
    exact absurd h2 (by decide)

theorem reader_next (base bw : Nat) (s : List It) (kind id : Int) (b : Bool) (hB : nextB kind id s = b) (W : World) (h : RInv base bw s W) :
    Calls Tryd.prog 75 #[.pointer (some ⟨bw, 0, none⟩), .int .i64 kind, .int .i64 id] W fun e w' => e = .returned (.bool b) ∧ W = w' := by
  obtain ⟨hb, A, n, c, hbox, hr, hn, hc1, hc2⟩ := h
  have c0 : W.cell? ⟨bw, 0, none⟩ = some (.slice A n c) := by simp [World.cell?, hbox]
  cases s with
  | nil =>
    simp at hn
    subst hn
    obtain rfl : false = b := hB
    clear hbox hr
    go_enter Tryd.func75, Tryd.ntmps75
    go_wp2
    go_ret
    exact ⟨rfl, rfl⟩
  | cons x s =>
    obtain ⟨q, off, rfl, hlt, hcs⟩ := hr (by simp)
    obtain ⟨x0, x1, x2, _⟩ := hcs 0 x rfl
    simp only [Nat.zero_mul, Nat.add_zero] at x0 x1 x2
    obtain ⟨m, rfl⟩ : ∃ m, n = m + 1 := ⟨s.length, by simpa using hn⟩
    have hm : m + 1 ≤ maxLen := by omega
    unfold maxLen at hm
    clear hbox hr hcs hn
    by_cases hk : x.kind = kind
    · by_cases hi : x.id = id
      · subst hk hi
        obtain rfl : true = b := by rw [← hB]; simp [nextB]
        clear hB
        go_enter Tryd.func75, Tryd.ntmps75
        go_wp2
        go_ret
        exact ⟨rfl, rfl⟩
      · subst hk
        obtain rfl : false = b := by rw [← hB]; simp [nextB, hi]
        have hib : (x.id == id) = false := by simpa using hi
        clear hB
        go_enter Tryd.func75, Tryd.ntmps75
        go_wp2
        go_ret
        exact ⟨rfl, rfl⟩
    · obtain rfl : false = b := by rw [← hB]; simp [nextB, hk]
      have hkb : (x.kind == kind) = false := by simpa using hk
      clear hB
      go_enter Tryd.func75, Tryd.ntmps75
      go_wp2
      go_ret
      exact ⟨rfl, rfl⟩
theorem reader_more (base bw : Nat) (s : List It) (id : Int) (is : Bool) (W : World) (h : RInv base bw s W) :
    Calls Tryd.prog 46 #[.pointer (some ⟨bw, 0, none⟩), .int .i64 id, .bool is] W fun e w' => e = .returned (.bool (nextB 3 id s)) ∧ W = w' := by
  have H := Lib.hid h
  clear h
  go_enter Tryd.func46, Tryd.ntmps46
  go_wp2_with (go_at_call 75; refine (reader_next base bw s 3 id _ rfl W H.out).mono ?_; rintro e w' ⟨rfl, rfl⟩)
  go_ret
  exact ⟨rfl, rfl⟩
theorem next_cons {kind id : Int} {s : List It} (h : nextB kind id s = true) : ∃ x t, s = x :: t := by
  cases s with
  | nil => simp [nextB] at h
  | cons x t => exact ⟨x, t, rfl⟩
theorem reader_skip (base bw : Nat) (s : List It) (kind id : Int) (W : World) (h : RInv base bw s W) :
    Calls Tryd.prog 76 #[.pointer (some ⟨bw, 0, none⟩), .int .i64 kind, .int .i64 id] W fun e w' => e = .returned (.bool (skipS kind id s).1) ∧ RInv base bw (skipS kind id s).2 w' ∧ Keep base W w' ∧ TrK W w' := by
  rcases hB : nextB kind id s with _ | _
  · have hN := Lib.hid (reader_next base bw s kind id _ hB W h)
    have H := Lib.hid h
    have e : skipS kind id s = (false, s) := by simp [skipS, hB]
    rw [e]
    clear h hB e
    go_enter Tryd.func76, Tryd.ntmps76
    go_wp2_with (go_at_call 75; refine hN.out.mono ?_; rintro e w' ⟨rfl, rfl⟩)
    go_ret
    exact ⟨rfl, H.out, Keep.refl _ _, fun _ _ _ hk => hk⟩
  · have hN := Lib.hid (reader_next base bw s kind id _ hB W h)
    have e : skipS kind id s = (true, s.drop 1) := by simp [skipS, hB]
    rw [e]
    obtain ⟨x, t, rfl⟩ := next_cons hB
    obtain ⟨hb, A, n, c, hbox, hr, hn, hc1, hc2⟩ := h
    obtain ⟨q, off, rfl, hlt, hcs⟩ := hr (by simp)
    obtain ⟨m, rfl⟩ : ∃ m, n = m + 1 := ⟨t.length, by simpa using hn⟩
    have hmt : m = t.length := by simpa using hn
    have c0 : W.cell? ⟨bw, 0, none⟩ = some (.slice (some ⟨q, off, none⟩) (m + 1) c) := by simp [World.cell?, hbox]
    have f0 : W.frozen? ⟨bw, 0, none⟩ = false := by simp [World.frozen?, hbox]
    have hm : c ≤ maxLen := by omega
    have HBox := Lib.hid hbox
    have HR := Lib.hid hr
    have HT := Lib.hid hmt
    unfold maxLen at hm
    clear hbox hr hcs hn hmt hB e
    by_cases hc : c = 1
    · subst hc
      obtain rfl : m = 0 := by omega
      go_enter Tryd.func76, Tryd.ntmps76
      go_wp2_with (go_at_call 75; refine hN.out.mono ?_; rintro e w' ⟨rfl, rfl⟩)
      go_ret
      refine ⟨rfl, RInv.turn hb HBox.out (fun hp => ?_) HT.out (by omega) (by unfold maxLen; omega)⟩
      have := HT.out
      simp at hp
      omega
    · go_enter Tryd.func76, Tryd.ntmps76
      go_wp2_with (go_at_call 75; refine hN.out.mono ?_; rintro e w' ⟨rfl, rfl⟩)
      go_ret
      exact ⟨rfl, RInv.turn hb HBox.out HR.out.drop1 HT.out (by omega) (by unfold maxLen; omega)⟩
theorem reader_open (base bw : Nat) (s : List It) (id : Int) (W : World) (h : RInv base bw s W) :
    Calls Tryd.prog 44 #[.pointer (some ⟨bw, 0, none⟩), .int .i64 id] W fun e w' => e = .returned (.bool (skipS 3 id s).1) ∧ RInv base bw (skipS 3 id s).2 w' ∧ Keep base W w' ∧ TrK W w' := by
  have HN := Lib.hid (reader_skip base bw s 3 id W h)
  clear h
  go_enter Tryd.func44, Tryd.ntmps44
  go_wp2_with (go_at_call 76; refine HN.out.mono ?_; rintro e w1 ⟨rfl, hn⟩; have HX := Lib.hid hn; clear hn)
  go_ret
  exact ⟨rfl, HX.out⟩
theorem reader_end (base bw : Nat) (s : List It) (W : World) (h : RInv base bw s W) :
    Calls Tryd.prog 45 #[.pointer (some ⟨bw, 0, none⟩)] W fun e w' => e = .returned (.bool (skipS 4 0 s).1) ∧ RInv base bw (skipS 4 0 s).2 w' ∧ Keep base W w' ∧ TrK W w' := by
  have HN := Lib.hid (reader_skip base bw s 4 0 W h)
  clear h
  go_enter Tryd.func45, Tryd.ntmps45
  go_wp2_with (go_at_call 76; refine HN.out.mono ?_; rintro e w1 ⟨rfl, hn⟩; have HX := Lib.hid hn; clear hn)
  go_ret
  exact ⟨rfl, HX.out⟩
theorem reader_number (base bw : Nat) (s : List It) (id n : Int) (B off : Nat) (W : World) (h : RInv base bw s W) (ha : At base W B off [.int .i64 n]) :
    Calls Tryd.prog 43 #[.pointer (some ⟨bw, 0, none⟩), .int .i64 id, .pointer (some ⟨B, off, none⟩)] W fun e w' => e = .returned (.bool (rMac.num s id n).1) ∧ RInv base bw (rMac.num s id n).2.2 w' ∧ Chg base B off (off + 1) W w' ∧ At base w' B off [.int .i64 (rMac.num s id n).2.1] ∧ TrK W w' := by
  rcases hB : nextB 1 id s with _ | _
  · have hN := Lib.hid (reader_next base bw s 1 id _ hB W h)
    have H := Lib.hid h
    have HA := Lib.hid ha
    have e : rMac.num s id n = (false, n, s) := by simp [rMac, hB]
    rw [e]
    clear h hB e ha
    go_enter Tryd.func43, Tryd.ntmps43
    go_wp2_with (go_at_call 75; refine hN.out.mono ?_; rintro e w' ⟨rfl, rfl⟩)
    go_ret
    exact ⟨rfl, H.out, (Keep.refl _ _).chg _ _ _, HA.out, fun _ _ _ hk => hk⟩
  · have hN := Lib.hid (reader_next base bw s 1 id _ hB W h)
    obtain ⟨x, t, rfl⟩ := next_cons hB
    have e : rMac.num (x :: t) id n = (true, x.n, t) := by simp [rMac, hB]
    rw [e]
    obtain ⟨hb, A, k, c, hbox, hr, hn, hc1, hc2⟩ := h
    obtain ⟨q, o, rfl, hlt, hcs⟩ := hr (by simp)
    obtain ⟨_, _, x2, _⟩ := hcs 0 x rfl
    simp only [Nat.zero_mul, Nat.add_zero] at x2
    obtain ⟨m, rfl⟩ : ∃ m, k = m + 1 := ⟨t.length, by simpa using hn⟩
    have hmt : m = t.length := by simpa using hn
    have c0 : W.cell? ⟨bw, 0, none⟩ = some (.slice (some ⟨q, o, none⟩) (m + 1) c) := by simp [World.cell?, hbox]
    have f0 : W.frozen? ⟨bw, 0, none⟩ = false := by simp [World.frozen?, hbox]
    have hm : c ≤ maxLen := by omega
    have a0 := ha.cell0 rfl
    have af := ha.frozen off
    have ha' := ha
    obtain ⟨hBb, csB, tB, hBB, hkB, _⟩ := ha'
    have hne : B ≠ bw := fun e => by
      subst e
      rw [hbox] at hBB
      injection hBB with hBB
      injection hBB with _ h2
      subst h2
      exact absurd hkB (by decide)
    have hne' : bw ≠ B := fun e => hne e.symm
    have hW1 : (W.setCell ⟨B, off, none⟩ (.int .i64 x.n)).heap[bw]? = some (.cells #[.slice (some ⟨q, o, none⟩) (m + 1) c] 78 (0, 0)) := by rw [Below.heap_setCell _ _ _ _ hne']; exact hbox
    have hBel : Below base W (W.setCell ⟨B, off, none⟩ (.int .i64 x.n)) := (Below.refl _ _).setCell (p := ⟨B, off, none⟩) hBb _
    have hC : Chg base B off (off + 1) W (W.setCell ⟨B, off, none⟩ (.int .i64 x.n)) := ((Keep.refl base W).chg B off (off + 1)).set hBb (Nat.le_refl _) (Nat.lt_succ_self _) _
    have hA1 : At base (W.setCell ⟨B, off, none⟩ (.int .i64 x.n)) B off [.int .i64 x.n] := ha.set 0 (by simp) _
    have hTr : TrK W (W.setCell ⟨B, off, none⟩ (.int .i64 x.n)) := fun k cs z hk => by
      rw [Below.heap_setCell _ _ _ _ (fun e => ?_)]
      · exact hk
      · simp only at e
        subst e
        rw [hBB] at hk
        injection hk with hk
        injection hk with _ h2
        subst h2
        exact absurd hkB (by decide)
    have HBox := Lib.hid hW1
    have HR := Lib.hid (hr.below hBel)
    have HT := Lib.hid hmt
    have HC := Lib.hid hC
    have HA1 := Lib.hid hA1
    have HTr := Lib.hid hTr
    unfold maxLen at hm
    clear hbox hr hcs hn hmt hB e ha hBB hW1 hBel hC hA1 hTr
    by_cases hc : c = 1
    · subst hc
      obtain rfl : m = 0 := by omega
      go_enter Tryd.func43, Tryd.ntmps43
      go_wp2_with (go_at_call 75; refine hN.out.mono ?_; rintro e w' ⟨rfl, rfl⟩)
      go_ret
      obtain ⟨t1, t2, t3⟩ := RInv.turn (s' := t) (A' := some ⟨q, o, none⟩) (n' := 0) (c' := 0) hb HBox.out (fun hp => by have := HT.out; omega) HT.out (by omega) (by unfold maxLen; omega)
      exact ⟨rfl, t1, HC.out.trans (t2.chg _ _ _), HA1.out.keep t2, fun k cs z hk => t3 k cs z (HTr.out k cs z hk)⟩
    · go_enter Tryd.func43, Tryd.ntmps43
      go_wp2_with (go_at_call 75; refine hN.out.mono ?_; rintro e w' ⟨rfl, rfl⟩)
      go_ret
      obtain ⟨t1, t2, t3⟩ := RInv.turn (s' := t) (A' := some ⟨q, o + 4, none⟩) (n' := m) (c' := c - 1) hb HBox.out HR.out.drop1 HT.out (by omega) (by unfold maxLen; omega)
      exact ⟨rfl, t1, HC.out.trans (t2.chg _ _ _), HA1.out.keep t2, fun k cs z hk => t3 k cs z (HTr.out k cs z hk)⟩
/-- The reader's traversal, from block n on. -/
def rEnv (n : Nat) : Env (List It) := { M := rMac, g1 := 43, g2 := 44, g3 := 45, g4 := 46, bt := n + 1 + 1, bw := n + 1, base := n, inv := RInv n (n + 1), len := fun _ => 0 }
theorem rEnv_ok (n : Nat) : (rEnv n).Ok where
  e1 := enters_of Tryd.func43 (by kernel_rfl) rfl
  e2 := enters_of Tryd.func44 (by kernel_rfl) rfl
  e3 := enters_of Tryd.func45 (by kernel_rfl) rfl
  e4 := enters_of Tryd.func46 (by kernel_rfl) rfl
  le := by show n ≤ n + 1 + 1; omega
  lnum := fun s id k => Nat.zero_le _
  lopn := fun s id => Nat.zero_le _
  lfin := fun s => Nat.zero_le _
  calm := fun s W W' h k => RInv.calm h k
  num := fun s id k B off W h hl ha => reader_number n (n + 1) s id k B off W h ha
  opn := fun s id W h hl => reader_open n (n + 1) s id W h
  fin := fun s W h hl => reader_end n (n + 1) s W h
  more := fun s id is W h => by
    refine (reader_more n (n + 1) s id is W h).mono ?_
    rintro e w' ⟨h1, rfl⟩
    exact ⟨h1, h, Keep.refl _ _, fun _ _ _ hk => hk⟩
end Go.Proofs.YtgngcpbkopjjlaaDoor

/-
  WHAT THE READER READS: its fields are what was read, and it may be: plain mathematics.
-/
namespace Go.Proofs.YtgngcpbkopjjlaaDoor
set_option linter.unusedVariables false

/-- From one state of the reader to another these items were read, and whether they may be. -/
def Snd (t t' : List It × Bool) (l : List It) (r : Bool) : Prop := (∀ x ∈ t'.1, x ∈ t.1) ∧ ((∀ x ∈ t.1, shapeB x = true) → t'.2 = false → t.2 = false ∧ r = true ∧ t.1 = l ++ t'.1)
theorem Snd.nil (t : List It × Bool) : Snd t t [] true := ⟨fun _ h => h, fun _ h => ⟨h, rfl, rfl⟩⟩
theorem Snd.comp {t t' t'' : List It × Bool} {l m : List It} {r q : Bool} (h : Snd t t' l r) (k : Snd t' t'' m q) : Snd t t'' (l ++ m) (r && q) := by
  refine ⟨fun x hx => h.1 x (k.1 x hx), fun hs hw => ?_⟩
  obtain ⟨k1, k2, k3⟩ := k.2 (fun x hx => hs x (h.1 x hx)) hw
  obtain ⟨h1, h2, h3⟩ := h.2 hs k1
  exact ⟨h1, by rw [h2, k2]; rfl, by rw [h3, k3, List.append_assoc]⟩
theorem Snd.conv {t t' : List It × Bool} {l m : List It} {r q : Bool} (h : Snd t t' l r) (hl : l = m) (hr : r = q) : Snd t t' m q := hl ▸ hr ▸ h
theorem bs_nil {l : List Int} (h : l.length = 0) : l = [] := List.eq_nil_of_length_eq_zero h
theorem next_int {id : Int} {s : List It} (hs : ∀ x ∈ s, shapeB x = true) (h : nextB 1 id s = true) : s = intI id (s.headD ⟨0, 0, 0, []⟩).n :: s.drop 1 := by
  cases s with
  | nil => simp [nextB] at h
  | cons x s =>
    simp [nextB] at h
    rcases shape_kinds (hs x (by simp)) with ⟨k, _, _, hb⟩ | ⟨k, _⟩ | ⟨k, _⟩ | ⟨k, _⟩
    · obtain ⟨a, b, c, d⟩ := x
      simp only at h k hb
      have hb := bs_nil hb
      simp [intI, h.1, h.2, hb]
    all_goals omega
theorem next_open {id : Int} {s : List It} (hs : ∀ x ∈ s, shapeB x = true) (h : nextB 3 id s = true) : s = ⟨3, id, 0, []⟩ :: s.drop 1 := by
  cases s with
  | nil => simp [nextB] at h
  | cons x s =>
    simp [nextB] at h
    rcases shape_kinds (hs x (by simp)) with ⟨k, _⟩ | ⟨k, _⟩ | ⟨k, _, _, hn, hb⟩ | ⟨k, _⟩
    · omega
    · omega
    · obtain ⟨a, b, c, d⟩ := x
      simp only at h k hb hn
      have hb := bs_nil hb
      simp [h.1, h.2, hb, hn]
    · omega
theorem next_end {s : List It} (hs : ∀ x ∈ s, shapeB x = true) (h : nextB 4 0 s = true) : s = ⟨4, 0, 0, []⟩ :: s.drop 1 := by
  cases s with
  | nil => simp [nextB] at h
  | cons x s =>
    simp [nextB] at h
    rcases shape_kinds (hs x (by simp)) with ⟨k, _⟩ | ⟨k, _⟩ | ⟨k, _⟩ | ⟨k, _, hn, hb⟩
    · omega
    · omega
    · omega
    · obtain ⟨a, b, c, d⟩ := x
      simp only at h k hb hn
      have hb := bs_nil hb
      simp [h.1, h.2, hb, hn]
theorem snd_btw (id lo hi m : Int) (t : List It × Bool) : Snd t (btw rMac id lo hi m t).2 [intI id (btw rMac id lo hi m t).1] (rgB lo hi (btw rMac id lo hi m t).1) := by
  obtain ⟨s, w⟩ := t
  refine ⟨fun x hx => ?_, fun hs h => ?_⟩
  · simp only [btw, mustS, rMac] at hx
    split at hx
    · exact List.mem_of_mem_drop hx
    · exact hx
  · simp only [btw, mustS, rMac] at h ⊢
    simp only [Bool.or_eq_false_iff, Bool.not_eq_false'] at h
    obtain ⟨⟨hw, hn⟩, hr⟩ := h
    simp only [hn, if_true] at hr ⊢
    exact ⟨hw, hr, next_int hs hn⟩
theorem snd_flag (id hi : Int) (hh : hi ≤ 1) (c : Bool) (t : List It × Bool) : Snd t (flagM rMac id hi c t).2 [intI id (bitI (flagM rMac id hi c t).1)] (rgB 0 hi (bitI (flagM rMac id hi c t).1)) := by
  have h0 := snd_btw id 0 hi (bitI c) t
  refine ⟨h0.1, fun hs h => ?_⟩
  obtain ⟨h1, h2, h3⟩ := h0.2 hs h
  have h2' := h2
  simp only [rgB, decide_eq_true_eq] at h2'
  have e : bitI (flagM rMac id hi c t).1 = (btw rMac id 0 hi (bitI c) t).1 := by
    show bitI (decide ((btw rMac id 0 hi (bitI c) t).1 = 1)) = _
    by_cases h1 : (btw rMac id 0 hi (bitI c) t).1 = 1
    · rw [decide_eq_true h1, h1]; rfl
    · rw [decide_eq_false h1]
      show (0 : Int) = _
      omega
  rw [e]
  exact ⟨h1, h2, h3⟩
theorem snd_open (id : Int) (t : List It × Bool) : Snd t (openM rMac id t) [⟨3, id, 0, []⟩] true := by
  obtain ⟨s, w⟩ := t
  refine ⟨fun x hx => ?_, fun hs h => ?_⟩
  · simp only [openM, mustS, rMac, skipS] at hx
    split at hx
    · exact List.mem_of_mem_drop hx
    · exact hx
  · simp only [openM, mustS, rMac, skipS] at h ⊢
    simp only [Bool.or_eq_false_iff, Bool.not_eq_false'] at h
    simp only [h.2, if_true]
    exact ⟨h.1, trivial, next_open hs h.2⟩
theorem snd_fin (t : List It × Bool) : Snd t (finM rMac t) [⟨4, 0, 0, []⟩] true := by
  obtain ⟨s, w⟩ := t
  refine ⟨fun x hx => ?_, fun hs h => ?_⟩
  · simp only [finM, mustS, rMac, skipS] at hx
    split at hx
    · exact List.mem_of_mem_drop hx
    · exact hx
  · simp only [finM, mustS, rMac, skipS] at h ⊢
    simp only [Bool.or_eq_false_iff, Bool.not_eq_false'] at h
    simp only [h.2, if_true]
    exact ⟨h.1, trivial, next_end hs h.2⟩
theorem snd_in {α : Type} {f : List It × Bool → α × (List It × Bool)} {fi : α → List It} {fr : α → Bool} (hf : ∀ t, Snd t (f t).2 (fi (f t).1) (fr (f t).1)) (id : Int) (t : List It × Bool) : Snd t (inM rMac id f t).2 (opI id (fi (inM rMac id f t).1)) (fr (inM rMac id f t).1) :=
  (((snd_open id t).comp (hf (openM rMac id t))).comp (snd_fin (f (openM rMac id t)).2)).conv (by simp [opI, inM]) (by simp [inM])
theorem snd_id (z : IdT) (t : List It × Bool) : Snd t (idM rMac z t).2 (idI (idM rMac z t).1) (idR (idM rMac z t).1) :=
  ((((snd_btw 1 1 2 z.dir t).comp (snd_btw 2 1 1000 z.orig _)).comp (snd_btw 3 1 4 z.kind _)).comp (snd_btw 4 0 65535 z.nr _))
theorem snd_head (z : HeadT) (t : List It × Bool) : Snd t (headM rMac z t).2 (headI (headM rMac z t).1) (headR (headM rMac z t).1) :=
  (((snd_in (snd_id z.id) 1 t).comp (snd_btw 2 0 1099511627776 z.seq _)).comp (snd_btw 3 0 604800 z.life _)).conv (by simp [headI, headM]) rfl
theorem snd_edge (z : EdgeT) (t : List It × Bool) : Snd t (edgeM rMac z t).2 (edgeI (edgeM rMac z t).1) (edgeR (edgeM rMac z t).1) :=
  (((snd_btw 1 1 1000 z.node t).comp (snd_btw 2 0 24 z.level _)).comp (snd_btw 3 1 1048576 z.cost _))
theorem snd_lie (z : LieT) (t : List It × Bool) : Snd t (lieM rMac z t).2 (lieI (lieM rMac z t).1) (lieR (lieM rMac z t).1) := by
  have h := (((((((((((snd_btw 1 1 1000 z.node t).comp (snd_btw 2 (-1) 24 z.level _)).comp (snd_btw 3 0 65535 z.pod _)).comp (snd_btw 4 0 65535 z.mtu _)).comp (snd_btw 5 0 65535 z.link _)).comp (snd_btw 6 0 65535 z.nonce _)).comp (snd_btw 7 0 1000 z.seen _)).comp (snd_btw 8 0 65535 z.seenLink _)).comp (snd_btw 9 0 65535 z.seenNonce _)).comp (snd_btw 10 0 65535 z.hold _)).comp (snd_flag 11 1 (by decide) z.rep _)).comp (snd_flag 12 1 (by decide) z.noOffer _)
  refine h.conv rfl ?_
  rw [bit_range, bit_range, Bool.and_true, Bool.and_true]
  rfl
theorem snd_must (b : Bool) (t : List It × Bool) : Snd t (mustS b t) [] b := by
  refine ⟨fun x hx => hx, fun hs h => ?_⟩
  simp only [mustS, Bool.or_eq_false_iff, Bool.not_eq_false'] at h
  exact ⟨h.1, h.2, rfl⟩
theorem snd_reach (z : ReachT) (t : List It × Bool) : Snd t (reachM rMac z t).2 (reachI (reachM rMac z t).1) (reachR (reachM rMac z t).1) := by
  have h := (((snd_btw 1 0 4294967295 z.net t).comp (snd_btw 2 0 32 z.bits _)).comp (snd_must (shlB ((btw rMac 1 0 4294967295 z.net t).1 % 4294967296) (btw rMac 2 0 32 z.bits (btw rMac 1 0 4294967295 z.net t).2).1) _)).comp (snd_btw 3 0 1048576 z.metric _)
  refine ⟨h.1, fun hs hw => ?_⟩
  obtain ⟨h1, h2, h3⟩ := h.2 hs hw
  have hn : (btw rMac 1 0 4294967295 z.net t).1 % 4294967296 = (btw rMac 1 0 4294967295 z.net t).1 := by
    have h4 := h2
    simp only [Bool.and_eq_true, rgB, decide_eq_true_eq] at h4
    omega
  have e1 : (reachM rMac z t).1.net = (btw rMac 1 0 4294967295 z.net t).1 := hn
  refine ⟨h1, ?_, ?_⟩
  · unfold reachR
    rw [e1]
    rw [hn] at h2
    exact h2
  · unfold reachI
    rw [e1]
    exact h3
/-- A list that was read. -/
theorem snd_each {E : Type} {f : E → List It × Bool → E × (List It × Bool)} {fi : E → List It} {fr : E → Bool} {z : E} (hf : ∀ t, Snd t (f z t).2 (fi (f z t).1) (fr (f z t).1)) (id : Int) : ∀ (n : Nat) (gone : List E) (t : List It × Bool),
    ∃ new, (eachM rMac id f z [] n gone t).1 = gone ++ new ∧ new.length ≤ n ∧ Snd t (eachM rMac id f z [] n gone t).2 (new.flatMap fun x => opI id (fi x)) (new.all fr) := by
  intro n
  induction n with
  | zero =>
    intro gone t
    refine ⟨[], by simp [eachM], Nat.le_refl _, ?_⟩
    rw [eachM]
    split
    · exact ⟨fun x hx => hx, fun hs h => by simp [mustS] at h⟩
    · exact Snd.nil t
  | succ n ih =>
    intro gone t
    rw [eachM]
    split
    · have hz : ([] : List E)[gone.length]?.getD z = z := by simp
      rw [hz]
      obtain ⟨new, h1, h2, h3⟩ := ih (gone ++ [(inM rMac id (f z) t).1]) (inM rMac id (f z) t).2
      refine ⟨(inM rMac id (f z) t).1 :: new, by rw [h1]; simp, by simp; omega, ?_⟩
      exact (snd_in hf id t).comp h3
    · exact ⟨[], by simp, by simp, Snd.nil t⟩
theorem snd_all {E : Type} {f : E → List It × Bool → E × (List It × Bool)} {fi : E → List It} {fr : E → Bool} {z : E} (hf : ∀ t, Snd t (f z t).2 (fi (f z t).1) (fr (f z t).1)) (id : Int) (n : Nat) (t : List It × Bool) :
    (eachM rMac id f z [] n [] t).1.length ≤ n ∧ Snd t (eachM rMac id f z [] n [] t).2 ((eachM rMac id f z [] n [] t).1.flatMap fun x => opI id (fi x)) ((eachM rMac id f z [] n [] t).1.all fr) := by
  obtain ⟨new, h1, h2, h3⟩ := snd_each hf id n [] t
  rw [List.nil_append] at h1
  rw [h1]
  exact ⟨h2, h3⟩
theorem snd_tie (t : List It × Bool) : Snd t (tieM rMac TieT.zero t).2 (tieI (tieM rMac TieT.zero t).1) (tieR (tieM rMac TieT.zero t).1) := by
  obtain ⟨a, ha⟩ : ∃ a, inM rMac 1 (headM rMac HeadT.zero) t = a := ⟨_, rfl⟩
  have h1 := snd_in (snd_head HeadT.zero) 1 t
  rw [ha] at h1
  obtain ⟨k, hk⟩ : ∃ k : Bool, decide (a.1.id.kind = 1) = k := ⟨_, rfl⟩
  obtain ⟨lv, hlv⟩ : ∃ lv : Int, (if a.1.id.kind = 1 then (24 : Int) else 0) = lv := ⟨_, rfl⟩
  obtain ⟨ov, hov⟩ : ∃ ov : Int, (if a.1.id.kind = 1 then (1 : Int) else 0) = ov := ⟨_, rfl⟩
  obtain ⟨n1, hn1⟩ : ∃ n : Nat, (if a.1.id.kind = 1 then (64 : Nat) else 0) = n := ⟨_, rfl⟩
  obtain ⟨n2, hn2⟩ : ∃ n : Nat, (if a.1.id.kind = 1 then (0 : Nat) else 64) = n := ⟨_, rfl⟩
  have hov1 : ov ≤ 1 := by rw [← hov]; split <;> decide
  have e : tieM rMac TieT.zero t = tieN rMac lv ov n1 n2 TieT.zero t := by
    unfold tieM tieN
    rw [show TieT.zero.head = HeadT.zero from rfl, ha]
    simp only [hlv, hov, hn1, hn2]
  rw [e]
  unfold tieN
  rw [show TieT.zero.head = HeadT.zero from rfl, ha, show TieT.zero.edges = [] from rfl, show TieT.zero.reaches = [] from rfl]
  have h2 := h1.comp (snd_btw 2 0 lv TieT.zero.level a.2)
  have h3 := h2.comp (snd_flag 3 ov hov1 TieT.zero.over _)
  obtain ⟨l4, h4'⟩ := snd_all (fun t => snd_edge EdgeT.zero t) 4 n1 (flagM rMac 3 ov TieT.zero.over (btw rMac 2 0 lv TieT.zero.level a.2).2).2
  have h4 := h3.comp h4'
  obtain ⟨l5, h5'⟩ := snd_all (fun t => snd_reach ReachT.zero t) 5 n2 (eachM rMac 4 (edgeM rMac) EdgeT.zero [] n1 [] (flagM rMac 3 ov TieT.zero.over (btw rMac 2 0 lv TieT.zero.level a.2).2).2).2
  have h5 := h4.comp h5'
  refine h5.conv ?_ ?_
  · simp only [tieI, List.append_assoc]
    rfl
  · simp only [tieR, hlv, hov, hn1, hn2]
    rw [decide_eq_true l4, decide_eq_true l5, Bool.and_true, Bool.and_true]
    simp only [Bool.and_assoc]
theorem snd_pack (t : List It × Bool) : (packM rMac PackT.zero t).2.2 = false → (∀ x ∈ t.1, shapeB x = true) →
    t.1 = packI (packM rMac PackT.zero t).1 ++ (packM rMac PackT.zero t).2.1 ∧ rightW (packM rMac PackT.zero t).1 = true := by
  obtain ⟨a, ha⟩ : ∃ a, btw rMac 1 1 4 PackT.zero.kind t = a := ⟨_, rfl⟩
  have h0 := snd_btw 1 1 4 PackT.zero.kind t
  rw [ha] at h0
  unfold packM
  rw [ha]
  by_cases h1 : a.1 = 1
  · simp only [if_pos h1]
    intro hw hs
    have h := h0.comp (snd_in (snd_lie PackT.zero.lie) 2 a.2)
    obtain ⟨_, h2, h3⟩ := h.2 hs hw
    rw [Bool.and_eq_true] at h2
    refine ⟨by rw [h3]; simp only [packI, h1, if_true]; simp, ?_⟩
    unfold rightW packR unusedB
    simp only [h1, if_true]
    rw [h2.2]
    rfl
  by_cases h2 : a.1 = 2
  · simp only [if_neg h1, if_pos h2]
    intro hw hs
    have h := h0.comp (snd_in (fun t => snd_tie t) 3 a.2)
    obtain ⟨_, g2, h3⟩ := h.2 hs hw
    rw [Bool.and_eq_true] at g2
    refine ⟨by rw [h3]; simp only [packI, h2, if_true]; simp; rfl, ?_⟩
    unfold rightW packR unusedB
    simp only [h2, if_true]
    rw [show PackT.zero.tie = TieT.zero from rfl, g2.2]
    rfl
  by_cases h3 : a.1 = 3
  · simp only [if_neg h1, if_neg h2, if_pos h3]
    intro hw hs
    rw [show PackT.zero.heads = [] from rfl] at hw ⊢
    obtain ⟨l6, h6'⟩ := snd_all (fun t => snd_head HeadT.zero t) 6 64 (inM rMac 5 (idM rMac PackT.zero.to) (inM rMac 4 (idM rMac PackT.zero.frm) a.2).2).2
    have h := ((h0.comp (snd_in (snd_id PackT.zero.frm) 4 a.2)).comp (snd_in (snd_id PackT.zero.to) 5 _)).comp h6'
    obtain ⟨_, g2, g3⟩ := h.2 hs hw
    simp only [Bool.and_eq_true] at g2
    refine ⟨by rw [g3]; simp only [packI, h3, if_true]; simp, ?_⟩
    unfold rightW packR unusedB headsR
    simp only [h3, if_true]
    rw [g2.1.1.2, g2.1.2, g2.2, decide_eq_true l6]
    rfl
  by_cases h4 : a.1 = 4
  · simp only [if_neg h1, if_neg h2, if_neg h3, if_pos h4]
    intro hw hs
    rw [show PackT.zero.heads = [] from rfl] at hw ⊢
    obtain ⟨l6, h6'⟩ := snd_all (fun t => snd_head HeadT.zero t) 6 64 a.2
    have h := h0.comp h6'
    obtain ⟨_, g2, g3⟩ := h.2 hs hw
    simp only [Bool.and_eq_true] at g2
    refine ⟨by rw [g3]; simp only [packI, h4, if_true]; simp, ?_⟩
    unfold rightW packR unusedB headsR
    simp only [h4, if_true]
    rw [g2.2, decide_eq_true l6]
    rfl
  · simp only [if_neg h1, if_neg h2, if_neg h3, if_neg h4]
    intro hw hs
    obtain ⟨_, g2, _⟩ := h0.2 hs hw
    unfold rgB at g2
    have := of_decide_eq_true g2
    omega
end Go.Proofs.YtgngcpbkopjjlaaDoor

/-
  READ: the packet that has these fields, and whether there is one.
-/
namespace Go.Proofs.YtgngcpbkopjjlaaDoor
open Go.RowKit Go.Shelf
set_option linter.unusedVariables false

/-- What is read of some fields. -/
def readS (k : List It) : PackT × Bool := ((packM rMac PackT.zero (k, false)).1, !(packM rMac PackT.zero (k, false)).2.2 && decide ((packM rMac PackT.zero (k, false)).2.1.length = 0))
theorem read_back {p : PackT} (hp : ∀ r ∈ p.tie.reaches, r.ok) (hr : rightW p = true) : readS (packI p) = (p, true) := by
  unfold readS
  rw [rdb_pack hp hr]
  rfl
theorem read_sound {k : List It} (hk : ∀ x ∈ k, shapeB x = true) (h : (readS k).2 = true) : k = packI (readS k).1 ∧ rightW (readS k).1 = true := by
  simp only [readS, Bool.and_eq_true, Bool.not_eq_true', decide_eq_true_eq] at h
  obtain ⟨h1, h2⟩ := snd_pack (k, false) h.1 hk
  rw [List.eq_nil_of_length_eq_zero h.2, List.append_nil] at h1
  exact ⟨h1, h2⟩
theorem each_len {E : Type} {f : E → List It × Bool → E × (List It × Bool)} {z : E} {Q : E → Prop} (hf : ∀ t, Q (f z t).1) (id : Int) : ∀ (n : Nat) (gone : List E) (t : List It × Bool), (∀ x ∈ gone, Q x) →
    (eachM rMac id f z [] n gone t).1.length ≤ gone.length + n ∧ ∀ x ∈ (eachM rMac id f z [] n gone t).1, Q x := by
  intro n
  induction n with
  | zero => intro gone t h; exact ⟨by simp [eachM], by simpa [eachM] using h⟩
  | succ n ih =>
    intro gone t h
    rw [eachM]
    split
    · have hz : ([] : List E)[gone.length]?.getD z = z := by simp
      rw [hz]
      obtain ⟨h1, h2⟩ := ih (gone ++ [(inM rMac id (f z) t).1]) (inM rMac id (f z) t).2 (fun x hx => by
        rcases List.mem_append.1 hx with hx | hx
        · exact h x hx
        · simp at hx
          subst hx
          exact hf _)
      refine ⟨?_, h2⟩
      rw [List.length_append] at h1
      simp only [List.length_cons, List.length_nil] at h1
      omega
    · exact ⟨Nat.le_add_right _ _, h⟩
theorem reach_ok (t : List It × Bool) : (reachM rMac ReachT.zero t).1.ok := by
  unfold reachM ReachT.ok
  simp only
  omega
/-- The lists of what is read are short, and their nets are of 32 bits. -/
def ShortP (p : PackT) : Prop := p.tie.edges.length ≤ 64 ∧ p.tie.reaches.length ≤ 64 ∧ p.heads.length ≤ 64 ∧ ∀ y ∈ p.tie.reaches, y.ok
theorem short_tie (t : List It × Bool) : (tieM rMac TieT.zero t).1.edges.length ≤ 64 ∧ (tieM rMac TieT.zero t).1.reaches.length ≤ 64 ∧ ∀ y ∈ (tieM rMac TieT.zero t).1.reaches, y.ok := by
  unfold tieM
  simp only
  rw [show TieT.zero.edges = [] from rfl, show TieT.zero.reaches = [] from rfl]
  refine ⟨?_, ?_, ?_⟩
  · refine Nat.le_trans (each_len (Q := fun _ => True) (fun _ => trivial) 4 _ [] _ (by simp)).1 ?_
    simp only [List.length_nil]
    split <;> omega
  · refine Nat.le_trans (each_len (Q := fun _ => True) (fun _ => trivial) 5 _ [] _ (by simp)).1 ?_
    simp only [List.length_nil]
    split <;> omega
  · exact (each_len (Q := ReachT.ok) reach_ok 5 _ [] _ (by simp)).2
theorem short_read (k : List It) : ShortP (readS k).1 := by
  unfold readS ShortP
  simp only
  unfold packM
  simp only
  have hh : ∀ t, (eachM rMac 6 (headM rMac) HeadT.zero [] 64 [] t).1.length ≤ 64 := fun t => by
    have := (each_len (f := headM rMac) (z := HeadT.zero) (Q := fun _ => True) (fun _ => trivial) 6 64 [] t (by simp)).1
    simpa using this
  have z1 : PackT.zero.tie.edges.length ≤ 64 := by decide
  have z2 : PackT.zero.tie.reaches.length ≤ 64 := by decide
  have z3 : PackT.zero.heads.length ≤ 64 := by decide
  have z4 : ∀ y ∈ PackT.zero.tie.reaches, y.ok := fun y hy => by simp [PackT.zero, TieT.zero] at hy
  split
  · exact ⟨z1, z2, z3, z4⟩
  split
  · exact ⟨(short_tie _).1, (short_tie _).2.1, z3, (short_tie _).2.2⟩
  split
  · exact ⟨z1, z2, hh _, z4⟩
  split
  · exact ⟨z1, z2, hh _, z4⟩
  · exact ⟨z1, z2, z3, z4⟩

theorem results_cell2 {P : Program} {fn : Func} {tmps : Array Value} {w : World} {a t s b o : Nat} {cs : List Value} {d : TypeDesc} (hf : fn.results = #[.cell a t, .tmp s]) (ha : tmps.getD a undef = .pointer (some ⟨b, o, none⟩)) (hc : w.rangeAt b o cs)
    (hu : P.underlying t = some d) (hd : d.isRow = true) (hi : (P.info? t).map (·.size) = some cs.length) : (results fn tmps).run P w = .ok (.tuple #[.agg cs.toArray, tmps.getD s undef]) w := by
  unfold results
  rw [hf]
  have h0 := run_loadVar_mid w b o t cs d hc hu hd hi
  have ha' : tmps[a]?.getD undef = .pointer (some ⟨b, o, none⟩) := by simpa using ha
  simp [ha', asAddr, h0, Result.andThen_ok]
theorem takeG {P : Program} {ops : Array Oper} {Q : Exit → Act → World → Prop} {md : Region.Mode} {S : World → Prop} {i d : Nat} {oi : Oper} {v : Value} {fuel : Nat} {listed : Array Bool} {ts : Array Value} {df : List Deferred} {w : World} (hi : ops[i]? = some oi) (hd : oi.dst = some d)
    (hs : Region.noSelect ops = true) (hf : Region.free md ops listed i = true) (hr : (Region.ready md ops listed).contains i = true)
    (hQ : ∀ c a w, Q (.panic c) (a.put oi.dst v) w → Q (.panic c) a w) (hg : Region.wanted oi (yielded ops ts) = true) (hy : ∀ w, S w → (execOp (Act.eval { tmps := ts, defers := df }) oi).run P w = .ok (.value v) w) (hS : S w)
    (h : wpAnyH P md ops Q S fuel (listed.setIfInBounds i true) { tmps := ts.setIfInBounds d v, defers := df } w) : wpAnyH P md ops Q S (fuel + 1) listed { tmps := ts, defers := df } w := by
  refine wpAnyH_take hi hs hf hr hQ (.inl ⟨hg, hy⟩) hS ?_
  unfold Act.put
  rw [hd]
  exact h
theorem takeN {P : Program} {ops : Array Oper} {Q : Exit → Act → World → Prop} {md : Region.Mode} {S : World → Prop} {i d : Nat} {oi : Oper} {fuel : Nat} {listed : Array Bool} {ts : Array Value} {df : List Deferred} {w : World} (hi : ops[i]? = some oi) (hd : oi.dst = some d)
    (hs : Region.noSelect ops = true) (hf : Region.free md ops listed i = true) (hr : (Region.ready md ops listed).contains i = true)
    (hQ : ∀ c a w, Q (.panic c) (a.put oi.dst undef) w → Q (.panic c) a w) (hg : Region.wanted oi (yielded ops ts) = false) (hS : S w)
    (h : wpAnyH P md ops Q S fuel (listed.setIfInBounds i true) { tmps := ts.setIfInBounds d undef, defers := df } w) : wpAnyH P md ops Q S (fuel + 1) listed { tmps := ts, defers := df } w := by
  refine wpAnyH_take hi hs hf hr hQ (.inr ⟨hg, rfl⟩) hS ?_
  unfold Act.put
  rw [hd]
  exact h
theorem Far1.mono {n m : Nat} {v : Value} (h : Far1 n v) (hm : m ≤ n) : Far1 m v := fun b o k c e hk => Nat.le_trans hm (h b o k c e hk)
/-- A packet's lists lie in no block that is elder. -/
def FarS (n : Nat) (q : PackT) (Ae Ar Ah : Option Addr) (Ce Cr Ch : Nat) : Prop := Far1 n (.slice Ae q.tie.edges.length Ce) ∧ Far1 n (.slice Ar q.tie.reaches.length Cr) ∧ Far1 n (.slice Ah q.heads.length Ch)
theorem FarS.mono {n m : Nat} {q : PackT} {Ae Ar Ah : Option Addr} {Ce Cr Ch : Nat} (h : FarS n q Ae Ar Ah Ce Cr Ch) (hm : m ≤ n) : FarS m q Ae Ar Ah Ce Cr Ch := ⟨h.1.mono hm, h.2.1.mono hm, h.2.2.mono hm⟩
/-- A packet in memory of its own, and a verdict. -/
def RdOut (q : PackT) (b : Bool) (w : World) (e : Ending) (w' : World) : Prop :=
  ∃ (Ae Ar Ah : Option Addr) (Ce Cr Ch : Nat), e = .returned (.tuple #[.agg #[.int .i64 q.kind, .int .i64 q.lie.node, .int .i64 q.lie.level, .int .i64 q.lie.pod, .int .i64 q.lie.mtu, .int .i64 q.lie.link, .int .i64 q.lie.nonce, .int .i64 q.lie.seen, .int .i64 q.lie.seenLink, .int .i64 q.lie.seenNonce, .int .i64 q.lie.hold, .bool q.lie.rep, .bool q.lie.noOffer, .int .i64 q.tie.head.id.dir, .int .i64 q.tie.head.id.orig, .int .i64 q.tie.head.id.kind, .int .i64 q.tie.head.id.nr, .int .i64 q.tie.head.seq, .int .i64 q.tie.head.life, .int .i64 q.tie.level, .bool q.tie.over, .slice Ae q.tie.edges.length Ce, .slice Ar q.tie.reaches.length Cr, .int .i64 q.frm.dir, .int .i64 q.frm.orig, .int .i64 q.frm.kind, .int .i64 q.frm.nr, .int .i64 q.to.dir, .int .i64 q.to.orig, .int .i64 q.to.kind, .int .i64 q.to.nr, .slice Ah q.heads.length Ch], .bool b]) ∧ Pk w'.heap.size w' q Ae Ar Ah Ce Cr Ch ∧ FarS w.heap.size q Ae Ar Ah Ce Cr Ch ∧ Below w.heap.size w w'
theorem pk_sl {W : World} {q : PackT} {Ae Ar Ah : Option Addr} {Ce Cr Ch : Nat} (h1 : Sl 3 encEdge W.heap.size W (.slice Ae q.tie.edges.length Ce) q.tie.edges) (h2 : Sl 3 encReach W.heap.size W (.slice Ar q.tie.reaches.length Cr) q.tie.reaches) (h3 : Sl 6 encHead W.heap.size W (.slice Ah q.heads.length Ch) q.heads) (hs : ShortP q) :
    Pk W.heap.size W q Ae Ar Ah Ce Cr Ch := by
  obtain ⟨s1, s2, s3, s4⟩ := hs
  obtain ⟨_, _, e1, l1, m1, r1⟩ := h1
  obtain ⟨_, _, e2, l2, m2, r2⟩ := h2
  obtain ⟨_, _, e3, l3, m3, r3⟩ := h3
  injection e1 with a1 _ b1
  injection e2 with a2 _ b2
  injection e3 with a3 _ b3
  subst a1 b1 a2 b2 a3 b3
  exact ⟨r1, r2, r3, ⟨by omega, l1, m1⟩, ⟨by omega, l2, m2⟩, ⟨by omega, l3, m3⟩, s4⟩
theorem below_cells {B : Nat} {W W' : World} (h : Below B W W') {b : Nat} (hb : B ≤ b) : ∀ (vs : List Value) (o : Nat), Below B W (W'.setCells b o vs) := by
  intro vs
  induction vs generalizing W' with
  | nil => intro o; exact h
  | cons v r ih => intro o; exact ih (h.setCell (p := ⟨b, o, none⟩) hb v) (o + 1)
theorem size_cells (b : Nat) : ∀ (vs : List Value) (o : Nat) (w : World), (w.setCells b o vs).heap.size = w.heap.size := by
  intro vs
  induction vs with
  | nil => intro o w; rfl
  | cons v r ih => intro o w; rw [World.setCells, ih]; simp [World.setCell]
theorem RdR.apart {E : Type} {sz : Nat} {en : E → List Value} {n₀ : Nat} {W : World} {A : Option Addr} {l : List E} (h : RdR sz en n₀ W A l) (B o : Nat) (vs : List Value) (hb : ∀ b o, A = some ⟨b, o, none⟩ → 0 < l.length → b ≠ B) : RdR sz en n₀ (W.setCells B o vs) A l := fun hp => by
  obtain ⟨b, off, e, hlt, hc⟩ := h hp
  refine ⟨b, off, e, hlt, fun j x hx i v hv => ?_⟩
  rw [World.cell?_setCells_out B vs o W _ (fun h1 _ => absurd h1 (hb b off e hp))]
  exact hc j x hx i v hv
theorem Sl.apart {E : Type} {sz : Nat} {en : E → List Value} {n₀ : Nat} {W : World} {v : Value} {l : List E} (h : Sl sz en n₀ W v l) {n B : Nat} (hf : Far1 n v) (hB : B < n) (o : Nat) (vs : List Value) : Sl sz en n₀ (W.setCells B o vs) v l := by
  obtain ⟨A, c, rfl, h1, h2, hr⟩ := h
  refine ⟨A, c, rfl, h1, h2, hr.apart B o vs (fun b o' e hp => ?_)⟩
  subst e
  have := hf b o' _ _ rfl hp
  omega
theorem there_of {W : World} {b : Nat} {cs : Array Value} {t : TypeId} {n : Nat} (h : W.heap[b]? = some (.cells cs t (0, 0))) (hn : n ≤ cs.size) : W.there b 0 n := fun j hj => by
  refine ⟨?_, by simp [World.frozen?, h]⟩
  rw [cell_of_row W b _ cs t (0, 0) h, Nat.zero_add, Array.getElem?_eq_getElem (by omega)]
  rfl
theorem Pk.apart {n : Nat} {W : World} {q : PackT} {Ae Ar Ah : Option Addr} {Ce Cr Ch : Nat} (h : Pk n W q Ae Ar Ah Ce Cr Ch) {m B : Nat} (hf : FarS m q Ae Ar Ah Ce Cr Ch) (hB : B < m) (o : Nat) (vs : List Value) : Pk n (W.setCells B o vs) q Ae Ar Ah Ce Cr Ch :=
  ⟨h.re.apart B o vs (fun b o' e hp => by subst e; have := hf.1 b o' _ _ rfl hp; omega), h.rr.apart B o vs (fun b o' e hp => by subst e; have := hf.2.1 b o' _ _ rfl hp; omega), h.rh.apart B o vs (fun b o' e hp => by subst e; have := hf.2.2 b o' _ _ rfl hp; omega), h.le, h.lr, h.lh, h.ok⟩
attribute [local go_sem] run_store_fnv
set_option maxRecDepth 100000 in
set_option maxHeartbeats 8000000 in
theorem read_any (a : Option Addr) (n c : Nat) (k : List It) (hn : n = k.length) (hc : n ≤ c) (hm : c ≤ maxLen) (w : World) (hr : RdI w.heap.size w a k) :
    Calls Tryd.prog 23 #[.slice a n c] w (RdOut (readS k).1 (readS k).2 w) := by
  have hB0 := (Below.refl w.heap.size w).alloc (Nat.le_refl _) (.cells #[.int .i64 0, .int .i64 0, .int .i64 0, .int .i64 0, .int .i64 0, .int .i64 0, .int .i64 0, .int .i64 0, .int .i64 0, .int .i64 0, .int .i64 0, .bool false, .bool false, .int .i64 0, .int .i64 0, .int .i64 0, .int .i64 0, .int .i64 0, .int .i64 0, .int .i64 0, .bool false, .slice none 0 0, .slice none 0 0, .int .i64 0, .int .i64 0, .int .i64 0, .int .i64 0, .int .i64 0, .int .i64 0, .int .i64 0, .int .i64 0, .slice none 0 0] 36)
  have hB1 := hB0.alloc (by simp) (.cells #[.slice a n c] 78)
  have hB2 := hB1.alloc (by simp <;> omega) (.cells ((rEnv w.heap.size).cells false) 83)
  have hB3 := hB2.alloc (by simp <;> omega) (.cells #[.int .i64 0, .int .i64 0, .int .i64 0, .int .i64 0, .int .i64 0, .int .i64 0, .int .i64 0, .int .i64 0, .int .i64 0, .int .i64 0, .int .i64 0, .bool false, .bool false, .int .i64 0, .int .i64 0, .int .i64 0, .int .i64 0, .int .i64 0, .int .i64 0, .int .i64 0, .bool false, .slice none 0 0, .slice none 0 0, .int .i64 0, .int .i64 0, .int .i64 0, .int .i64 0, .int .i64 0, .int .i64 0, .int .i64 0, .int .i64 0, .slice none 0 0] 36)
  have A0 : At (rEnv w.heap.size).base ((((w.alloc (.cells #[.int .i64 0, .int .i64 0, .int .i64 0, .int .i64 0, .int .i64 0, .int .i64 0, .int .i64 0, .int .i64 0, .int .i64 0, .int .i64 0, .int .i64 0, .bool false, .bool false, .int .i64 0, .int .i64 0, .int .i64 0, .int .i64 0, .int .i64 0, .int .i64 0, .int .i64 0, .bool false, .slice none 0 0, .slice none 0 0, .int .i64 0, .int .i64 0, .int .i64 0, .int .i64 0, .int .i64 0, .int .i64 0, .int .i64 0, .int .i64 0, .slice none 0 0] 36)).alloc (.cells #[.slice a n c] 78)).alloc (.cells ((rEnv w.heap.size).cells false) 83)).alloc (.cells #[.int .i64 0, .int .i64 0, .int .i64 0, .int .i64 0, .int .i64 0, .int .i64 0, .int .i64 0, .int .i64 0, .int .i64 0, .int .i64 0, .int .i64 0, .bool false, .bool false, .int .i64 0, .int .i64 0, .int .i64 0, .int .i64 0, .int .i64 0, .int .i64 0, .int .i64 0, .bool false, .slice none 0 0, .slice none 0 0, .int .i64 0, .int .i64 0, .int .i64 0, .int .i64 0, .int .i64 0, .int .i64 0, .int .i64 0, .int .i64 0, .slice none 0 0] 36)) (w.heap.size + 1 + 1 + 1) 0 (encPack PackT.zero (.slice none 0 0) (.slice none 0 0) (.slice none 0 0)) := by
    refine ⟨by show w.heap.size ≤ _; omega, #[.int .i64 0, .int .i64 0, .int .i64 0, .int .i64 0, .int .i64 0, .int .i64 0, .int .i64 0, .int .i64 0, .int .i64 0, .int .i64 0, .int .i64 0, .bool false, .bool false, .int .i64 0, .int .i64 0, .int .i64 0, .int .i64 0, .int .i64 0, .int .i64 0, .int .i64 0, .bool false, .slice none 0 0, .slice none 0 0, .int .i64 0, .int .i64 0, .int .i64 0, .int .i64 0, .int .i64 0, .int .i64 0, .int .i64 0, .int .i64 0, .slice none 0 0], 36, ?_, rfl, fun i v hv => ?_⟩
    · have := World.alloc_heap_new (((w.alloc (.cells #[.int .i64 0, .int .i64 0, .int .i64 0, .int .i64 0, .int .i64 0, .int .i64 0, .int .i64 0, .int .i64 0, .int .i64 0, .int .i64 0, .int .i64 0, .bool false, .bool false, .int .i64 0, .int .i64 0, .int .i64 0, .int .i64 0, .int .i64 0, .int .i64 0, .int .i64 0, .bool false, .slice none 0 0, .slice none 0 0, .int .i64 0, .int .i64 0, .int .i64 0, .int .i64 0, .int .i64 0, .int .i64 0, .int .i64 0, .int .i64 0, .slice none 0 0] 36)).alloc (.cells #[.slice a n c] 78)).alloc (.cells ((rEnv w.heap.size).cells false) 83)) (.cells #[.int .i64 0, .int .i64 0, .int .i64 0, .int .i64 0, .int .i64 0, .int .i64 0, .int .i64 0, .int .i64 0, .int .i64 0, .int .i64 0, .int .i64 0, .bool false, .bool false, .int .i64 0, .int .i64 0, .int .i64 0, .int .i64 0, .int .i64 0, .int .i64 0, .int .i64 0, .bool false, .slice none 0 0, .slice none 0 0, .int .i64 0, .int .i64 0, .int .i64 0, .int .i64 0, .int .i64 0, .int .i64 0, .int .i64 0, .int .i64 0, .slice none 0 0] 36)
      simpa using this
    · rw [Nat.zero_add]
      show (encPack PackT.zero (.slice none 0 0) (.slice none 0 0) (.slice none 0 0)).toArray[i]? = some v
      simpa using hv
  have S0 : (rEnv w.heap.size).St (0 + 700) ((k, false) : List It × Bool) ((((w.alloc (.cells #[.int .i64 0, .int .i64 0, .int .i64 0, .int .i64 0, .int .i64 0, .int .i64 0, .int .i64 0, .int .i64 0, .int .i64 0, .int .i64 0, .int .i64 0, .bool false, .bool false, .int .i64 0, .int .i64 0, .int .i64 0, .int .i64 0, .int .i64 0, .int .i64 0, .int .i64 0, .bool false, .slice none 0 0, .slice none 0 0, .int .i64 0, .int .i64 0, .int .i64 0, .int .i64 0, .int .i64 0, .int .i64 0, .int .i64 0, .int .i64 0, .slice none 0 0] 36)).alloc (.cells #[.slice a n c] 78)).alloc (.cells ((rEnv w.heap.size).cells false) 83)).alloc (.cells #[.int .i64 0, .int .i64 0, .int .i64 0, .int .i64 0, .int .i64 0, .int .i64 0, .int .i64 0, .int .i64 0, .int .i64 0, .int .i64 0, .int .i64 0, .bool false, .bool false, .int .i64 0, .int .i64 0, .int .i64 0, .int .i64 0, .int .i64 0, .int .i64 0, .int .i64 0, .bool false, .slice none 0 0, .slice none 0 0, .int .i64 0, .int .i64 0, .int .i64 0, .int .i64 0, .int .i64 0, .int .i64 0, .int .i64 0, .int .i64 0, .slice none 0 0] 36)) := by
    refine ⟨by show (0 : Nat) + (0 + 700) ≤ 100000; omega, ?_, ⟨by show w.heap.size ≤ w.heap.size + 1; omega, a, n, c, ?_, hr.below hB3, hn, hc, hm⟩⟩
    · show ((((w.alloc (.cells #[.int .i64 0, .int .i64 0, .int .i64 0, .int .i64 0, .int .i64 0, .int .i64 0, .int .i64 0, .int .i64 0, .int .i64 0, .int .i64 0, .int .i64 0, .bool false, .bool false, .int .i64 0, .int .i64 0, .int .i64 0, .int .i64 0, .int .i64 0, .int .i64 0, .int .i64 0, .bool false, .slice none 0 0, .slice none 0 0, .int .i64 0, .int .i64 0, .int .i64 0, .int .i64 0, .int .i64 0, .int .i64 0, .int .i64 0, .int .i64 0, .slice none 0 0] 36)).alloc (.cells #[.slice a n c] 78)).alloc (.cells ((rEnv w.heap.size).cells false) 83)).alloc (.cells #[.int .i64 0, .int .i64 0, .int .i64 0, .int .i64 0, .int .i64 0, .int .i64 0, .int .i64 0, .int .i64 0, .int .i64 0, .int .i64 0, .int .i64 0, .bool false, .bool false, .int .i64 0, .int .i64 0, .int .i64 0, .int .i64 0, .int .i64 0, .int .i64 0, .int .i64 0, .bool false, .slice none 0 0, .slice none 0 0, .int .i64 0, .int .i64 0, .int .i64 0, .int .i64 0, .int .i64 0, .int .i64 0, .int .i64 0, .int .i64 0, .slice none 0 0] 36)).heap[w.heap.size + 1 + 1]? = _
      rw [Below.heap_alloc _ _ _ (by simp)]
      have := World.alloc_heap_new ((w.alloc (.cells #[.int .i64 0, .int .i64 0, .int .i64 0, .int .i64 0, .int .i64 0, .int .i64 0, .int .i64 0, .int .i64 0, .int .i64 0, .int .i64 0, .int .i64 0, .bool false, .bool false, .int .i64 0, .int .i64 0, .int .i64 0, .int .i64 0, .int .i64 0, .int .i64 0, .int .i64 0, .bool false, .slice none 0 0, .slice none 0 0, .int .i64 0, .int .i64 0, .int .i64 0, .int .i64 0, .int .i64 0, .int .i64 0, .int .i64 0, .int .i64 0, .slice none 0 0] 36)).alloc (.cells #[.slice a n c] 78)) (.cells ((rEnv w.heap.size).cells false) 83)
      simpa using this
    · rw [Below.heap_alloc _ _ _ (by simp <;> omega), Below.heap_alloc _ _ _ (by simp)]
      have := World.alloc_heap_new (w.alloc (.cells #[.int .i64 0, .int .i64 0, .int .i64 0, .int .i64 0, .int .i64 0, .int .i64 0, .int .i64 0, .int .i64 0, .int .i64 0, .int .i64 0, .int .i64 0, .bool false, .bool false, .int .i64 0, .int .i64 0, .int .i64 0, .int .i64 0, .int .i64 0, .int .i64 0, .int .i64 0, .bool false, .slice none 0 0, .slice none 0 0, .int .i64 0, .int .i64 0, .int .i64 0, .int .i64 0, .int .i64 0, .int .i64 0, .int .i64 0, .int .i64 0, .slice none 0 0] 36)) (.cells #[.slice a n c] 78)
      simpa using this
  have hbk0 : ((((w.alloc (.cells #[.int .i64 0, .int .i64 0, .int .i64 0, .int .i64 0, .int .i64 0, .int .i64 0, .int .i64 0, .int .i64 0, .int .i64 0, .int .i64 0, .int .i64 0, .bool false, .bool false, .int .i64 0, .int .i64 0, .int .i64 0, .int .i64 0, .int .i64 0, .int .i64 0, .int .i64 0, .bool false, .slice none 0 0, .slice none 0 0, .int .i64 0, .int .i64 0, .int .i64 0, .int .i64 0, .int .i64 0, .int .i64 0, .int .i64 0, .int .i64 0, .slice none 0 0] 36)).alloc (.cells #[.slice a n c] 78)).alloc (.cells ((rEnv w.heap.size).cells false) 83)).alloc (.cells #[.int .i64 0, .int .i64 0, .int .i64 0, .int .i64 0, .int .i64 0, .int .i64 0, .int .i64 0, .int .i64 0, .int .i64 0, .int .i64 0, .int .i64 0, .bool false, .bool false, .int .i64 0, .int .i64 0, .int .i64 0, .int .i64 0, .int .i64 0, .int .i64 0, .int .i64 0, .bool false, .slice none 0 0, .slice none 0 0, .int .i64 0, .int .i64 0, .int .i64 0, .int .i64 0, .int .i64 0, .int .i64 0, .int .i64 0, .int .i64 0, .slice none 0 0] 36)).heap[w.heap.size]? = some (.cells #[.int .i64 0, .int .i64 0, .int .i64 0, .int .i64 0, .int .i64 0, .int .i64 0, .int .i64 0, .int .i64 0, .int .i64 0, .int .i64 0, .int .i64 0, .bool false, .bool false, .int .i64 0, .int .i64 0, .int .i64 0, .int .i64 0, .int .i64 0, .int .i64 0, .int .i64 0, .bool false, .slice none 0 0, .slice none 0 0, .int .i64 0, .int .i64 0, .int .i64 0, .int .i64 0, .int .i64 0, .int .i64 0, .int .i64 0, .int .i64 0, .slice none 0 0] 36 (0, 0)) := by
    rw [Below.heap_alloc _ _ _ (by simp <;> omega), Below.heap_alloc _ _ _ (by simp <;> omega), Below.heap_alloc _ _ _ (by simp)]
    exact World.alloc_heap_new w _
  have hbk3 : ((((w.alloc (.cells #[.int .i64 0, .int .i64 0, .int .i64 0, .int .i64 0, .int .i64 0, .int .i64 0, .int .i64 0, .int .i64 0, .int .i64 0, .int .i64 0, .int .i64 0, .bool false, .bool false, .int .i64 0, .int .i64 0, .int .i64 0, .int .i64 0, .int .i64 0, .int .i64 0, .int .i64 0, .bool false, .slice none 0 0, .slice none 0 0, .int .i64 0, .int .i64 0, .int .i64 0, .int .i64 0, .int .i64 0, .int .i64 0, .int .i64 0, .int .i64 0, .slice none 0 0] 36)).alloc (.cells #[.slice a n c] 78)).alloc (.cells ((rEnv w.heap.size).cells false) 83)).alloc (.cells #[.int .i64 0, .int .i64 0, .int .i64 0, .int .i64 0, .int .i64 0, .int .i64 0, .int .i64 0, .int .i64 0, .int .i64 0, .int .i64 0, .int .i64 0, .bool false, .bool false, .int .i64 0, .int .i64 0, .int .i64 0, .int .i64 0, .int .i64 0, .int .i64 0, .int .i64 0, .bool false, .slice none 0 0, .slice none 0 0, .int .i64 0, .int .i64 0, .int .i64 0, .int .i64 0, .int .i64 0, .int .i64 0, .int .i64 0, .int .i64 0, .slice none 0 0] 36)).heap[w.heap.size + 1 + 1 + 1]? = some (.cells #[.int .i64 0, .int .i64 0, .int .i64 0, .int .i64 0, .int .i64 0, .int .i64 0, .int .i64 0, .int .i64 0, .int .i64 0, .int .i64 0, .int .i64 0, .bool false, .bool false, .int .i64 0, .int .i64 0, .int .i64 0, .int .i64 0, .int .i64 0, .int .i64 0, .int .i64 0, .bool false, .slice none 0 0, .slice none 0 0, .int .i64 0, .int .i64 0, .int .i64 0, .int .i64 0, .int .i64 0, .int .i64 0, .int .i64 0, .int .i64 0, .slice none 0 0] 36 (0, 0)) := by
    have := World.alloc_heap_new (((w.alloc (.cells #[.int .i64 0, .int .i64 0, .int .i64 0, .int .i64 0, .int .i64 0, .int .i64 0, .int .i64 0, .int .i64 0, .int .i64 0, .int .i64 0, .int .i64 0, .bool false, .bool false, .int .i64 0, .int .i64 0, .int .i64 0, .int .i64 0, .int .i64 0, .int .i64 0, .int .i64 0, .bool false, .slice none 0 0, .slice none 0 0, .int .i64 0, .int .i64 0, .int .i64 0, .int .i64 0, .int .i64 0, .int .i64 0, .int .i64 0, .int .i64 0, .slice none 0 0] 36)).alloc (.cells #[.slice a n c] 78)).alloc (.cells ((rEnv w.heap.size).cells false) 83)) (.cells #[.int .i64 0, .int .i64 0, .int .i64 0, .int .i64 0, .int .i64 0, .int .i64 0, .int .i64 0, .int .i64 0, .int .i64 0, .int .i64 0, .int .i64 0, .bool false, .bool false, .int .i64 0, .int .i64 0, .int .i64 0, .int .i64 0, .int .i64 0, .int .i64 0, .int .i64 0, .bool false, .slice none 0 0, .slice none 0 0, .int .i64 0, .int .i64 0, .int .i64 0, .int .i64 0, .int .i64 0, .int .i64 0, .int .i64 0, .int .i64 0, .slice none 0 0] 36)
    simpa using this
  have nosl : ∀ {E : Type} (sz : Nat) (en : E → List Value) (W : World), Sl sz en (rEnv w.heap.size).base W (.slice none 0 0) ([] : List E) := fun sz en W => ⟨none, 0, rfl, Nat.le_refl _, Nat.zero_le _, fun hp => by simp at hp⟩
  have PA := Lib.hid (packet_any (E := rEnv w.heap.size) (rEnv_ok _) (w.heap.size + 1 + 1 + 1) 0 PackT.zero (.slice none 0 0) (.slice none 0 0) (.slice none 0 0) (by decide) (by decide) (by decide) (fun y hy => by simp [PackT.zero, TieT.zero] at hy) (k, false) _ S0 A0 (nosl _ _ _) (nosl _ _ _) (nosl _ _ _))
  have hq2 : ShortP (readS k).1 := short_read k
  obtain ⟨q, hq⟩ : ∃ q, (readS k).1 = q := ⟨_, rfl⟩
  obtain ⟨b, hb⟩ : ∃ b, (readS k).2 = b := ⟨_, rfl⟩
  rw [hq, hb]
  rw [hq] at hq2
  obtain ⟨s, hs⟩ : ∃ s, (packM rMac PackT.zero (k, false)).2.1 = s := ⟨_, rfl⟩
  obtain ⟨v, hv⟩ : ∃ v, (packM rMac PackT.zero (k, false)).2.2 = v := ⟨_, rfl⟩
  have hbv : b = (!v && decide (s.length = 0)) := by rw [← hb, ← hs, ← hv]; rfl
  have hm2 : packM (rEnv w.heap.size).M PackT.zero (k, false) = (q, (s, v)) := Prod.ext hq (Prod.ext hs hv)
  have HM := Lib.hid hm2
  have HBV := Lib.hid hbv
  have HS2 := Lib.hid hq2
  have B3 := Lib.hid hB3
  have HK0 := Lib.hid hbk0
  have HK3 := Lib.hid hbk3
  have HNN := Lib.hid hn
  clear hB0 hB1 hB2 hB3 A0 S0 hq hb hs hv hbv hm2 hq2 hr hbk0 hbk3 hn nosl
  cases v
  all_goals
   go_enter Tryd.func23, Tryd.ntmps23
   go_wp2_with (first
    | (go_at_call 47; refine PA.out.mono ?_; rintro e w1 ⟨ve, vr, vh, rfl, hs, hc, ha, hse, hsr, hsh, hfar⟩; have HFA := Lib.hid (hfar rfl rfl rfl); rw [HM.out] at hs ha hse hsr hsh; have FC := Lib.hid (full_cells hc HK3.out rfl ha rfl); have HSE := Lib.hid hse; have HSR := Lib.hid hsr; have HSH := Lib.hid hsh; obtain ⟨Ae, Ce, rfl, _⟩ := hse; obtain ⟨Ar, Cr, rfl, _⟩ := hsr; obtain ⟨Ah, Ch, rfl, _⟩ := hsh; obtain ⟨_, htb, _, A, m, cc, hbw, _, hml, _⟩ := hs; have HML := Lib.hid hml; have C1 := Lib.hid (B3.out.trans hc.bel); have K0 := Lib.hid (hc.keep w.heap.size _ _ _ (by omega) HK0.out rfl); have i0 : w1.cell? ⟨w.heap.size + 1, 0, none⟩ = some (.slice A m cc) := cell_of_row _ _ _ _ _ _ hbw; have t4 : w1.cell? ⟨w.heap.size + 1 + 1, 4, none⟩ = some (.bool _) := cell_of_row _ _ _ _ _ _ htb; have RG : RowKit.Hid (w1.drew.rangeAt (w.heap.size + 1 + 1 + 1) 0 [.int .i64 q.kind, .int .i64 q.lie.node, .int .i64 q.lie.level, .int .i64 q.lie.pod, .int .i64 q.lie.mtu, .int .i64 q.lie.link, .int .i64 q.lie.nonce, .int .i64 q.lie.seen, .int .i64 q.lie.seenLink, .int .i64 q.lie.seenNonce, .int .i64 q.lie.hold, .bool q.lie.rep, .bool q.lie.noOffer, .int .i64 q.tie.head.id.dir, .int .i64 q.tie.head.id.orig, .int .i64 q.tie.head.id.kind, .int .i64 q.tie.head.id.nr, .int .i64 q.tie.head.seq, .int .i64 q.tie.head.life, .int .i64 q.tie.level, .bool q.tie.over, .slice Ae q.tie.edges.length Ce, .slice Ar q.tie.reaches.length Cr, .int .i64 q.frm.dir, .int .i64 q.frm.orig, .int .i64 q.frm.kind, .int .i64 q.frm.nr, .int .i64 q.to.dir, .int .i64 q.to.orig, .int .i64 q.to.kind, .int .i64 q.to.nr, .slice Ah q.heads.length Ch]) := fun j v hv => ha.cell j hv; have l2 := lt_of_block htb; clear hc ha hbw htb hml hfar))
  · refine wp_region_held_drew (S := (fun w' => w'.cell? ⟨w.heap.size + 1, 0, none⟩ = some (.slice A m cc) ∧ w'.cell? ⟨w.heap.size + 1 + 1, 4, none⟩ = some (.bool false))) (by kernel_rfl) ⟨i0, t4⟩ (fun hHeld => ?_)
    refine takeD (i := 1) (d := 16) (v := ?v1) rfl rfl (by kernel_rfl) (by kernel_rfl) (by kernel_rfl) (fun _ _ _ h => h) rfl ?h1 (by assumption) ?r1
    case h1 =>
      intro w hSw
      try dsimp only at hSw
      go_simp
      try with_reducible rfl
    simp only [List.setIfInBounds_toArray, List.set_cons_zero, List.set_cons_succ]
    refine takeD (i := 2) (d := 17) (v := ?v2) rfl rfl (by kernel_rfl) (by kernel_rfl) (by kernel_rfl) (fun _ _ _ h => h) rfl ?h2 (by assumption) ?r2
    case h2 =>
      intro w hSw
      try dsimp only at hSw
      go_simp
      try with_reducible rfl
    simp only [List.setIfInBounds_toArray, List.set_cons_zero, List.set_cons_succ]
    refine takeD (i := 3) (d := 18) (v := ?v3) rfl rfl (by kernel_rfl) (by kernel_rfl) (by kernel_rfl) (fun _ _ _ h => h) rfl ?h3 (by assumption) ?r3
    case h3 =>
      intro w hSw
      try dsimp only at hSw
      go_simp
      try with_reducible rfl
    simp only [List.setIfInBounds_toArray, List.set_cons_zero, List.set_cons_succ]
    refine takeD (i := 4) (d := 19) (v := ?v4) rfl rfl (by kernel_rfl) (by kernel_rfl) (by kernel_rfl) (fun _ _ _ h => h) rfl ?h4 (by assumption) ?r4
    case h4 =>
      intro w hSw
      try dsimp only at hSw
      go_simp
      try with_reducible rfl
    simp only [List.setIfInBounds_toArray, List.set_cons_zero, List.set_cons_succ]
    refine takeG (i := 5) (d := 20) (v := ?v5) rfl rfl (by kernel_rfl) (by kernel_rfl) (by kernel_rfl) (fun _ _ _ h => h) (by rfl) ?h5 (by assumption) ?r5
    case h5 =>
      intro w hSw
      try dsimp only at hSw
      go_simp
      try with_reducible rfl
    simp only [List.setIfInBounds_toArray, List.set_cons_zero, List.set_cons_succ]
    refine takeG (i := 6) (d := 21) (v := ?v6) rfl rfl (by kernel_rfl) (by kernel_rfl) (by kernel_rfl) (fun _ _ _ h => h) (by rfl) ?h6 (by assumption) ?r6
    case h6 =>
      intro w hSw
      try dsimp only at hSw
      go_simp
      try with_reducible rfl
    simp only [List.setIfInBounds_toArray, List.set_cons_zero, List.set_cons_succ]
    refine takeG (i := 7) (d := 22) (v := ?v7) rfl rfl (by kernel_rfl) (by kernel_rfl) (by kernel_rfl) (fun _ _ _ h => h) (by rfl) ?h7 (by assumption) ?r7
    case h7 =>
      intro w hSw
      try dsimp only at hSw
      go_simp
      try with_reducible rfl
    simp only [List.setIfInBounds_toArray, List.set_cons_zero, List.set_cons_succ]
    refine takeG (i := 8) (d := 23) (v := ?v8) rfl rfl (by kernel_rfl) (by kernel_rfl) (by kernel_rfl) (fun _ _ _ h => h) (by rfl) ?h8 (by assumption) ?r8
    case h8 =>
      intro w hSw
      try dsimp only at hSw
      go_simp
      try with_reducible rfl
    simp only [List.setIfInBounds_toArray, List.set_cons_zero, List.set_cons_succ]
    refine takeD (i := 9) (d := 24) (v := ?v9) rfl rfl (by kernel_rfl) (by kernel_rfl) (by kernel_rfl) (fun _ _ _ h => h) rfl ?h9 (by assumption) ?r9
    case h9 =>
      intro w hSw
      try dsimp only at hSw
      go_simp
      try with_reducible rfl
    simp only [List.setIfInBounds_toArray, List.set_cons_zero, List.set_cons_succ]
    refine wpAnyH_ready (rs := [0]) (by kernel_rfl) (by simp) ?_
    refine AllReadyH.cons rfl (fun K hK => ?_) AllReadyH.nil
    refine stepLoad 15 rfl 36 (.tmp 6) rfl (by rfl) _ _ rfl _ _ RG.out Tryd.underlying36 rfl (by kernel_rfl) ?_
    simp only [List.setIfInBounds_toArray, List.set_cons_zero, List.set_cons_succ]
    refine hK.out _ _ (by assumption) (fun hHeld => ?_)
    clear hK K
    have HTH := Lib.hid (there_of (W := w1.drew) (n := 32) K0.out (Nat.le_refl _))
    refine wpAnyH_ready (rs := [10]) (by kernel_rfl) (by simp) ?_
    refine AllReadyH.cons rfl (fun K hK => ?_) AllReadyH.nil
    rw [if_pos (by rfl)]
    refine wp_store_mid 36 (.tmp 2) (.tmp 15) rfl w.heap.size 0 #[.int .i64 q.kind, .int .i64 q.lie.node, .int .i64 q.lie.level, .int .i64 q.lie.pod, .int .i64 q.lie.mtu, .int .i64 q.lie.link, .int .i64 q.lie.nonce, .int .i64 q.lie.seen, .int .i64 q.lie.seenLink, .int .i64 q.lie.seenNonce, .int .i64 q.lie.hold, .bool q.lie.rep, .bool q.lie.noOffer, .int .i64 q.tie.head.id.dir, .int .i64 q.tie.head.id.orig, .int .i64 q.tie.head.id.kind, .int .i64 q.tie.head.id.nr, .int .i64 q.tie.head.seq, .int .i64 q.tie.head.life, .int .i64 q.tie.level, .bool q.tie.over, .slice Ae q.tie.edges.length Ce, .slice Ar q.tie.reaches.length Cr, .int .i64 q.frm.dir, .int .i64 q.frm.orig, .int .i64 q.frm.kind, .int .i64 q.frm.nr, .int .i64 q.to.dir, .int .i64 q.to.orig, .int .i64 q.to.kind, .int .i64 q.to.nr, .slice Ah q.heads.length Ch] rfl rfl HTH.out (by kernel_rfl) (by simp [Value.oneCell']) ?_
    refine hK.out _ _ ⟨(World.cell?_setCells_out _ _ _ _ _ (fun h1 _ => by simp at h1)).trans i0, (World.cell?_setCells_out _ _ _ _ _ (fun h1 _ => by simp at h1; omega)).trans t4⟩ (fun hHeld => ?_)
    clear hK K
    obtain ⟨W5, hW5⟩ : ∃ W5, w1.drew.setCells w.heap.size 0 [.int .i64 q.kind, .int .i64 q.lie.node, .int .i64 q.lie.level, .int .i64 q.lie.pod, .int .i64 q.lie.mtu, .int .i64 q.lie.link, .int .i64 q.lie.nonce, .int .i64 q.lie.seen, .int .i64 q.lie.seenLink, .int .i64 q.lie.seenNonce, .int .i64 q.lie.hold, .bool q.lie.rep, .bool q.lie.noOffer, .int .i64 q.tie.head.id.dir, .int .i64 q.tie.head.id.orig, .int .i64 q.tie.head.id.kind, .int .i64 q.tie.head.id.nr, .int .i64 q.tie.head.seq, .int .i64 q.tie.head.life, .int .i64 q.tie.level, .bool q.tie.over, .slice Ae q.tie.edges.length Ce, .slice Ar q.tie.reaches.length Cr, .int .i64 q.frm.dir, .int .i64 q.frm.orig, .int .i64 q.frm.kind, .int .i64 q.frm.nr, .int .i64 q.to.dir, .int .i64 q.to.orig, .int .i64 q.to.kind, .int .i64 q.to.nr, .slice Ah q.heads.length Ch] = W5 := ⟨_, rfl⟩
    have HW5 := Lib.hid hW5
    simp only [hW5] at hHeld ⊢
    clear hW5
    refine takeD (i := 11) (d := 3) (v := ?v11) rfl rfl (by kernel_rfl) (by kernel_rfl) (by kernel_rfl) (fun _ _ _ h => h) rfl ?h11 (by assumption) ?r11
    case h11 =>
      intro w hSw
      try dsimp only at hSw
      go_simp
      try with_reducible rfl
    simp only [List.setIfInBounds_toArray, List.set_cons_zero, List.set_cons_succ]
    refine wpAnyH_done (by kernel_rfl) ?_ _
    go_wp2
    refine bodyPost_ret (results_cell2 rfl rfl (b := w.heap.size) (o := 0) (cs := [.int .i64 q.kind, .int .i64 q.lie.node, .int .i64 q.lie.level, .int .i64 q.lie.pod, .int .i64 q.lie.mtu, .int .i64 q.lie.link, .int .i64 q.lie.nonce, .int .i64 q.lie.seen, .int .i64 q.lie.seenLink, .int .i64 q.lie.seenNonce, .int .i64 q.lie.hold, .bool q.lie.rep, .bool q.lie.noOffer, .int .i64 q.tie.head.id.dir, .int .i64 q.tie.head.id.orig, .int .i64 q.tie.head.id.kind, .int .i64 q.tie.head.id.nr, .int .i64 q.tie.head.seq, .int .i64 q.tie.head.life, .int .i64 q.tie.level, .bool q.tie.over, .slice Ae q.tie.edges.length Ce, .slice Ar q.tie.reaches.length Cr, .int .i64 q.frm.dir, .int .i64 q.frm.orig, .int .i64 q.frm.kind, .int .i64 q.frm.nr, .int .i64 q.to.dir, .int .i64 q.to.orig, .int .i64 q.to.kind, .int .i64 q.to.nr, .slice Ah q.heads.length Ch]) (by rw [← HW5.out]; exact World.rangeAt_setCells_same _ _ _ _ HTH.out) Tryd.underlying36 rfl (by kernel_rfl)) rfl ?_
    have hsz : W5.heap.size = w1.heap.size := by rw [← HW5.out, size_cells]; rfl
    obtain ⟨f1, f2, f3⟩ := HFA.out
    have hn4 : w.heap.size < ((((w.alloc (.cells #[.int .i64 0, .int .i64 0, .int .i64 0, .int .i64 0, .int .i64 0, .int .i64 0, .int .i64 0, .int .i64 0, .int .i64 0, .int .i64 0, .int .i64 0, .bool false, .bool false, .int .i64 0, .int .i64 0, .int .i64 0, .int .i64 0, .int .i64 0, .int .i64 0, .int .i64 0, .bool false, .slice none 0 0, .slice none 0 0, .int .i64 0, .int .i64 0, .int .i64 0, .int .i64 0, .int .i64 0, .int .i64 0, .int .i64 0, .int .i64 0, .slice none 0 0] 36)).alloc (.cells #[.slice a n c] 78)).alloc (.cells ((rEnv w.heap.size).cells false) 83)).alloc (.cells #[.int .i64 0, .int .i64 0, .int .i64 0, .int .i64 0, .int .i64 0, .int .i64 0, .int .i64 0, .int .i64 0, .int .i64 0, .int .i64 0, .int .i64 0, .bool false, .bool false, .int .i64 0, .int .i64 0, .int .i64 0, .int .i64 0, .int .i64 0, .int .i64 0, .int .i64 0, .bool false, .slice none 0 0, .slice none 0 0, .int .i64 0, .int .i64 0, .int .i64 0, .int .i64 0, .int .i64 0, .int .i64 0, .int .i64 0, .int .i64 0, .slice none 0 0] 36)).heap.size := by simp; omega
    refine ⟨Ae, Ar, Ah, Ce, Cr, Ch, ?_, ?_, ⟨f1.mono (by omega), f2.mono (by omega), f3.mono (by omega)⟩, ?_⟩
    · have hm0 := HML.out
      have hb0 := HBV.out
      subst hb0
      subst hm0
      refine congrArg (fun z => Ending.returned (.tuple #[.agg #[.int .i64 q.kind, .int .i64 q.lie.node, .int .i64 q.lie.level, .int .i64 q.lie.pod, .int .i64 q.lie.mtu, .int .i64 q.lie.link, .int .i64 q.lie.nonce, .int .i64 q.lie.seen, .int .i64 q.lie.seenLink, .int .i64 q.lie.seenNonce, .int .i64 q.lie.hold, .bool q.lie.rep, .bool q.lie.noOffer, .int .i64 q.tie.head.id.dir, .int .i64 q.tie.head.id.orig, .int .i64 q.tie.head.id.kind, .int .i64 q.tie.head.id.nr, .int .i64 q.tie.head.seq, .int .i64 q.tie.head.life, .int .i64 q.tie.level, .bool q.tie.over, .slice Ae q.tie.edges.length Ce, .slice Ar q.tie.reaches.length Cr, .int .i64 q.frm.dir, .int .i64 q.frm.orig, .int .i64 q.frm.kind, .int .i64 q.frm.nr, .int .i64 q.to.dir, .int .i64 q.to.orig, .int .i64 q.to.kind, .int .i64 q.to.nr, .slice Ah q.heads.length Ch], .bool z])) (show (((s.length : Nat) : Int) == 0) = _ from ?_); rw [Bool.eq_iff_iff]; simp
    · have e1 := (HSE.out.below (Below.refl _ _).drew).apart f1 hn4 0 [.int .i64 q.kind, .int .i64 q.lie.node, .int .i64 q.lie.level, .int .i64 q.lie.pod, .int .i64 q.lie.mtu, .int .i64 q.lie.link, .int .i64 q.lie.nonce, .int .i64 q.lie.seen, .int .i64 q.lie.seenLink, .int .i64 q.lie.seenNonce, .int .i64 q.lie.hold, .bool q.lie.rep, .bool q.lie.noOffer, .int .i64 q.tie.head.id.dir, .int .i64 q.tie.head.id.orig, .int .i64 q.tie.head.id.kind, .int .i64 q.tie.head.id.nr, .int .i64 q.tie.head.seq, .int .i64 q.tie.head.life, .int .i64 q.tie.level, .bool q.tie.over, .slice Ae q.tie.edges.length Ce, .slice Ar q.tie.reaches.length Cr, .int .i64 q.frm.dir, .int .i64 q.frm.orig, .int .i64 q.frm.kind, .int .i64 q.frm.nr, .int .i64 q.to.dir, .int .i64 q.to.orig, .int .i64 q.to.kind, .int .i64 q.to.nr, .slice Ah q.heads.length Ch]
      have e2 := (HSR.out.below (Below.refl _ _).drew).apart f2 hn4 0 [.int .i64 q.kind, .int .i64 q.lie.node, .int .i64 q.lie.level, .int .i64 q.lie.pod, .int .i64 q.lie.mtu, .int .i64 q.lie.link, .int .i64 q.lie.nonce, .int .i64 q.lie.seen, .int .i64 q.lie.seenLink, .int .i64 q.lie.seenNonce, .int .i64 q.lie.hold, .bool q.lie.rep, .bool q.lie.noOffer, .int .i64 q.tie.head.id.dir, .int .i64 q.tie.head.id.orig, .int .i64 q.tie.head.id.kind, .int .i64 q.tie.head.id.nr, .int .i64 q.tie.head.seq, .int .i64 q.tie.head.life, .int .i64 q.tie.level, .bool q.tie.over, .slice Ae q.tie.edges.length Ce, .slice Ar q.tie.reaches.length Cr, .int .i64 q.frm.dir, .int .i64 q.frm.orig, .int .i64 q.frm.kind, .int .i64 q.frm.nr, .int .i64 q.to.dir, .int .i64 q.to.orig, .int .i64 q.to.kind, .int .i64 q.to.nr, .slice Ah q.heads.length Ch]
      have e3 := (HSH.out.below (Below.refl _ _).drew).apart f3 hn4 0 [.int .i64 q.kind, .int .i64 q.lie.node, .int .i64 q.lie.level, .int .i64 q.lie.pod, .int .i64 q.lie.mtu, .int .i64 q.lie.link, .int .i64 q.lie.nonce, .int .i64 q.lie.seen, .int .i64 q.lie.seenLink, .int .i64 q.lie.seenNonce, .int .i64 q.lie.hold, .bool q.lie.rep, .bool q.lie.noOffer, .int .i64 q.tie.head.id.dir, .int .i64 q.tie.head.id.orig, .int .i64 q.tie.head.id.kind, .int .i64 q.tie.head.id.nr, .int .i64 q.tie.head.seq, .int .i64 q.tie.head.life, .int .i64 q.tie.level, .bool q.tie.over, .slice Ae q.tie.edges.length Ce, .slice Ar q.tie.reaches.length Cr, .int .i64 q.frm.dir, .int .i64 q.frm.orig, .int .i64 q.frm.kind, .int .i64 q.frm.nr, .int .i64 q.to.dir, .int .i64 q.to.orig, .int .i64 q.to.kind, .int .i64 q.to.nr, .slice Ah q.heads.length Ch]
      rw [HW5.out] at e1 e2 e3
      rw [← hsz] at e1 e2 e3
      exact pk_sl e1 e2 e3 HS2.out
    · rw [← HW5.out]
      exact below_cells C1.out.drew (Nat.le_refl _) _ _
  · refine wp_region_held_drew (S := (fun w' => w'.cell? ⟨w.heap.size + 1, 0, none⟩ = some (.slice A m cc) ∧ w'.cell? ⟨w.heap.size + 1 + 1, 4, none⟩ = some (.bool true))) (by kernel_rfl) ⟨i0, t4⟩ (fun hHeld => ?_)
    refine takeD (i := 1) (d := 16) (v := ?v1b) rfl rfl (by kernel_rfl) (by kernel_rfl) (by kernel_rfl) (fun _ _ _ h => h) rfl ?h1b (by assumption) ?r1b
    case h1b =>
      intro w hSw
      try dsimp only at hSw
      go_simp
      try with_reducible rfl
    simp only [List.setIfInBounds_toArray, List.set_cons_zero, List.set_cons_succ]
    refine takeD (i := 2) (d := 17) (v := ?v2b) rfl rfl (by kernel_rfl) (by kernel_rfl) (by kernel_rfl) (fun _ _ _ h => h) rfl ?h2b (by assumption) ?r2b
    case h2b =>
      intro w hSw
      try dsimp only at hSw
      go_simp
      try with_reducible rfl
    simp only [List.setIfInBounds_toArray, List.set_cons_zero, List.set_cons_succ]
    refine takeD (i := 3) (d := 18) (v := ?v3b) rfl rfl (by kernel_rfl) (by kernel_rfl) (by kernel_rfl) (fun _ _ _ h => h) rfl ?h3b (by assumption) ?r3b
    case h3b =>
      intro w hSw
      try dsimp only at hSw
      go_simp
      try with_reducible rfl
    simp only [List.setIfInBounds_toArray, List.set_cons_zero, List.set_cons_succ]
    refine takeD (i := 4) (d := 19) (v := ?v4b) rfl rfl (by kernel_rfl) (by kernel_rfl) (by kernel_rfl) (fun _ _ _ h => h) rfl ?h4b (by assumption) ?r4b
    case h4b =>
      intro w hSw
      try dsimp only at hSw
      go_simp
      try with_reducible rfl
    simp only [List.setIfInBounds_toArray, List.set_cons_zero, List.set_cons_succ]
    refine takeN (i := 5) (d := 20) rfl rfl (by kernel_rfl) (by kernel_rfl) (by kernel_rfl) (fun _ _ _ h => h) (by rfl) (by assumption) ?r5b
    simp only [List.setIfInBounds_toArray, List.set_cons_zero, List.set_cons_succ]
    refine takeN (i := 6) (d := 21) rfl rfl (by kernel_rfl) (by kernel_rfl) (by kernel_rfl) (fun _ _ _ h => h) (by rfl) (by assumption) ?r6b
    simp only [List.setIfInBounds_toArray, List.set_cons_zero, List.set_cons_succ]
    refine takeN (i := 7) (d := 22) rfl rfl (by kernel_rfl) (by kernel_rfl) (by kernel_rfl) (fun _ _ _ h => h) (by rfl) (by assumption) ?r7b
    simp only [List.setIfInBounds_toArray, List.set_cons_zero, List.set_cons_succ]
    refine takeN (i := 8) (d := 23) rfl rfl (by kernel_rfl) (by kernel_rfl) (by kernel_rfl) (fun _ _ _ h => h) (by rfl) (by assumption) ?r8b
    simp only [List.setIfInBounds_toArray, List.set_cons_zero, List.set_cons_succ]
    refine takeD (i := 9) (d := 24) (v := ?v9b) rfl rfl (by kernel_rfl) (by kernel_rfl) (by kernel_rfl) (fun _ _ _ h => h) rfl ?h9b (by assumption) ?r9b
    case h9b =>
      intro w hSw
      try dsimp only at hSw
      go_simp
      try with_reducible rfl
    simp only [List.setIfInBounds_toArray, List.set_cons_zero, List.set_cons_succ]
    refine wpAnyH_ready (rs := [0]) (by kernel_rfl) (by simp) ?_
    refine AllReadyH.cons rfl (fun K hK => ?_) AllReadyH.nil
    refine stepLoad 15 rfl 36 (.tmp 6) rfl (by rfl) _ _ rfl _ _ RG.out Tryd.underlying36 rfl (by kernel_rfl) ?_
    simp only [List.setIfInBounds_toArray, List.set_cons_zero, List.set_cons_succ]
    refine hK.out _ _ (by assumption) (fun hHeld => ?_)
    clear hK K
    have HTH := Lib.hid (there_of (W := w1.drew) (n := 32) K0.out (Nat.le_refl _))
    refine wpAnyH_ready (rs := [10]) (by kernel_rfl) (by simp) ?_
    refine AllReadyH.cons rfl (fun K hK => ?_) AllReadyH.nil
    rw [if_pos (by rfl)]
    refine wp_store_mid 36 (.tmp 2) (.tmp 15) rfl w.heap.size 0 #[.int .i64 q.kind, .int .i64 q.lie.node, .int .i64 q.lie.level, .int .i64 q.lie.pod, .int .i64 q.lie.mtu, .int .i64 q.lie.link, .int .i64 q.lie.nonce, .int .i64 q.lie.seen, .int .i64 q.lie.seenLink, .int .i64 q.lie.seenNonce, .int .i64 q.lie.hold, .bool q.lie.rep, .bool q.lie.noOffer, .int .i64 q.tie.head.id.dir, .int .i64 q.tie.head.id.orig, .int .i64 q.tie.head.id.kind, .int .i64 q.tie.head.id.nr, .int .i64 q.tie.head.seq, .int .i64 q.tie.head.life, .int .i64 q.tie.level, .bool q.tie.over, .slice Ae q.tie.edges.length Ce, .slice Ar q.tie.reaches.length Cr, .int .i64 q.frm.dir, .int .i64 q.frm.orig, .int .i64 q.frm.kind, .int .i64 q.frm.nr, .int .i64 q.to.dir, .int .i64 q.to.orig, .int .i64 q.to.kind, .int .i64 q.to.nr, .slice Ah q.heads.length Ch] rfl rfl HTH.out (by kernel_rfl) (by simp [Value.oneCell']) ?_
    refine hK.out _ _ ⟨(World.cell?_setCells_out _ _ _ _ _ (fun h1 _ => by simp at h1)).trans i0, (World.cell?_setCells_out _ _ _ _ _ (fun h1 _ => by simp at h1; omega)).trans t4⟩ (fun hHeld => ?_)
    clear hK K
    obtain ⟨W5, hW5⟩ : ∃ W5, w1.drew.setCells w.heap.size 0 [.int .i64 q.kind, .int .i64 q.lie.node, .int .i64 q.lie.level, .int .i64 q.lie.pod, .int .i64 q.lie.mtu, .int .i64 q.lie.link, .int .i64 q.lie.nonce, .int .i64 q.lie.seen, .int .i64 q.lie.seenLink, .int .i64 q.lie.seenNonce, .int .i64 q.lie.hold, .bool q.lie.rep, .bool q.lie.noOffer, .int .i64 q.tie.head.id.dir, .int .i64 q.tie.head.id.orig, .int .i64 q.tie.head.id.kind, .int .i64 q.tie.head.id.nr, .int .i64 q.tie.head.seq, .int .i64 q.tie.head.life, .int .i64 q.tie.level, .bool q.tie.over, .slice Ae q.tie.edges.length Ce, .slice Ar q.tie.reaches.length Cr, .int .i64 q.frm.dir, .int .i64 q.frm.orig, .int .i64 q.frm.kind, .int .i64 q.frm.nr, .int .i64 q.to.dir, .int .i64 q.to.orig, .int .i64 q.to.kind, .int .i64 q.to.nr, .slice Ah q.heads.length Ch] = W5 := ⟨_, rfl⟩
    have HW5 := Lib.hid hW5
    simp only [hW5] at hHeld ⊢
    clear hW5
    refine takeD (i := 11) (d := 3) (v := ?v11b) rfl rfl (by kernel_rfl) (by kernel_rfl) (by kernel_rfl) (fun _ _ _ h => h) rfl ?h11b (by assumption) ?r11b
    case h11b =>
      intro w hSw
      try dsimp only at hSw
      go_simp
      try with_reducible rfl
    simp only [List.setIfInBounds_toArray, List.set_cons_zero, List.set_cons_succ]
    refine wpAnyH_done (by kernel_rfl) ?_ _
    go_wp2
    refine bodyPost_ret (results_cell2 rfl rfl (b := w.heap.size) (o := 0) (cs := [.int .i64 q.kind, .int .i64 q.lie.node, .int .i64 q.lie.level, .int .i64 q.lie.pod, .int .i64 q.lie.mtu, .int .i64 q.lie.link, .int .i64 q.lie.nonce, .int .i64 q.lie.seen, .int .i64 q.lie.seenLink, .int .i64 q.lie.seenNonce, .int .i64 q.lie.hold, .bool q.lie.rep, .bool q.lie.noOffer, .int .i64 q.tie.head.id.dir, .int .i64 q.tie.head.id.orig, .int .i64 q.tie.head.id.kind, .int .i64 q.tie.head.id.nr, .int .i64 q.tie.head.seq, .int .i64 q.tie.head.life, .int .i64 q.tie.level, .bool q.tie.over, .slice Ae q.tie.edges.length Ce, .slice Ar q.tie.reaches.length Cr, .int .i64 q.frm.dir, .int .i64 q.frm.orig, .int .i64 q.frm.kind, .int .i64 q.frm.nr, .int .i64 q.to.dir, .int .i64 q.to.orig, .int .i64 q.to.kind, .int .i64 q.to.nr, .slice Ah q.heads.length Ch]) (by rw [← HW5.out]; exact World.rangeAt_setCells_same _ _ _ _ HTH.out) Tryd.underlying36 rfl (by kernel_rfl)) rfl ?_
    have hsz : W5.heap.size = w1.heap.size := by rw [← HW5.out, size_cells]; rfl
    obtain ⟨f1, f2, f3⟩ := HFA.out
    have hn4 : w.heap.size < ((((w.alloc (.cells #[.int .i64 0, .int .i64 0, .int .i64 0, .int .i64 0, .int .i64 0, .int .i64 0, .int .i64 0, .int .i64 0, .int .i64 0, .int .i64 0, .int .i64 0, .bool false, .bool false, .int .i64 0, .int .i64 0, .int .i64 0, .int .i64 0, .int .i64 0, .int .i64 0, .int .i64 0, .bool false, .slice none 0 0, .slice none 0 0, .int .i64 0, .int .i64 0, .int .i64 0, .int .i64 0, .int .i64 0, .int .i64 0, .int .i64 0, .int .i64 0, .slice none 0 0] 36)).alloc (.cells #[.slice a n c] 78)).alloc (.cells ((rEnv w.heap.size).cells false) 83)).alloc (.cells #[.int .i64 0, .int .i64 0, .int .i64 0, .int .i64 0, .int .i64 0, .int .i64 0, .int .i64 0, .int .i64 0, .int .i64 0, .int .i64 0, .int .i64 0, .bool false, .bool false, .int .i64 0, .int .i64 0, .int .i64 0, .int .i64 0, .int .i64 0, .int .i64 0, .int .i64 0, .bool false, .slice none 0 0, .slice none 0 0, .int .i64 0, .int .i64 0, .int .i64 0, .int .i64 0, .int .i64 0, .int .i64 0, .int .i64 0, .int .i64 0, .slice none 0 0] 36)).heap.size := by simp; omega
    refine ⟨Ae, Ar, Ah, Ce, Cr, Ch, ?_, ?_, ⟨f1.mono (by omega), f2.mono (by omega), f3.mono (by omega)⟩, ?_⟩
    · have hm0 := HML.out
      have hb0 := HBV.out
      subst hb0
      subst hm0
      exact congrArg (fun z => Ending.returned (.tuple #[.agg #[.int .i64 q.kind, .int .i64 q.lie.node, .int .i64 q.lie.level, .int .i64 q.lie.pod, .int .i64 q.lie.mtu, .int .i64 q.lie.link, .int .i64 q.lie.nonce, .int .i64 q.lie.seen, .int .i64 q.lie.seenLink, .int .i64 q.lie.seenNonce, .int .i64 q.lie.hold, .bool q.lie.rep, .bool q.lie.noOffer, .int .i64 q.tie.head.id.dir, .int .i64 q.tie.head.id.orig, .int .i64 q.tie.head.id.kind, .int .i64 q.tie.head.id.nr, .int .i64 q.tie.head.seq, .int .i64 q.tie.head.life, .int .i64 q.tie.level, .bool q.tie.over, .slice Ae q.tie.edges.length Ce, .slice Ar q.tie.reaches.length Cr, .int .i64 q.frm.dir, .int .i64 q.frm.orig, .int .i64 q.frm.kind, .int .i64 q.frm.nr, .int .i64 q.to.dir, .int .i64 q.to.orig, .int .i64 q.to.kind, .int .i64 q.to.nr, .slice Ah q.heads.length Ch], .bool z])) (show false = _ by simp)
    · have e1 := (HSE.out.below (Below.refl _ _).drew).apart f1 hn4 0 [.int .i64 q.kind, .int .i64 q.lie.node, .int .i64 q.lie.level, .int .i64 q.lie.pod, .int .i64 q.lie.mtu, .int .i64 q.lie.link, .int .i64 q.lie.nonce, .int .i64 q.lie.seen, .int .i64 q.lie.seenLink, .int .i64 q.lie.seenNonce, .int .i64 q.lie.hold, .bool q.lie.rep, .bool q.lie.noOffer, .int .i64 q.tie.head.id.dir, .int .i64 q.tie.head.id.orig, .int .i64 q.tie.head.id.kind, .int .i64 q.tie.head.id.nr, .int .i64 q.tie.head.seq, .int .i64 q.tie.head.life, .int .i64 q.tie.level, .bool q.tie.over, .slice Ae q.tie.edges.length Ce, .slice Ar q.tie.reaches.length Cr, .int .i64 q.frm.dir, .int .i64 q.frm.orig, .int .i64 q.frm.kind, .int .i64 q.frm.nr, .int .i64 q.to.dir, .int .i64 q.to.orig, .int .i64 q.to.kind, .int .i64 q.to.nr, .slice Ah q.heads.length Ch]
      have e2 := (HSR.out.below (Below.refl _ _).drew).apart f2 hn4 0 [.int .i64 q.kind, .int .i64 q.lie.node, .int .i64 q.lie.level, .int .i64 q.lie.pod, .int .i64 q.lie.mtu, .int .i64 q.lie.link, .int .i64 q.lie.nonce, .int .i64 q.lie.seen, .int .i64 q.lie.seenLink, .int .i64 q.lie.seenNonce, .int .i64 q.lie.hold, .bool q.lie.rep, .bool q.lie.noOffer, .int .i64 q.tie.head.id.dir, .int .i64 q.tie.head.id.orig, .int .i64 q.tie.head.id.kind, .int .i64 q.tie.head.id.nr, .int .i64 q.tie.head.seq, .int .i64 q.tie.head.life, .int .i64 q.tie.level, .bool q.tie.over, .slice Ae q.tie.edges.length Ce, .slice Ar q.tie.reaches.length Cr, .int .i64 q.frm.dir, .int .i64 q.frm.orig, .int .i64 q.frm.kind, .int .i64 q.frm.nr, .int .i64 q.to.dir, .int .i64 q.to.orig, .int .i64 q.to.kind, .int .i64 q.to.nr, .slice Ah q.heads.length Ch]
      have e3 := (HSH.out.below (Below.refl _ _).drew).apart f3 hn4 0 [.int .i64 q.kind, .int .i64 q.lie.node, .int .i64 q.lie.level, .int .i64 q.lie.pod, .int .i64 q.lie.mtu, .int .i64 q.lie.link, .int .i64 q.lie.nonce, .int .i64 q.lie.seen, .int .i64 q.lie.seenLink, .int .i64 q.lie.seenNonce, .int .i64 q.lie.hold, .bool q.lie.rep, .bool q.lie.noOffer, .int .i64 q.tie.head.id.dir, .int .i64 q.tie.head.id.orig, .int .i64 q.tie.head.id.kind, .int .i64 q.tie.head.id.nr, .int .i64 q.tie.head.seq, .int .i64 q.tie.head.life, .int .i64 q.tie.level, .bool q.tie.over, .slice Ae q.tie.edges.length Ce, .slice Ar q.tie.reaches.length Cr, .int .i64 q.frm.dir, .int .i64 q.frm.orig, .int .i64 q.frm.kind, .int .i64 q.frm.nr, .int .i64 q.to.dir, .int .i64 q.to.orig, .int .i64 q.to.kind, .int .i64 q.to.nr, .slice Ah q.heads.length Ch]
      rw [HW5.out] at e1 e2 e3
      rw [← hsz] at e1 e2 e3
      exact pk_sl e1 e2 e3 HS2.out
    · rw [← HW5.out]
      exact below_cells C1.out.drew (Nat.le_refl _) _ _
end Go.Proofs.YtgngcpbkopjjlaaDoor

/-
  WHAT THE SCHEMA KNOWS OF A RECORD: plain mathematics. A stack of places is carried along, the innermost one first.
-/
namespace Go.Proofs.YtgngcpbkopjjlaaDoor
set_option linter.unusedVariables false

/-- The places' table, a row for each place, thirteen numbers a row. -/
def flatT : List Int :=
  [0, 0, 0, 0, 0, 0, 0, 0, 0, 0, 0, 0, 0,
   0, 0, 0, 0, 0, 0, 0, 0, 0, 0, 0, 0, 0,
   0, 1, 3, 6, 4, 4, 5, 0, 0, 0, 0, 0, 0,
   0, 1, 1, 1, 1, 1, 1, 1, 1, 1, 1, 1, 1,
   0, 1, 1, 1, 1, 0, 0, 0, 0, 0, 0, 0, 0,
   0, 4, 1, 1, 0, 0, 0, 0, 0, 0, 0, 0, 0,
   0, 5, 1, 1, 7, 8, 0, 0, 0, 0, 0, 0, 0,
   0, 1, 1, 1, 0, 0, 0, 0, 0, 0, 0, 0, 0,
   0, 1, 1, 1, 0, 0, 0, 0, 0, 0, 0, 0, 0]
def tabZ (p id : Int) : Int := flatT[p.toNat * 13 + id.toNat]?.getD 0
/-- The place within a field of that Id in that place. -/
def inZ (p id : Int) : Int := if p = 1 then 1 else if 13 ≤ id then 0 else tabZ p id
theorem flat_range : ∀ n ∈ flatT, 0 ≤ n ∧ n ≤ 8 := by decide
theorem inZ_range (p id : Int) : 0 ≤ inZ p id ∧ inZ p id ≤ 8 := by
  unfold inZ tabZ
  split
  · omega
  split
  · omega
  · rcases h : flatT[p.toNat * 13 + id.toNat]? with _ | n
    · simp
    · simpa using flat_range n (List.mem_of_getElem? h)
theorem inZ_zero (id : Int) (h : 0 ≤ id) : inZ 0 id = 0 := by
  unfold inZ tabZ
  rw [if_neg (by decide)]
  split
  · rfl
  · have : id.toNat < 13 := by omega
    generalize id.toNat = k at this
    revert k
    decide
def knownS : List Int → List It → List It
  | _, [] => []
  | [], _ :: _ => []
  | p :: t, x :: l =>
    if x.kind = 3 then (if inZ p x.id = 0 then [] else [x]) ++ knownS (inZ p x.id :: p :: t) l
    else if x.kind = 4 then (if p = 0 then [] else [x]) ++ knownS t l
    else (if inZ p x.id = 0 then [] else [x]) ++ knownS (p :: t) l
def knownP (l : List It) : List It := if rightB l = true then knownS [2] l else []

theorem knownS_nil (st : List Int) : knownS st [] = [] := by cases st <;> rfl
theorem knownS_cons (p : Int) (t : List Int) (x : It) (l : List It) : knownS (p :: t) (x :: l) =
    if x.kind = 3 then (if inZ p x.id = 0 then [] else [x]) ++ knownS (inZ p x.id :: p :: t) l
    else if x.kind = 4 then (if p = 0 then [] else [x]) ++ knownS t l
    else (if inZ p x.id = 0 then [] else [x]) ++ knownS (p :: t) l := rfl
theorem right_step {d : Int} {x : It} {l : List It} (h : rightFrom d (x :: l) = true) : shapeB x = true ∧ 0 ≤ step x d ∧ step x d ≤ 8 ∧ rightFrom (step x d) l = true := by
  simp only [rightFrom, Bool.and_eq_true, decide_eq_true_eq] at h
  exact ⟨h.1.1, h.1.2.1, h.1.2.2, h.2⟩
/-- What is known of a piece that ends at the depth 0, and then of the rest. -/
theorem known_app : ∀ (a : List It) (d : Nat) (st : List Int) (rest : List It), d < st.length → rightFrom d a = true → knownS st (a ++ rest) = knownS st a ++ knownS (st.drop d) rest := by
  intro a
  induction a with
  | nil =>
    intro d st rest hd h
    have : d = 0 := by simpa [rightFrom] using h
    subst this
    rw [knownS_nil]
    rfl
  | cons x a ih =>
    intro d st rest hd h
    obtain ⟨_, h0, h8, h1⟩ := right_step h
    cases st with
    | nil => simp at hd
    | cons p t =>
      rw [List.cons_append, knownS_cons, knownS_cons]
      by_cases h3 : x.kind = 3
      · rw [if_pos h3, if_pos h3]
        have e : step x d = ((d + 1 : Nat) : Int) := by unfold step; rw [if_pos h3]; omega
        rw [e] at h1
        rw [ih (d + 1) (inZ p x.id :: p :: t) rest (by simpa using hd) h1, List.append_assoc]
        rfl
      rw [if_neg h3, if_neg h3]
      by_cases h4 : x.kind = 4
      · rw [if_pos h4, if_pos h4]
        have e0 : step x d = (d : Int) - 1 := by unfold step; rw [if_neg h3, if_pos h4]
        obtain ⟨k, rfl⟩ : ∃ k, d = k + 1 := ⟨d - 1, by omega⟩
        have e : step x (k + 1 : Nat) = ((k : Nat) : Int) := by rw [e0]; omega
        rw [e] at h1
        rw [ih k t rest (by simpa using hd) h1, List.append_assoc]
        rfl
      · rw [if_neg h4, if_neg h4]
        have e : step x d = (d : Int) := by unfold step; rw [if_neg h3, if_neg h4]
        rw [e] at h1
        rw [ih d (p :: t) rest hd h1, List.append_assoc]
theorem known_cat {a rest : List It} (p : Int) (t : List Int) (h : rightB a = true) : knownS (p :: t) (a ++ rest) = knownS (p :: t) a ++ knownS (p :: t) rest :=
  known_app a 0 (p :: t) rest (by simp) h

/-- All of these fields are known in that place. -/
def Kn (p : Int) (l : List It) : Prop := ∀ t rest, knownS (p :: t) (l ++ rest) = l ++ knownS (p :: t) rest
theorem kn_nil (p : Int) : Kn p [] := fun _ _ => rfl
theorem kn_app {p : Int} {l m : List It} (h : Kn p l) (k : Kn p m) : Kn p (l ++ m) := fun t rest => by rw [List.append_assoc, h, k, List.append_assoc]
theorem kn_int {p id : Int} (h : inZ p id ≠ 0) (n : Int) {l : List It} (k : Kn p l) : Kn p (intI id n :: l) := fun t rest => by
  rw [List.cons_append, knownS_cons, if_neg (by simp [intI]), if_neg (by simp [intI]), if_neg (by simpa [intI] using h), k]
  rfl
theorem kn_op {p id q : Int} (hq : inZ p id = q) (h : q ≠ 0) {l : List It} (k : Kn q l) : Kn p (opI id l) := fun t rest => by
  have e : opI id l ++ rest = (⟨3, id, 0, []⟩ : It) :: (l ++ ((⟨4, 0, 0, []⟩ : It) :: rest)) := by simp [opI]
  rw [e, knownS_cons]
  simp only [if_true]
  rw [hq, if_neg h, k, knownS_cons]
  rw [if_neg (by decide), if_pos rfl, if_neg h]
  simp [opI]
theorem kn_flat {E : Type} {p : Int} {f : E → List It} : ∀ (l : List E), (∀ x, Kn p (f x)) → Kn p (l.flatMap f) := by
  intro l h
  induction l with
  | nil => exact kn_nil p
  | cons x l ih => rw [List.flatMap_cons]; exact kn_app (h x) ih
theorem kn_id (x : IdT) : Kn 4 (idI x) := kn_int (by decide) _ (kn_int (by decide) _ (kn_int (by decide) _ (kn_int (by decide) _ (kn_nil _))))
theorem kn_head (x : HeadT) : Kn 5 (headI x) := kn_app (kn_op (q := 4) (by decide) (by decide) (kn_id _)) (kn_int (by decide) _ (kn_int (by decide) _ (kn_nil _)))
theorem kn_edge (x : EdgeT) : Kn 7 (edgeI x) := kn_int (by decide) _ (kn_int (by decide) _ (kn_int (by decide) _ (kn_nil _)))
theorem kn_reach (x : ReachT) : Kn 8 (reachI x) := kn_int (by decide) _ (kn_int (by decide) _ (kn_int (by decide) _ (kn_nil _)))
theorem kn_lie (x : LieT) : Kn 3 (lieI x) := by
  unfold lieI
  iterate 12 refine kn_int (by decide) _ ?_
  exact kn_nil _
theorem kn_tie (x : TieT) : Kn 6 (tieI x) :=
  kn_app (kn_op (q := 5) (by decide) (by decide) (kn_head _)) (kn_app (kn_int (by decide) _ (kn_int (by decide) _ (kn_nil _)))
    (kn_app (kn_flat _ fun e => kn_op (q := 7) (by decide) (by decide) (kn_edge e)) (kn_flat _ fun e => kn_op (q := 8) (by decide) (by decide) (kn_reach e))))
theorem kn_pack (p : PackT) : Kn 2 (packI p) := by
  unfold packI
  refine kn_int (by decide) _ ?_
  split
  · exact kn_op (q := 3) (by decide) (by decide) (kn_lie _)
  split
  · exact kn_op (q := 6) (by decide) (by decide) (kn_tie _)
  split
  · exact kn_app (kn_op (q := 4) (by decide) (by decide) (kn_id _)) (kn_app (kn_op (q := 4) (by decide) (by decide) (kn_id _)) (kn_flat _ fun e => kn_op (q := 5) (by decide) (by decide) (kn_head e)))
  split
  · exact kn_flat _ fun e => kn_op (q := 5) (by decide) (by decide) (kn_head e)
  · exact kn_nil _
/-- ALL OF A PACKET's FIELDS ARE KNOWN. -/
theorem known_pack {p : PackT} (h : packR p = true) : knownP (packI p) = packI p := by
  have := kn_pack p [] []
  rw [List.append_nil, knownS_nil, List.append_nil] at this
  unfold knownP
  rw [if_pos (right_pack h), this]
/-- Fields ahead, and behind, of which none is known. -/
theorem known_amid {p : PackT} (h : packR p = true) {a b : List It} (ha : rightB a = true) (hb : rightB b = true) (ka : knownP a = []) (kb : knownP b = []) : knownS [2] ((a ++ packI p) ++ b) = packI p := by
  unfold knownP at ka kb
  rw [if_pos ha] at ka
  rw [if_pos hb] at kb
  rw [List.append_assoc, known_cat _ _ ha, ka, List.nil_append, kn_pack, kb, List.append_nil]

/-- What is known is some of what is there, in order. -/
theorem known_sub : ∀ (l : List It) (st : List Int), (knownS st l).Sublist l := by
  intro l
  induction l with
  | nil => intro st; rw [knownS_nil]; exact List.Sublist.refl _
  | cons x l ih =>
    intro st
    cases st with
    | nil => exact List.nil_sublist _
    | cons p t =>
      have one : ∀ (c : Prop) [Decidable c] (m : List It), m.Sublist l → ((if c then [] else [x]) ++ m).Sublist (x :: l) := fun c _ m hm => by
        split
        · exact (hm.trans (List.sublist_cons_self _ _))
        · exact List.Sublist.cons_cons x hm
      rw [knownS_cons]
      split
      · exact one _ _ (ih _)
      split
      · exact one _ _ (ih _)
      · exact one _ _ (ih _)
theorem knownP_sub (l : List It) : (knownP l).Sublist l := by
  unfold knownP
  split
  · exact known_sub _ _
  · exact List.nil_sublist _

/-- The places but those that are nowhere. -/
def some0 (st : List Int) : List Int := st.filter fun p => decide (p ≠ 0)
/-- What is known is a record, and all of it is known. -/
theorem known_twice : ∀ (l : List It) (d z : Nat) (s : List Int), d < z + s.length → (∀ p ∈ s, p ≠ 0) → s ≠ [] → rightFrom d l = true →
    rightFrom ((d - z : Nat) : Int) (knownS (List.replicate z 0 ++ s) l) = true ∧ knownS s (knownS (List.replicate z 0 ++ s) l) = knownS (List.replicate z 0 ++ s) l := by
  intro l
  induction l with
  | nil =>
    intro d z s hd hs hn h
    have : d = 0 := by simpa [rightFrom] using h
    subst this
    rw [knownS_nil, knownS_nil]
    exact ⟨by simp [rightFrom], rfl⟩
  | cons x l ih =>
    intro d z s hd hs hn h
    obtain ⟨hsh, h0, h8, h1⟩ := right_step h
    have hid : 0 ≤ x.id := by rcases shape_kinds hsh with ⟨_, _, _, _⟩ | ⟨_, _, _, _⟩ | ⟨_, _, _, _⟩ | ⟨_, _, _⟩ <;> omega
    cases z with
    | zero =>
      cases s with
      | nil => exact absurd rfl hn
      | cons p t =>
        simp only [List.replicate_zero, List.nil_append]
        have hp : p ≠ 0 := hs p (by simp)
        rw [knownS_cons]
        by_cases h3 : x.kind = 3
        · have e : step x d = ((d + 1 : Nat) : Int) := by unfold step; rw [if_pos h3]; omega
          rw [e] at h1 h8
          rw [if_pos h3]
          by_cases hq : inZ p x.id = 0
          · have := ih (d + 1) 1 (p :: t) (by simp at hd ⊢; omega) hs (by simp) h1
            simp only [List.replicate_one, List.cons_append, List.nil_append] at this
            rw [hq, if_pos rfl, List.nil_append]
            exact ⟨by simpa using this.1, this.2⟩
          · have := ih (d + 1) 0 (inZ p x.id :: p :: t) (by simp at hd ⊢; omega) (fun q hm => (List.mem_cons.1 hm).elim (fun e => e ▸ hq) (fun hm => hs q hm)) (by simp) h1
            simp only [List.replicate_zero, List.nil_append] at this
            rw [if_neg hq]
            refine ⟨?_, ?_⟩
            · simp only [List.cons_append, List.nil_append, rightFrom, Bool.and_eq_true, decide_eq_true_eq]
              have e2 : step x ((d - 0 : Nat) : Int) = ((d + 1 : Nat) : Int) := by unfold step; rw [if_pos h3]; omega
              rw [e2]
              exact ⟨⟨hsh, by omega, h8⟩, by simpa using this.1⟩
            · rw [List.cons_append, List.nil_append, knownS_cons, if_pos h3, if_neg hq, this.2]
              rfl
        rw [if_neg h3]
        by_cases h4 : x.kind = 4
        · have e0 : step x d = (d : Int) - 1 := by unfold step; rw [if_neg h3, if_pos h4]
          obtain ⟨k, rfl⟩ : ∃ k, d = k + 1 := ⟨d - 1, by omega⟩
          have e : step x (k + 1 : Nat) = ((k : Nat) : Int) := by rw [e0]; omega
          rw [e] at h1 h8
          rw [if_pos h4, if_neg hp]
          have := ih k 0 t (by simp at hd ⊢; omega) (fun q h => hs q (List.mem_cons_of_mem _ h)) (by rintro rfl; simp at hd) h1
          simp only [List.replicate_zero, List.nil_append] at this
          refine ⟨?_, ?_⟩
          · simp only [List.cons_append, List.nil_append, rightFrom, Bool.and_eq_true, decide_eq_true_eq]
            have e2 : step x ((k + 1 - 0 : Nat) : Int) = ((k : Nat) : Int) := by unfold step; rw [if_neg h3, if_pos h4]; omega
            rw [e2]
            exact ⟨⟨hsh, by omega, h8⟩, by simpa using this.1⟩
          · rw [List.cons_append, List.nil_append, knownS_cons, if_neg h3, if_pos h4, if_neg hp, this.2]
            rfl
        · have e : step x d = (d : Int) := by unfold step; rw [if_neg h3, if_neg h4]
          rw [e] at h1 h8
          rw [if_neg h4]
          have := ih d 0 (p :: t) hd hs hn h1
          simp only [List.replicate_zero, List.nil_append] at this
          by_cases hq : inZ p x.id = 0
          · rw [if_pos hq, List.nil_append]
            exact this
          · rw [if_neg hq]
            refine ⟨?_, ?_⟩
            · simp only [List.cons_append, List.nil_append, rightFrom, Bool.and_eq_true, decide_eq_true_eq]
              have e2 : step x ((d - 0 : Nat) : Int) = ((d : Nat) : Int) := by unfold step; rw [if_neg h3, if_neg h4]; omega
              rw [e2]
              exact ⟨⟨hsh, by omega, h8⟩, by simpa using this.1⟩
            · rw [List.cons_append, List.nil_append, knownS_cons, if_neg h3, if_neg h4, if_neg hq, this.2]
              rfl
    | succ z =>
      rw [List.replicate_succ, List.cons_append, knownS_cons, inZ_zero _ hid]
      simp only [if_true, List.nil_append]
      by_cases h3 : x.kind = 3
      · have e : step x d = ((d + 1 : Nat) : Int) := by unfold step; rw [if_pos h3]; omega
        rw [e] at h1
        rw [if_pos h3]
        have := ih (d + 1) (z + 2) s (by omega) hs hn h1
        rw [show d + 1 - (z + 2) = d - (z + 1) by omega, List.replicate_succ, List.replicate_succ] at this
        exact this
      rw [if_neg h3]
      by_cases h4 : x.kind = 4
      · have e0 : step x d = (d : Int) - 1 := by unfold step; rw [if_neg h3, if_pos h4]
        obtain ⟨k, rfl⟩ : ∃ k, d = k + 1 := ⟨d - 1, by omega⟩
        have e : step x (k + 1 : Nat) = ((k : Nat) : Int) := by rw [e0]; omega
        rw [e] at h1
        rw [if_pos h4]
        have := ih k z s (by omega) hs hn h1
        rw [show k + 1 - (z + 1) = k - z by omega]
        exact this
      · have e : step x d = (d : Int) := by unfold step; rw [if_neg h3, if_neg h4]
        rw [e] at h1
        rw [if_neg h4]
        have := ih d (z + 1) s hd hs hn h1
        rw [List.replicate_succ] at this
        exact this
theorem known_right {l : List It} (h : rightB l = true) : rightB (knownP l) = true ∧ knownP (knownP l) = knownP l := by
  have := known_twice l 0 0 [2] (by decide) (by decide) (by decide) h
  simp only [List.replicate_zero, List.nil_append] at this
  have h1 : rightB (knownS [2] l) = true := this.1
  have e : knownP l = knownS [2] l := by unfold knownP; rw [if_pos h]
  rw [e]
  refine ⟨h1, ?_⟩
  unfold knownP
  rw [if_pos h1]
  exact this.2
end Go.Proofs.YtgngcpbkopjjlaaDoor

/-
  THE PLACES' TABLE IN MEMORY, and the program's inner: which place a field's own fields stand in.
-/
namespace Go.Proofs.YtgngcpbkopjjlaaDoor
open Go.RowKit
set_option linter.unusedVariables false

/-- The table lies where the program's text lays it. -/
def Tab (w : World) : Prop := ∀ i n, flatT[i]? = some n → w.cell? ⟨0, i, none⟩ = some (.int .i64 n)
theorem Tab.pos {w : World} (h : Tab w) : 0 < w.heap.size := by
  have h0 := h 0 0 rfl
  rcases Nat.eq_zero_or_pos w.heap.size with e | e
  · unfold World.cell? at h0
    simp [Array.getElem?_eq_none (by omega : w.heap.size ≤ 0)] at h0
  · exact e
theorem Tab.below {n : Nat} {w w' : World} (h : Tab w) (hb : Below n w w') (hn : 0 < n) : Tab w' := fun i k hi => (hb.cell (p := ⟨0, i, none⟩) hn).trans (h i k hi)

set_option maxHeartbeats 2000000 in
theorem inner_any (p id : Int) (hp : 0 ≤ p ∧ p ≤ 8) (hid : 0 ≤ id ∧ id ≤ 1000) (w : World) (hT : Tab w) :
    Calls Tryd.prog 36 #[.int .i64 p, .int .i64 id] w fun e w' => e = .returned (.int .i64 (inZ p id)) ∧ w' = w := by
  obtain ⟨p', rfl⟩ : ∃ n : Nat, p = n := ⟨p.toNat, by omega⟩
  obtain ⟨i', rfl⟩ : ∃ n : Nat, id = n := ⟨id.toNat, by omega⟩
  by_cases h1 : p' = 1
  · subst h1
    have e : Hid (inZ ((1 : Nat) : Int) i' = 1) := Lib.hid rfl
    go_enter Tryd.func36, Tryd.ntmps36
    go_wp2
    go_ret
    exact ⟨congrArg (fun z => Ending.returned (.int .i64 z)) e.out.symm, rfl⟩
  by_cases h13 : 13 ≤ i'
  · have e : Hid (inZ (p' : Int) i' = 0) := Lib.hid (by unfold inZ; rw [if_neg (by omega), if_pos (by omega)])
    go_enter Tryd.func36, Tryd.ntmps36
    go_wp2
    go_ret
    exact ⟨congrArg (fun z => Ending.returned (.int .i64 z)) e.out.symm, rfl⟩
  · have hlen : flatT.length = 117 := rfl
    obtain ⟨n, hn⟩ : ∃ n, flatT[p' * 13 + i']? = some n := ⟨_, List.getElem?_eq_getElem (by omega)⟩
    have e : Hid (inZ (p' : Int) i' = n) := Lib.hid (by unfold inZ tabZ; rw [if_neg (by omega), if_neg (by omega), Int.toNat_natCast, Int.toNat_natCast, hn]; rfl)
    have c0 := hT _ _ hn
    clear hT hn hlen
    go_enter Tryd.func36, Tryd.ntmps36
    go_wp2
    go_ret
    exact ⟨congrArg (fun z => Ending.returned (.int .i64 z)) e.out.symm, rfl⟩
end Go.Proofs.YtgngcpbkopjjlaaDoor

/-
  THE PLACES' TABLE, as the program's text lays it, read in memory.
-/
namespace Go.Proofs.YtgngcpbkopjjlaaDoor
open Go.RowKit Go.ChangeShapes Go.WideShapes
set_option linter.unusedVariables false

section
variable {H : Type} {enc : TypeId × Value → H} {P : Program} {w : World} {sp : Nat → Bool} {held : Bool} {fuel : Nat}
/-- An array of numbers, by its datum. -/
theorem arr_ints {t e : TypeId} {k : IntKind} {n : Nat} {cs : List Value} {d : DataW H} {p : List MemPlace} (ht : P.underlying t = some (.array n e)) (he : P.underlying e = some (.int k)) (hc : P.cellsOf e = 1)
    (h : DataW.trod enc P w 0 sp held fuel t cs = some (d, p)) (zs : List Int) (hx : d = DataW.agg (zs.map fun z => DataW.lit (Lit.int k z))) : ∀ (i : Nat) (z : Int), zs[i]? = some z → cs[i]? = some (Value.int k z) := by
  obtain ⟨xs, m, rfl, hx1, hlen, hn, hel⟩ := DataW.trod_array ht h
  injection hx1 with hx1 _
  rw [hx] at hx1
  injection hx1 with hx1
  have hzl : zs.length = n := by have := congrArg List.length hx1; simpa [hn] using this
  intro i z hz
  have hi : i < n := by rw [← hzl]; exact (List.getElem?_eq_some_iff.1 hz).1
  have h0 := hel i hi
  rw [hc, Nat.mul_one] at h0
  obtain ⟨y, hy⟩ : ∃ y, xs[i]? = some y := ⟨_, List.getElem?_eq_getElem (by omega)⟩
  rw [hy] at h0
  obtain ⟨q, e1, e2, _⟩ := DataW.trod_int he h0
  have e3 : (zs.map fun z => (DataW.lit (.int k z) : DataW H))[i]? = some y.1 := by rw [hx1, List.getElem?_map, hy]; rfl
  rw [List.getElem?_map, hz, e2] at e3
  simp only [Option.map_some, Option.some.injEq, DataW.lit.injEq, Lit.int.injEq, true_and] at e3
  subst e3
  have e4 : ((cs.drop i).take 1)[0]? = some (.int k z) := by rw [e1]; rfl
  rw [List.getElem?_take, if_pos (by decide), List.getElem?_drop, Nat.add_zero] at e4
  exact e4
/-- An array of arrays of numbers. -/
theorem arr_rows {t u e : TypeId} {k : IntKind} {n m : Nat} {cs : List Value} {d : DataW H} {p : List MemPlace} (ht : P.underlying t = some (.array n u)) (hu : P.underlying u = some (.array m e)) (hc2 : P.cellsOf u = m) (he : P.underlying e = some (.int k)) (hc : P.cellsOf e = 1)
    (h : DataW.trod enc P w 0 sp held fuel t cs = some (d, p)) (zss : List (List Int)) (hx : d = DataW.agg (zss.map fun zs => DataW.agg (zs.map fun z => DataW.lit (Lit.int k z)))) : ∀ (i : Nat) (zs : List Int), zss[i]? = some zs → ∀ (j : Nat) (z : Int), zs[j]? = some z → j < m → cs[i * m + j]? = some (Value.int k z) := by
  obtain ⟨xs, f, rfl, hx1, hlen, hn, hel⟩ := DataW.trod_array ht h
  injection hx1 with hx1 _
  rw [hx] at hx1
  injection hx1 with hx1
  have hzl : zss.length = n := by have := congrArg List.length hx1; simpa [hn] using this
  intro i zs hz j z hj hjm
  have hi : i < n := by rw [← hzl]; exact (List.getElem?_eq_some_iff.1 hz).1
  have h0 := hel i hi
  rw [hc2] at h0
  obtain ⟨y, hy⟩ : ∃ y, xs[i]? = some y := ⟨_, List.getElem?_eq_getElem (by omega)⟩
  rw [hy] at h0
  have e3 : (zss.map fun zs => (DataW.agg (zs.map fun z => DataW.lit (Lit.int k z)) : DataW H))[i]? = some y.1 := by rw [hx1, List.getElem?_map, hy]; rfl
  rw [List.getElem?_map, hz] at e3
  simp only [Option.map_some, Option.some.injEq] at e3
  obtain ⟨y1, y2⟩ := y
  have e4 := arr_ints hu he hc h0 zs e3.symm j z hj
  rw [List.getElem?_take, if_pos hjm, List.getElem?_drop] at e4
  exact e4
end

def rowsT : List (List Int) := [[0, 0, 0, 0, 0, 0, 0, 0, 0, 0, 0, 0, 0], [0, 0, 0, 0, 0, 0, 0, 0, 0, 0, 0, 0, 0], [0, 1, 3, 6, 4, 4, 5, 0, 0, 0, 0, 0, 0], [0, 1, 1, 1, 1, 1, 1, 1, 1, 1, 1, 1, 1], [0, 1, 1, 1, 1, 0, 0, 0, 0, 0, 0, 0, 0], [0, 4, 1, 1, 0, 0, 0, 0, 0, 0, 0, 0, 0], [0, 5, 1, 1, 7, 8, 0, 0, 0, 0, 0, 0, 0], [0, 1, 1, 1, 0, 0, 0, 0, 0, 0, 0, 0, 0], [0, 1, 1, 1, 0, 0, 0, 0, 0, 0, 0, 0, 0]]
theorem rows_flat : ∀ i < 117, flatT[i]? = (rowsT[i / 13]?.bind fun zs => zs[i % 13]?) := by decide
theorem gPlaces : Tryd.prog.globalNamed "selvage/wire.places" = some 0 := by kernel_rfl
theorem tPlaces : (Tryd.prog.globals[0]?).map (·.type) = some 106 := by kernel_rfl
theorem tab_of {W : World} (h : laidMetH Tryd.prog [("selvage/wire.places", Rows.laid_selvage_wire_places)] W) : Tab W := by
  rw [MakeChecks.laidMetH_plain _ _ _ (by kernel_rfl)] at h
  obtain ⟨ps, ⟨g0, t0, cs0, f0, p0, q0, hg0, ht0, hv0, hd0, _⟩, _⟩ := h
  obtain rfl := Option.some.inj (gPlaces.symm.trans hg0)
  obtain rfl := Option.some.inj (tPlaces.symm.trans ht0)
  have hrow := arr_rows Tryd.underlying106 Tryd.underlying105 (by kernel_rfl) Tryd.underlying3 (by kernel_rfl) hd0 rowsT rfl
  intro i n hi
  have hlt : i < 117 := by
    have := (List.getElem?_eq_some_iff.1 hi).1
    simpa [flatT] using this
  rw [rows_flat i hlt] at hi
  rcases hz : rowsT[i / 13]? with _ | zs
  · rw [hz] at hi; cases hi
  · rw [hz] at hi
    have := hrow (i / 13) zs hz (i % 13) n hi (by omega)
    rw [show i / 13 * 13 + i % 13 = i by omega] at this
    rw [World.var?_cell hg0 hv0 i]
    simpa using this
theorem door_met (os : Os) (args : Array Value) : laidMetH Tryd.prog [("selvage/wire.places", Rows.laid_selvage_wire_places)] ((World.doorLaid Tryd.prog 400 os).forCall (fun _ _ => 0) ⟨#[], args, []⟩).memory :=
  laidMetH_of_parts3 (fuel := 8) (laidMet_of_run' 8 (by kernel_rfl) (by kernel_rfl)) (by kernel_rfl) (by kernel_rfl)
end Go.Proofs.YtgngcpbkopjjlaaDoor

/-
  THE ITERATOR OF FIELDS: the function that the program ranges over yields just the fields of "fieldsFrom", each with the place behind it; a round may stop it.
-/
namespace Go.Proofs.YtgngcpbkopjjlaaDoor
open Go.RowKit Go.Shelf
attribute [local go_sem] Oper.semAt_some

/-- The fields that are not within others, from a place on: where each begins, and the place behind it. -/
def fieldsFrom (frm i : Nat) (d : Int) : List It → List (Nat × Nat)
  | [] => []
  | x :: l => if 0 < d + turn x then fieldsFrom frm (i + 1) (d + turn x) l else (frm, i + 1) :: fieldsFrom (i + 1) (i + 1) (d + turn x) l
def fieldsL (l : List It) : List (Nat × Nat) := fieldsFrom 0 0 0 l

theorem below_grown {W W' : World} (h : Below W.heap.size W W') : W.grownBy W' none := ⟨h.os, h.tape, h.output, h.size, fun k hk _ => h.block k hk⟩

/-- A field of a list of that length: where it begins, and the place behind it. -/
structure Fld (n : Nat) where
  fst : Nat
  snd : Nat
  lt : fst < snd
  le : snd ≤ n
def Fld.raw {n : Nat} (l : List (Fld n)) : List (Nat × Nat) := l.map fun x => (x.fst, x.snd)
theorem Fld.raw_snoc {n : Nat} (l : List (Fld n)) (x : Fld n) : Fld.raw (l ++ [x]) = Fld.raw l ++ [(x.fst, x.snd)] := by simp [Fld.raw]
def encF {n : Nat} (x : Fld n) : Array Value := #[.int .i64 (x.fst : Int), .int .i64 (x.snd : Int)]



end Go.Proofs.YtgngcpbkopjjlaaDoor

/-
  THE PROGRAM's Find, walked: the first field of an Id that is not within another one.
-/
namespace Go.Proofs.YtgngcpbkopjjlaaDoor
open Go.RowKit Go.Shelf
attribute [local go_sem] Oper.semAt_some
set_option linter.unusedVariables false

/-- Has the item at a place that Id? -/
def idAt (l : List It) (id : Int) (f : Nat × Nat) : Bool := match l[f.1]? with
  | none => false
  | some x => x.id == id
/-- The first field of that Id. -/
def pfindS (l : List It) (id : Int) : Int × Int × Bool :=
  if rightB l = true then match (fieldsL l).find? (idAt l id) with
    | none => (0, 0, false)
    | some f => (f.1, f.2, true)
  else (0, 0, false)

theorem boxed_below {W W' : World} {B n₀ : Nat} {t : TypeId} {v : Value} (h : Boxed W B t v) (hb : Below n₀ W W') (hB : B < n₀) : Boxed W' B t v := (hb.block B hB).trans h

/-- The five boxes of a call of Find: the list, the Id, and the three results. -/
structure FB (w : World) (sl : Value) (id : Int) (r1 r2 : Int) (r3 : Bool) (W : World) : Prop where
  b0 : Boxed W w.heap.size 42 sl
  b1 : Boxed W (w.heap.size + 1) 3 (.int .i64 id)
  b2 : Boxed W (w.heap.size + 1 + 1) 3 (.int .i64 r1)
  b3 : Boxed W (w.heap.size + 1 + 1 + 1) 3 (.int .i64 r2)
  b4 : Boxed W (w.heap.size + 1 + 1 + 1 + 1) 4 (.bool r3)
  bel : Below w.heap.size w W
  size : w.heap.size + 5 ≤ W.heap.size
theorem FB.start (w : World) (sl : Value) (id : Int) : FB w sl id 0 0 false (((((w.alloc (.cells #[sl] 42)).alloc (.cells #[.int .i64 id] 3)).alloc (.cells #[.int .i64 0] 3)).alloc (.cells #[.int .i64 0] 3)).alloc (.cells #[.bool false] 4)) where
  b0 := ((((Boxed.new w 42 sl).alloc _).alloc _).alloc _).alloc _
  b1 := by
    have h := (((Boxed.new (w.alloc (.cells #[sl] 42)) 3 (.int .i64 id)).alloc (.cells #[.int .i64 0] 3)).alloc (.cells #[.int .i64 0] 3)).alloc (.cells #[.bool false] 4)
    simpa using h
  b2 := by
    have h := ((Boxed.new ((w.alloc (.cells #[sl] 42)).alloc (.cells #[.int .i64 id] 3)) 3 (.int .i64 0)).alloc (.cells #[.int .i64 0] 3)).alloc (.cells #[.bool false] 4)
    simpa using h
  b3 := by
    have h := (Boxed.new (((w.alloc (.cells #[sl] 42)).alloc (.cells #[.int .i64 id] 3)).alloc (.cells #[.int .i64 0] 3)) 3 (.int .i64 0)).alloc (.cells #[.bool false] 4)
    simpa using h
  b4 := by
    have h := Boxed.new ((((w.alloc (.cells #[sl] 42)).alloc (.cells #[.int .i64 id] 3)).alloc (.cells #[.int .i64 0] 3)).alloc (.cells #[.int .i64 0] 3)) 4 (.bool false)
    simpa using h
  bel := ((((((Below.refl _ w).alloc (Nat.le_refl _) _).alloc (by simp) _).alloc (by simp; omega) _).alloc (by simp; omega) _).alloc (by simp; omega) _)
  size := by simp
theorem FB.below {w : World} {sl : Value} {id r1 r2 : Int} {r3 : Bool} {W W' : World} (h : FB w sl id r1 r2 r3 W) (hb : Below W.heap.size W W') : FB w sl id r1 r2 r3 W' where
  b0 := boxed_below h.b0 hb h.b0.lt
  b1 := boxed_below h.b1 hb h.b1.lt
  b2 := boxed_below h.b2 hb h.b2.lt
  b3 := boxed_below h.b3 hb h.b3.lt
  b4 := boxed_below h.b4 hb h.b4.lt
  bel := h.bel.trans (hb.mono (by have := h.size; omega))
  size := Nat.le_trans h.size hb.size


theorem FB.own {w : World} {sl : Value} {id r1 r2 : Int} {r3 : Bool} {W W' : World} {row : Option Nat} (h : FB w sl id r1 r2 r3 W) (hg : W.grownBy W' row) (hr : ∀ r, row = some r → w.heap.size ≤ r ∧ ∃ o : Obj, W.heap[r]? = some o ∧ o.isCells = false) : FB w sl id r1 r2 r3 W' := by
  have ne : ∀ {B : Nat} {t : TypeId} {v : Value}, Boxed W B t v → some B ≠ row := fun {B t v} hb e => by
    obtain ⟨_, o, ho, hc⟩ := hr B e.symm
    rw [show W.heap[B]? = _ from hb] at ho
    injection ho with ho
    subst ho
    cases hc
  exact ⟨h.b0.kept hg (ne h.b0), h.b1.kept hg (ne h.b1), h.b2.kept hg (ne h.b2), h.b3.kept hg (ne h.b3), h.b4.kept hg (ne h.b4), h.bel.grown hg h.bel.size (fun j hj => (hr j hj).1), Nat.le_trans h.size hg.size⟩
theorem FB.drew {w : World} {sl : Value} {id r1 r2 : Int} {r3 : Bool} {W : World} (h : FB w sl id r1 r2 r3 W) : FB w sl id r1 r2 r3 W.drew := ⟨h.b0, h.b1, h.b2, h.b3, h.b4, h.bel.drew, h.size⟩
theorem find_none {n : Nat} {l : List It} {id : Int} {ys : List (Fld n)} (hy : Fld.raw ys = fieldsL l) (h : ∀ f ∈ ys, idAt l id (f.fst, f.snd) = false) : (fieldsL l).find? (idAt l id) = none := by
  rw [← hy, List.find?_eq_none]
  intro f hf
  obtain ⟨g, hg, rfl⟩ := List.mem_map.1 hf
  simp [h g hg]
theorem find_some {n : Nat} {l : List It} {id : Int} {pre : List (Fld n)} {x : Fld n} (hy : Fld.raw (pre ++ [x]) <+: fieldsL l) (h : ∀ f ∈ pre, idAt l id (f.fst, f.snd) = false) (hx : idAt l id (x.fst, x.snd) = true) : (fieldsL l).find? (idAt l id) = some (x.fst, x.snd) := by
  obtain ⟨t, ht⟩ := hy
  rw [← ht, Fld.raw_snoc, List.append_assoc, List.find?_append]
  have h0 : (Fld.raw pre).find? (idAt l id) = none := by
    rw [List.find?_eq_none]
    intro f hf
    obtain ⟨g, hg, rfl⟩ := List.mem_map.1 hf
    simp [h g hg]
  rw [h0]
  simp [hx]
/-- A field of that Id was found, its places stored. -/
def FoundF (w : World) (l : List It) (id : Int) (c : Code) (xs : List (Fld l.length)) (W : World) : Prop :=
  c = .ret ∧ ∃ pre x, xs = pre ++ [x] ∧ (∀ f ∈ pre, idAt l id (f.fst, f.snd) = false) ∧ idAt l id (x.fst, x.snd) = true ∧
    W.cell? ⟨w.heap.size + 1 + 1, 0, none⟩ = some (.int .i64 (x.fst : Nat)) ∧ W.cell? ⟨w.heap.size + 1 + 1 + 1, 0, none⟩ = some (.int .i64 (x.snd : Nat)) ∧ W.cell? ⟨w.heap.size + 1 + 1 + 1 + 1, 0, none⟩ = some (.bool true) ∧ Below w.heap.size w W

end Go.Proofs.YtgngcpbkopjjlaaDoor

/-
  THE PROGRAM's requested: a function value that captures a table of the Ids that are asked for; what it answers.
-/
namespace Go.Proofs.YtgngcpbkopjjlaaDoor
open Go.RowKit
set_option linter.unusedVariables false



/-- Which Ids are asked for: of those that may be. -/
def askedB (zs : List Int) (i : Nat) : Bool := decide (1 ≤ i) && zs.any fun z => z == (i : Int)

theorem ask_out {z : Int} (h : z < 1 ∨ 1000 < z) {i : Nat} (hi : i < 1001) : (decide (1 ≤ i) && (z == (i : Int))) = false := by
  by_cases h1 : 1 ≤ i
  · have h2 : (z == (i : Int)) = false := by simp; omega
    rw [h2, Bool.and_false]
  · simp [h1]
theorem ask_in {m i : Nat} (hm : 1 ≤ m) : (decide (1 ≤ i) && ((m : Int) == (i : Int))) = (i == m) := by
  rw [Bool.eq_iff_iff]
  simp
  omega


end Go.Proofs.YtgngcpbkopjjlaaDoor

/-
  THE PROGRAM's Drop: how memory stands while fields are collected.
-/
namespace Go.Proofs.YtgngcpbkopjjlaaDoor
open Go.RowKit Go.Shelf
attribute [local go_sem] Oper.semAt_some
set_option linter.unusedVariables false

/-- One item more, inside a fence. -/
theorem wpListIn_append_part {F : Fence} {n : Nat} {w : World} {ops : Array Oper} {rest : List Oper} {o : Oper} {a : Act} {Q : Exit → Act → World → Prop} (hgd : o.guard = Option.none) (s x : Operand)
    (ho : o.op = .call { callee := .builtin .append, args := #[s, x], argTypes := #[42, 42] }) (base : Nat) (v : Value) (l : List It) (hs : a.eval s = v) (hown : OwnD w base v l)
    (y : It) (A : Option Addr) (cap : Nat) (h5 : w.ownsRow base 5 1 (.slice A y.bs.length cap) y.bs.length (y.bs.map (Value.int .u8))) (ad : Addr) (c : Nat) (hx : a.eval x = .slice (some ad) 1 c)
    (hcell : ∀ j u, [Value.int .i64 y.kind, .int .i64 y.id, .int .i64 y.n, .slice A y.bs.length cap][j]? = some u → w.cell? (ad.add j) = some u) (hlen : l.length ≤ 1000000) (hbase : base ≤ w.heap.size)
    (h : ∀ v' w', OwnD w' base v' (l ++ [y]) → Below base w w' → w.grownBy w' v.ownBlock → wpListIn F n Tryd.prog ops Q rest (a.put o.dst v') w') : wpListIn F n Tryd.prog ops Q (o :: rest) a w := by
  obtain ⟨i0, hi, hz0, hz1, hz2⟩ := info_parts Tryd.info64
  obtain ⟨xs, hrow, hl, hc⟩ := hown
  refine wpListIn_append_own w hgd s x 42 ho base 64 i0 _ 4 48 Tryd.underlying42 hi hz0 hz1 hz2 rfl (by decide) v l.length xs hs hrow ad 1 c _ hx rfl hcell (by intro u hu; simp at hu; rcases hu with rfl | rfl | rfl | rfl <;> rfl) (by unfold maxLen; omega) (by omega) hbase ?_
  intro v' w' h1 h2 _
  refine h v' w' ⟨_, by rw [List.length_append]; exact h1, by rw [List.length_append, List.length_append, hl]; simp only [List.length_cons, List.length_nil]; omega, fun j z hz => ?_⟩ ((Below.refl base w).grown h2 hbase (fun j hj => (hrow.lt j hj).1)) h2
  rcases Nat.lt_or_ge j l.length with hj | hj
  · rw [List.getElem?_append_left hj] at hz
    obtain ⟨c0, c1, c2, B, cb, c3, k5⟩ := hc j z hz
    exact ⟨by rw [List.getElem?_append_left (by omega)]; exact c0, by rw [List.getElem?_append_left (by omega)]; exact c1, by rw [List.getElem?_append_left (by omega)]; exact c2, B, cb, by rw [List.getElem?_append_left (by omega)]; exact c3, own_grown k5 h2 (own_types k5 hrow)⟩
  · rw [List.getElem?_append_right hj] at hz
    obtain ⟨i, hi'⟩ : ∃ i, j - l.length = i := ⟨_, rfl⟩
    rw [hi'] at hz
    cases i with
    | succ i => simp at hz
    | zero =>
      simp only [List.getElem?_cons_zero, Option.some.injEq] at hz
      subst hz
      obtain rfl : j = l.length := by omega
      refine ⟨?_, ?_, ?_, A, cap, ?_, own_grown h5 h2 (own_types h5 hrow)⟩
      · rw [List.getElem?_append_right (by omega), show l.length * 4 - xs.length = 0 by omega]; rfl
      · rw [List.getElem?_append_right (by omega), show l.length * 4 + 1 - xs.length = 1 by omega]; rfl
      · rw [List.getElem?_append_right (by omega), show l.length * 4 + 2 - xs.length = 2 by omega]; rfl
      · rw [List.getElem?_append_right (by omega), show l.length * 4 + 3 - xs.length = 3 by omega]; rfl

/-- A row of items stays where another block is turned. -/
theorem OwnD.kept {w w' : World} {base : Nat} {v : Value} {l : List It} {row : Option Nat} (h : OwnD w base v l) (hg : w.grownBy w' row) (hne : ∀ r cs t z, row = some r → w.heap[r]? = some (.cells cs t z) → t ≠ 64 ∧ t ≠ 5) : OwnD w' base v l := by
  obtain ⟨xs, ho, hl, hc⟩ := h
  have ne : ∀ {b s n : Nat} {e : TypeId} {u : Value} {ys : List Value}, (e = 64 ∨ e = 5) → w.ownsRow b e s u n ys → ∀ g, u.ownBlock = some g → some g ≠ row := fun he k g hg' e' => by
    rcases k.2 with ⟨rfl, _⟩ | ⟨g1, _, cur, rfl, _, hh, _⟩
    · simp [Value.ownBlock] at hg'
    · have e1 : g1 = g := by simpa [Value.ownBlock] using hg'
      subst e1
      obtain ⟨n1, n2⟩ := hne g1 cur _ _ e'.symm hh
      rcases he with he | he
      · exact n1 he
      · exact n2 he
  refine ⟨xs, own_grown ho hg (ne (.inl rfl) ho), hl, fun j x hx => ?_⟩
  obtain ⟨c0, c1, c2, A, cap, c3, h5⟩ := hc j x hx
  exact ⟨c0, c1, c2, A, cap, c3, own_grown h5 hg (ne (.inr rfl) h5)⟩
theorem OwnD.block {w : World} {base : Nat} {v : Value} {l : List It} (h : OwnD w base v l) : ∀ g, v.ownBlock = some g → base ≤ g ∧ ∃ cs, w.heap[g]? = some (.cells cs 64 (0, 0)) := by
  obtain ⟨xs, ho, _⟩ := h
  intro g hg
  refine ⟨(ho.lt g hg).1, ?_⟩
  rcases ho.2 with ⟨rfl, _⟩ | ⟨g1, _, cur, rfl, _, hh, _⟩
  · simp [Value.ownBlock] at hg
  · have e1 : g1 = g := by simpa [Value.ownBlock] using hg
    subst e1
    exact ⟨cur, hh⟩


theorem run_store_funcv {P : Program} {w : World} {a : Addr} {m : Mode} (f : Fn) (x y : Array Value) : (store a (.func f x y) m).run P w = stored P w a (.func f x y) m := run_store P w a _ m rfl
attribute [local go_sem] run_store_funcv
theorem cutG {A G : Prop} (h : G → A) (g : G) : A := h g
theorem RdI.part {n₀ : Nat} {w : World} {b off : Nat} {l : List It} (h : RdI n₀ w (some ⟨b, off, none⟩) l) (j m : Nat) : RdI n₀ w (some ⟨b, off + j * 4, none⟩) ((l.drop j).take m) := fun hp => by
  rw [List.length_take, List.length_drop] at hp
  obtain ⟨b', off', e, hb, hc⟩ := h (by omega)
  injection e with e
  injection e with e1 e2
  subst e1 e2
  refine ⟨b, off + j * 4, rfl, hb, fun i x hx => ?_⟩
  have hi : i < m := by
    rcases Nat.lt_or_ge i m with h1 | h1
    · exact h1
    · rw [List.getElem?_eq_none (by rw [List.length_take]; omega)] at hx; cases hx
  rw [List.getElem?_take, if_pos hi, List.getElem?_drop] at hx
  obtain ⟨c0, c1, c2, A, cap, c3, h1, h2, hr⟩ := hc (j + i) x hx
  rw [show off + (j + i) * 4 = off + j * 4 + i * 4 by omega] at c0 c1 c2 c3
  exact ⟨c0, c1, c2, A, cap, c3, h1, h2, hr⟩
theorem right_ids {l : List It} (h : rightB l = true) {j : Nat} {x : It} (hx : l[j]? = some x) : 0 ≤ x.id ∧ x.id ≤ 1000 := by
  rcases shape_kinds (right_shape l 0 h x (List.mem_of_getElem? hx)) with ⟨_, _, _, _⟩ | ⟨_, _, _, _⟩ | ⟨_, _, _, _⟩ | ⟨_, _, _⟩ <;> omega

theorem keeps_below {W W' : World} (h : Below W.heap.size W W') : KeepsOthers W W' := ⟨h.size, fun k o hk _ => (h.block k (Array.getElem?_eq_some_iff.1 hk).1).trans hk⟩
theorem keeps_grown {W W' : World} {row : Option Nat} (h : W.grownBy W' row) (hr : ∀ r, row = some r → ∃ cs t z, W.heap[r]? = some (.cells cs t z)) : KeepsOthers W W' := ⟨h.size, fun k o hk ho => by
  refine (h.block k (Array.getElem?_eq_some_iff.1 hk).1 (fun e => ?_)).trans hk
  obtain ⟨cs, t, z, hc⟩ := hr k e.symm
  rw [hk] at hc
  injection hc with hc
  subst hc
  cases ho⟩
theorem ownD_ne {W : World} {base : Nat} {v : Value} {l : List It} (h : OwnD W base v l) {B : Nat} {cs : Array Value} {t : TypeId} {z : Nat × Nat} (hb : W.heap[B]? = some (.cells cs t z)) (ht : t ≠ 64) : some B ≠ v.ownBlock := fun e => by
  obtain ⟨_, cs', hc⟩ := h.block B e.symm
  rw [hb] at hc
  injection hc with hc
  injection hc with _ h2
  exact ht h2

/-- The fields whose Ids are asked for. -/
def keptF (l : List It) (zs : List Int) (f : Nat × Nat) : List It := if askedB zs ((l[f.1]?.map It.id).getD 0).toNat = true then (l.drop f.1).take (f.2 - f.1) else []
def pdropS (l : List It) (zs : List Int) : List It := if rightB l = true then (fieldsL l).flatMap (keptF l zs) else []
def keptL {n : Nat} (l : List It) (zs : List Int) (fs : List (Fld n)) : List It := (Fld.raw fs).flatMap (keptF l zs)
theorem keptL_snoc {n : Nat} (l : List It) (zs : List Int) (fs : List (Fld n)) (x : Fld n) : keptL l zs (fs ++ [x]) = keptL l zs fs ++ keptF l zs (x.fst, x.snd) := by
  unfold keptL
  rw [Fld.raw_snoc, List.flatMap_append]
  simp


/-- What Drop returns: items in memory of their own. -/
def GotD (m : List It) (w : World) (e : Ending) (w' : World) : Prop :=
  ∃ A n c, e = .returned (.slice A n c) ∧ n = m.length ∧ n ≤ c ∧ c ≤ maxLen ∧ RdI w'.heap.size w' A m ∧ Below w.heap.size w w'

end Go.Proofs.YtgngcpbkopjjlaaDoor

/-
  THE PROGRAM's Known: a record without the fields that the schema does not list, in memory of its own.
-/
namespace Go.Proofs.YtgngcpbkopjjlaaDoor
open Go.RowKit
set_option linter.unusedVariables false

/-- Blocks of some types stay as they were. -/
def Stay (T : TypeId → Prop) (w w' : World) : Prop := w.heap.size ≤ w'.heap.size ∧ ∀ (k : Nat) (cs : Array Value) (t : TypeId) (z : Nat × Nat), w.heap[k]? = some (.cells cs t z) → T t → w'.heap[k]? = some (.cells cs t z)
theorem Stay.trans {T : TypeId → Prop} {a b c : World} (h : Stay T a b) (k : Stay T b c) : Stay T a c := ⟨Nat.le_trans h.1 k.1, fun i cs t z hi ht => k.2 i cs t z (h.2 i cs t z hi ht) ht⟩
theorem Stay.below {T : TypeId → Prop} {w w' : World} (h : Below w.heap.size w w') : Stay T w w' := ⟨h.size, fun k cs t z hk _ => (h.block k (Array.getElem?_eq_some_iff.1 hk).1).trans hk⟩
theorem Stay.grown {T : TypeId → Prop} {w w' : World} {row : Option Nat} (h : w.grownBy w' row) (hr : ∀ r cs t z, row = some r → w.heap[r]? = some (.cells cs t z) → ¬ T t) : Stay T w w' := ⟨h.size, fun k cs t z hk ht => by
  refine (h.block k (Array.getElem?_eq_some_iff.1 hk).1 (fun e => ?_)).trans hk
  exact hr k cs t z e.symm hk ht⟩
theorem Stay.set {T : TypeId → Prop} {w w' : World} (h : Stay T w w') {B : Nat} (hB : w.heap.size ≤ B) (j : Nat) (v : Value) : Stay T w (w'.setCell ⟨B, j, none⟩ v) := ⟨by simpa [World.setCell] using h.1, fun k cs t z hk ht => by
  rw [Below.heap_setCell _ _ _ _ (by have := (Array.getElem?_eq_some_iff.1 hk).1; show k ≠ B; omega)]
  exact h.2 k cs t z hk ht⟩
theorem Stay.turn {T : TypeId → Prop} {w : World} {B : Nat} {cs : Array Value} {t : TypeId} {z : Nat × Nat} (hb : w.heap[B]? = some (.cells cs t z)) (ht : ¬ T t) (j : Nat) (v : Value) : Stay T w (w.setCell ⟨B, j, none⟩ v) := ⟨by simp [World.setCell], fun k c1 t1 z1 hk ht1 => by
  rw [Below.heap_setCell _ _ _ _ (fun e => ?_)]
  · exact hk
  · simp only at e
    subst e
    rw [hb] at hk
    injection hk with hk
    injection hk with _ h2
    subst h2
    exact ht ht1⟩
theorem Stay.own {T : TypeId → Prop} {w w' : World} {b : Nat} {e : TypeId} {s n : Nat} {v : Value} {xs : List Value} (h : Stay T w w') (he : T e) (ho : w.ownsRow b e s v n xs) : w'.ownsRow b e s v n xs := by
  obtain ⟨h1, h2⟩ := ho
  refine ⟨h1, ?_⟩
  rcases h2 with h2 | ⟨g, cap, cur, hv, hg, hh, r⟩
  · exact .inl h2
  · exact .inr ⟨g, cap, cur, hv, hg, h.2 g cur e _ hh he, r⟩
def isRow (t : TypeId) : Prop := t = 64 ∨ t = 5
def isNum (t : TypeId) : Prop := t = 3
theorem Stay.ownD {w w' : World} {b : Nat} {v : Value} {l : List It} (h : Stay isRow w w') (ho : OwnD w b v l) : OwnD w' b v l := by
  obtain ⟨xs, h1, h2, h3⟩ := ho
  refine ⟨xs, h.own (.inl rfl) h1, h2, fun j x hx => ?_⟩
  obtain ⟨c0, c1, c2, A, cap, c3, h5⟩ := h3 j x hx
  exact ⟨c0, c1, c2, A, cap, c3, h.own (.inr rfl) h5⟩
theorem num_row : ¬ isRow 3 := by unfold isRow; decide
theorem item_num' : ¬ isNum 64 := by unfold isNum; decide
theorem own_typ {w : World} {b : Nat} {e : TypeId} {s n : Nat} {v : Value} {xs : List Value} (ho : w.ownsRow b e s v n xs) (T : TypeId → Prop) (hT : ¬ T e) : ∀ r cs t z, v.ownBlock = some r → w.heap[r]? = some (.cells cs t z) → ¬ T t := by
  intro r cs t z hr hh
  rcases ho.2 with ⟨rfl, _⟩ | ⟨g1, _, cur, rfl, _, h1, _⟩
  · simp [Value.ownBlock] at hr
  · have e1 : g1 = r := by simpa [Value.ownBlock] using hr
    subst e1
    rw [h1] at hh
    injection hh with hh
    injection hh with _ h2
    subst h2
    exact hT

/-- Bytes appended to none: a copy. -/
theorem wpList_append_copy {w : World} {ops : Array Oper} {rest : List Oper} {o : Oper} {a : Act} {Q : Exit → Act → World → Prop} (hgd : o.guard = Option.none) (s x : Operand)
    (ho : o.op = .call { callee := .builtin .append, args := #[s, x], argTypes := #[22, 22] }) (hs : a.eval s = .slice none 0 0) (A : Option Addr) (n c : Nat) (zs : List Int) (hx : a.eval x = .slice A n c) (hn : n = zs.length) (hlen : zs.length ≤ 1000000) {n₀ : Nat} (hr : Rd .u8 n₀ w A zs)
    (h : ∀ A' c' w', w'.ownsRow w.heap.size 5 1 (.slice A' zs.length c') zs.length (zs.map (Value.int .u8)) → Below w.heap.size w w' → wpList Tryd.prog ops Q rest (a.put o.dst (.slice A' zs.length c')) w') : wpList Tryd.prog ops Q (o :: rest) a w := by
  obtain ⟨i0, hi, hz0, hz1, hz2⟩ := info_parts Tryd.info5
  subst hn
  cases A with
  | none =>
    have hz : zs.length = 0 := by
      rcases Nat.eq_zero_or_pos zs.length with h | h
      · exact h
      · obtain ⟨_, _, h', _⟩ := hr h; cases h'
    obtain rfl := List.eq_nil_of_length_eq_zero hz
    refine wpList_append_nilc hgd s x 22 ho w.heap.size 5 i0 1 Tryd.underlying22 hi _ _ _ hs (World.ownsRow_nil _ _ _ _) 0 c hx rfl ?_
    exact h none 0 w (World.ownsRow_nil _ _ _ _) (Below.refl _ _)
  | some ad =>
    refine wpList_append_own _ hgd s x 22 ho w.heap.size 5 i0 (.int .u8 0) 1 1 Tryd.underlying22 hi hz0 hz1 hz2 rfl (by decide) (.slice none 0 0) 0 _ hs (World.ownsRow_nil _ _ _ _) ad zs.length c (zs.map (Value.int .u8)) hx (by simp) hr.news (one_u8 _) (by unfold maxLen; omega) (by omega) (Nat.le_refl _) ?_
    intro v1 X1 ho hg hn
    rw [Nat.zero_add, List.nil_append] at ho
    obtain ⟨V1, m1, rfl, _⟩ := own_form ho
    exact h V1 m1 X1 ho ((Below.refl w.heap.size w).grown hg (Nat.le_refl _) (fun j hj => by simp [Value.ownBlock] at hj))

/-- How the loop stands. -/
def KRel (l : List It) (w : World) (kv av iv : Value) (wr : World) : Prop :=
  ∃ (i : Nat) (q : Int) (t : List Int) (pre : List It), i ≤ l.length ∧ pre.length ≤ i ∧ iv = .int .i64 i ∧ (∀ y ∈ q :: t, 0 ≤ y ∧ y ≤ 8) ∧ t.length ≤ 8 ∧ OwnD wr w.heap.size kv pre ∧
    wr.ownsRow w.heap.size 3 1 av (t.length + 1) ((q :: t).reverse.map (Value.int .i64)) ∧ knownP l = pre ++ knownS (q :: t) (l.drop i) ∧ rightFrom t.length (l.drop i) = true ∧ Below w.heap.size w wr
theorem own_short {w : World} {b : Nat} {e : TypeId} {A : Option Addr} {n c : Nat} {xs : List Value} (h : w.ownsRow b e 1 (.slice A (n + 1) c) (n + 1) xs) : w.ownsRow b e 1 (.slice A n c) n (xs.take n) := by
  obtain ⟨h1, h2⟩ := h
  refine ⟨by rw [List.length_take]; omega, ?_⟩
  rcases h2 with ⟨_, h0⟩ | ⟨g, cap, cur, hv, hg, hh, hc, hm, hs, hx⟩
  · omega
  · injection hv with e1 _ e3
    subst e1 e3
    refine .inr ⟨g, c, cur, rfl, hg, hh, by omega, hm, hs, ?_⟩
    rw [← hx, List.take_take]
    congr 1
    omega
theorem own_top {w : World} {b : Nat} {e : TypeId} {v : Value} {n : Nat} {q : Int} {t : List Int} (hn : n = t.length) (h : w.ownsRow b e 1 v (n + 1) ((q :: t).reverse.map (Value.int .i64))) : ∃ g c, v = .slice (some ⟨g, 0, none⟩) (n + 1) c ∧ n + 1 ≤ c ∧ c ≤ maxLen ∧ w.cell? ⟨g, n, none⟩ = some (.int .i64 q) := by
  rcases h.2 with ⟨_, h0⟩ | ⟨g, cap, cur, rfl, hg, hh, hc, hm, hs, hx⟩
  · omega
  · refine ⟨g, cap, rfl, hc, hm, ?_⟩
    rw [cell_of_row w g n cur e (0, 0) hh]
    have : (cur.toList.take ((n + 1) * 1))[n]? = some (.int .i64 q) := by
      rw [hx, List.getElem?_map, List.reverse_cons, List.getElem?_append_right (by simp; omega)]
      simp [hn]
    rw [List.getElem?_take, if_pos (by omega)] at this
    simpa using this
theorem Tab.alloc {w : World} (h : Tab w) (o : Obj) : Tab (w.alloc o) := h.below ((Below.refl _ _).alloc (Nat.le_refl _) o) h.pos
theorem Tab.drewN {w : World} (h : Tab w) (n : Nat) : Tab (w.drewN n) := h
theorem inner_q (p id : Int) (q : Int) (hq : inZ p id = q) (hp : 0 ≤ p ∧ p ≤ 8) (hid : 0 ≤ id ∧ id ≤ 1000) (w : World) (hT : Tab w) : Calls Tryd.prog 36 #[.int .i64 p, .int .i64 id] w fun e w' => e = .returned (.int .i64 q) ∧ w' = w := hq ▸ inner_any p id hp hid w hT
theorem one_int (n : Int) : ∀ u ∈ [Value.int .i64 n], u.oneCell' = true := by intro u hu; simp at hu; subst hu; rfl

/-- How memory stands within a round: the places' stack, the item's box; what was there is as it was. -/
structure KS (w wr W : World) (av : Value) (n : Nat) (xs : List Value) (vals : Array Value) : Prop where
  low : Below w.heap.size wr W
  row : Stay isRow wr W
  num : W.ownsRow w.heap.size 3 1 av n xs
  box : Box W wr.heap.size vals
theorem KS.start {w wr : World} {av : Value} {n : Nat} {xs : List Value} (hbs : w.heap.size ≤ wr.heap.size) (ha : wr.ownsRow w.heap.size 3 1 av n xs) (vals : Array Value) (m : Nat) : KS w wr ((wr.alloc (.cells vals 64)).drewN m) av n xs vals :=
  have hb : Below wr.heap.size wr ((wr.alloc (.cells vals 64)).drewN m) := below_drewN ((Below.refl _ _).alloc (Nat.le_refl _) _) m
  ⟨hb.mono hbs, Stay.below hb, (Stay.below (T := isNum) hb).own rfl ha, heap_alloc_new wr _⟩
theorem KS.below {w wr W W' : World} {av : Value} {n : Nat} {xs : List Value} {vals : Array Value} (h : KS w wr W av n xs vals) (hb : Below W.heap.size W W') (hbs : w.heap.size ≤ wr.heap.size) : KS w wr W' av n xs vals :=
  ⟨h.low.trans (hb.mono (by have := h.low.size; omega)), h.row.trans (Stay.below hb), (Stay.below (T := isNum) hb).own rfl h.num, h.box.below hb h.box.lt⟩
theorem KS.grow {w wr W w7 : World} {av av' : Value} {n n' : Nat} {xs xs' : List Value} {vals : Array Value} (h : KS w wr W av n xs vals) (hbs : w.heap.size ≤ wr.heap.size) (hg : W.grownBy w7 av.ownBlock) (ho : w7.ownsRow w.heap.size 3 1 av' n' xs') : KS w wr w7 av' n' xs' vals :=
  ⟨h.low.grown hg (by have := h.low.size; omega) (fun j hj => (h.num.lt j hj).1), h.row.trans (Stay.grown hg (own_typ h.num isRow num_row)), ho,
    Box.grown h.box hg h.box.lt (fun e => own_typ h.num (fun t => t = 64) (by decide) _ _ _ _ e.symm h.box rfl)⟩
theorem KS.put {w wr W : World} {av : Value} {n : Nat} {xs : List Value} {a b c d : Value} (h : KS w wr W av n xs #[a, b, c, d]) (hbs : w.heap.size ≤ wr.heap.size) (v : Value) : KS w wr (W.setCell ⟨wr.heap.size, 3, none⟩ v) av n xs #[a, b, c, v] :=
  ⟨h.low.setCell (p := ⟨wr.heap.size, 3, none⟩) hbs v, h.row.set (Nat.le_refl _) 3 v, (Stay.turn (T := isNum) h.box item_num' 3 v).own rfl h.num, by simpa using Box.set_ h.box 3 v⟩
theorem KS.bytes {w wr W : World} {av : Value} {n : Nat} {xs : List Value} {vals : Array Value} (h : KS w wr W av n xs vals) {b k : Nat} {u : Value} {ys : List Value} (ho : W.ownsRow b 5 1 u k ys) (v : Value) : (W.setCell ⟨wr.heap.size, 3, none⟩ v).ownsRow b 5 1 u k ys :=
  (Stay.turn (T := fun t => t = 5) h.box (by decide) 3 v).own rfl ho
theorem KS.short {w wr W : World} {A : Option Addr} {n c : Nat} {xs : List Value} {vals : Array Value} (h : KS w wr W (.slice A (n + 1) c) (n + 1) xs vals) : KS w wr W (.slice A n c) n (xs.take n) vals := ⟨h.low, h.row, own_short h.num, h.box⟩
/-- An item was kept. -/
theorem KS.kept {w wr W X : World} {av kv : Value} {n : Nat} {xs : List Value} {vals : Array Value} {pre : List It} (h : KS w wr W av n xs vals) (ho : OwnD W w.heap.size kv pre) (hg : W.grownBy X kv.ownBlock) : X.ownsRow w.heap.size 3 1 av n xs := by
  obtain ⟨ys, h1, _⟩ := ho
  exact (Stay.grown (T := isNum) hg (own_typ h1 isNum item_num')).own rfl h.num
theorem rev_take {q : Int} {t : List Int} {n : Nat} (hn : n = t.length) : ((q :: t).reverse.map (Value.int .i64)).take n = t.reverse.map (Value.int .i64) := by
  rw [List.reverse_cons, List.map_append, List.take_left' (by simp [hn])]
theorem rev_cons (p q : Int) (t : List Int) : (q :: t).reverse.map (Value.int .i64) ++ [Value.int .i64 p] = (p :: q :: t).reverse.map (Value.int .i64) := by simp

set_option maxHeartbeats 16000000 in
set_option maxRecDepth 100000 in
theorem wknown_yes (a : Option Addr) (cap : Nat) (l : List It) (hlen : l.length ≤ 100000) (hbl : ∀ x ∈ l, x.bs.length ≤ 1000000) (w : World) (hr : RdI w.heap.size w a l) (hT : Tab w) (hR : rightB l = true) :
    Calls Tryd.prog 13 #[.slice a l.length cap] w (GotD (knownP l) w) := by
  have hright := pright_any a cap l (by omega) w hr
  rw [hR] at hright
  obtain ⟨i3, hi, hz0, hz1, hz2⟩ := info_parts Tryd.info3
  have hsh := Lib.hid (right_shape l 0 hR)
  have HRR := Lib.hid hR
  have HR := Lib.hid hr
  have HT := Lib.hid hT
  have hT0 := hT.pos
  clear hr hT hR
  go_enter Tryd.func13, Tryd.ntmps13
  go_wp2_with (go_at_call 16; refine hright.mono ?_; rintro e w1 ⟨rfl, hb1⟩; have H1 := Lib.hid hb1; clear hb1)
  go_loopw [3, 4, 15] (fun kv av iv wr => KRel l w kv av iv wr) (fun _ _ iv _ => l.length - (intOf iv).toNat)
  case atStart => exact ⟨0, 2, [], [], Nat.zero_le _, Nat.le_refl _, rfl, by simp, Nat.zero_le _, OwnD.nil _ _, ⟨rfl, .inr ⟨_, 1, #[.int .i64 2], rfl, H1.out.size, World.alloc_heap_new w1 _, Nat.le_refl _, by unfold maxLen; omega, rfl, rfl⟩⟩, by rw [List.nil_append]; unfold knownP; rw [if_pos HRR.out]; rfl, HRR.out, H1.out.alloc H1.out.size _⟩
  case round =>
    obtain ⟨i, q, t, pre, hil, hpi, rfl, hqs, ht8, hown, har, hkn, hrf, hbel⟩ := hrel
    have hbs := hbel.size
    have HO := Lib.hid hown
    have HB := Lib.hid hbel
    obtain ⟨n, hn⟩ : ∃ n, n = t.length := ⟨_, rfl⟩
    rw [← hn] at har ht8 hrf
    obtain ⟨g, c, rfl, hgc, hcm, hq0⟩ := own_top hn har
    have HA := Lib.hid har
    have HN := Lib.hid hn
    have hg0 := har.lt g rfl
    unfold maxLen at hcm
    clear hown hbel har hn
    by_cases hlt : i < l.length
    · obtain ⟨b, off, rfl, hb, hc⟩ := HR.out (by omega)
      obtain ⟨x, hx⟩ : ∃ x, l[i]? = some x := ⟨_, List.getElem?_eq_getElem hlt⟩
      obtain ⟨c0, c1, c2, A, cx, c3, hxc, hxm, hrb⟩ := hc i x hx
      have g0 := (HB.out.cell (p := ⟨b, off + i * 4, none⟩) hb).trans c0
      have g1 := (HB.out.cell (p := ⟨b, off + i * 4 + 1, none⟩) hb).trans c1
      have g2 := (HB.out.cell (p := ⟨b, off + i * 4 + 2, none⟩) hb).trans c2
      have g3 := (HB.out.cell (p := ⟨b, off + i * 4 + 3, none⟩) hb).trans c3
      have hdr : l.drop i = x :: l.drop (i + 1) := by rw [List.drop_eq_getElem_cons hlt]; congr 1; rw [List.getElem?_eq_getElem hlt] at hx; exact Option.some.inj hx
      rw [hdr] at hkn hrf
      obtain ⟨hsx, h0, h8, hrf1⟩ := right_step hrf
      have hbx := hbl x (List.mem_of_getElem? hx)
      have hid : 0 ≤ x.id ∧ x.id ≤ 1000 := by rcases shape_kinds hsx with ⟨_, _, _, _⟩ | ⟨_, _, _, _⟩ | ⟨_, _, _, _⟩ | ⟨_, _, _⟩ <;> omega
      have hkd := shape_kinds hsx
      rw [knownS_cons] at hkn
      obtain ⟨pl, hpl⟩ : ∃ pl, inZ q x.id = pl := ⟨_, rfl⟩
      rw [hpl] at hkn
      have hplr : 0 ≤ pl ∧ pl ≤ 8 := by rw [← hpl]; exact inZ_range q x.id
      have hin := fun W (hW : Tab W) => inner_q q x.id pl hpl (hqs q (by simp)) hid W hW
      have HIN := Lib.hid hin
      have HTW := Lib.hid (HT.out.below HB.out hT0)
      have RB := Lib.hid (hrb.below HB.out)
      have HQ := Lib.hid hqs
      obtain ⟨k, id, nn, bs⟩ := x
      simp only at *
      have j0 : (0 : Int) ≤ (n : Int) := Int.natCast_nonneg _
      have j1 : (n : Int) < ((n : Nat) : Int) + 1 := by omega
      have hcn : ¬ c = n := by omega
      clear hc c0 c1 c2 c3 hx hdr hrf hsx hin hpl hrb hqs hbl
      have hk4 : k = 1 ∨ k = 2 ∨ k = 3 ∨ k = 4 := by rcases hkd with ⟨h, _⟩ | ⟨h, _⟩ | ⟨h, _⟩ | ⟨h, _⟩ <;> omega
      clear hkd
      obtain rfl | rfl | rfl | rfl := hk4
      · have hst : step (⟨1, id, nn, bs⟩ : It) (n : Int) = (n : Int) := rfl
        rw [hst] at hrf1
        have HRF := Lib.hid hrf1
        rw [if_neg (by decide), if_neg (by decide)] at hkn
        clear hst hrf1
        by_cases hp0 : pl = 0
        · rw [if_pos hp0, List.nil_append] at hkn
          have HKN : Hid (knownP l = pre ++ knownS (q :: t) (l.drop (i + 1))) := Lib.hid hkn
          have hpb : (pl != 0) = false := by simpa using hp0
          clear hkn hp0
          go_wp2
          go_quiet ((go_at_call 36; exact Calls.quiet_of_same (HIN.out _ (Tab.drewN (Tab.alloc HTW.out _) _))))
          have K2 := Lib.hid (KS.start hbs HA.out #[.int .i64 1, .int .i64 id, .int .i64 nn, .slice A bs.length cx] nq)
          go_wp2
          go_roundw
          case rel => exact ⟨i + 1, q, t, pre, by omega, by omega, by go_num, HQ.out, by rw [← HN.out]; exact ht8, K2.out.row.ownD HO.out, by rw [← HN.out]; exact K2.out.num, HKN.out, by rw [← HN.out]; exact HRF.out, HB.out.trans K2.out.low⟩
          case measure => simp [intOf]; omega
        · rw [if_neg hp0] at hkn
          have HKN : Hid (knownP l = (pre ++ [⟨1, id, nn, bs⟩]) ++ knownS (q :: t) (l.drop (i + 1))) := Lib.hid (by rw [hkn, List.append_assoc])
          have hpb : (pl != 0) = true := by simpa using hp0
          clear hkn hp0
          go_wp2
          go_quiet ((go_at_call 36; exact Calls.quiet_of_same (HIN.out _ (Tab.drewN (Tab.alloc HTW.out _) _))))
          have K2 := Lib.hid (KS.start hbs HA.out #[.int .i64 1, .int .i64 id, .int .i64 nn, .slice A bs.length cx] nq)
          go_wp2_with (first
          | (at_builtin; refine wpList_append_copy rfl _ _ rfl rfl A bs.length cx bs rfl rfl (by omega) (RB.out.below K2.out.low) ?_; intro A8 c8 w8 ho8 hb8; have K8 := Lib.hid (K2.out.below hb8 hbs); have e0 := K8.out.box.cell 0; have e1 := K8.out.box.cell 1; have e2 := K8.out.box.cell 2; have e3 := K8.out.box.cell 3; have ef := K8.out.box.frozen 3; have K9 := Lib.hid (K8.out.put hbs (.slice A8 bs.length c8)); have O9 := Lib.hid (show (w8.setCell ⟨wr.heap.size, 3, none⟩ (.slice A8 bs.length c8)).ownsRow w.heap.size 5 1 (.slice A8 bs.length c8) bs.length (bs.map (Value.int .u8)) from own_mono (K8.out.bytes ho8 (.slice A8 bs.length c8)) (by have := K2.out.low.size; omega)); have z9 := K9.out.box.lt; simp only [List.getElem?_toArray] at e0 e1 e2 e3; clear ho8 hb8)
          | (at_builtin; refine wpList_append_part rfl _ _ rfl w.heap.size _ pre rfl ((K9.out.row.trans (Stay.below ((Below.refl _ _).alloc (Nat.le_refl _) (.cells #[.int .i64 1, .int .i64 id, .int .i64 nn, .slice A8 bs.length c8] 64)))).ownD HO.out) ⟨1, id, nn, bs⟩ A8 c8 (own_below O9.out ((Below.refl _ _).alloc (Nat.le_refl _) (.cells #[.int .i64 1, .int .i64 id, .int .i64 nn, .slice A8 bs.length c8] 64)) (fun j hj => (O9.out.lt j hj).2)) ⟨w8.heap.size, 0, none⟩ 1 rfl ?hcell1 (by omega) ?hbase1 ?_; (case hcell1 => (have hc4 := cells_built (w8.setCell ⟨wr.heap.size, 3, none⟩ (.slice A8 bs.length c8)) (.int .i64 1) (.int .i64 id) (.int .i64 nn) (.slice A8 bs.length c8); rw [show (w8.setCell ⟨wr.heap.size, 3, none⟩ (.slice A8 bs.length c8)).heap.size = w8.heap.size by simp [World.setCell]] at hc4; exact hc4)); (case hbase1 => (have h5 := K9.out.low.size; simp [World.setCell] at h5 ⊢; omega)); intro v1 X1 ho1 hb1 hg1; have N1 := Lib.hid ((K9.out.below ((Below.refl _ _).alloc (Nat.le_refl _) (.cells #[.int .i64 1, .int .i64 id, .int .i64 nn, .slice A8 bs.length c8] 64)) hbs).kept ((K9.out.row.trans (Stay.below ((Below.refl _ _).alloc (Nat.le_refl _) (.cells #[.int .i64 1, .int .i64 id, .int .i64 nn, .slice A8 bs.length c8] 64)))).ownD HO.out) hg1); have L1 := Lib.hid (HB.out.trans ((K9.out.below ((Below.refl _ _).alloc (Nat.le_refl _) (.cells #[.int .i64 1, .int .i64 id, .int .i64 nn, .slice A8 bs.length c8] 64)) hbs).low.trans hb1)); have O1 := Lib.hid ho1; clear ho1 hb1 hg1))
          go_roundw
          case rel => exact ⟨i + 1, q, t, (pre ++ [⟨1, id, nn, bs⟩]), by omega, by rw [List.length_append, List.length_singleton]; omega, by go_num, HQ.out, by rw [← HN.out]; exact ht8, O1.out, by rw [← HN.out]; exact N1.out, HKN.out, by rw [← HN.out]; exact HRF.out, L1.out⟩
          case measure => simp [intOf]; omega
      · have hst : step (⟨2, id, nn, bs⟩ : It) (n : Int) = (n : Int) := rfl
        rw [hst] at hrf1
        have HRF := Lib.hid hrf1
        rw [if_neg (by decide), if_neg (by decide)] at hkn
        clear hst hrf1
        by_cases hp0 : pl = 0
        · rw [if_pos hp0, List.nil_append] at hkn
          have HKN : Hid (knownP l = pre ++ knownS (q :: t) (l.drop (i + 1))) := Lib.hid hkn
          have hpb : (pl != 0) = false := by simpa using hp0
          clear hkn hp0
          go_wp2
          go_quiet ((go_at_call 36; exact Calls.quiet_of_same (HIN.out _ (Tab.drewN (Tab.alloc HTW.out _) _))))
          have K2 := Lib.hid (KS.start hbs HA.out #[.int .i64 2, .int .i64 id, .int .i64 nn, .slice A bs.length cx] nq)
          go_wp2
          go_roundw
          case rel => exact ⟨i + 1, q, t, pre, by omega, by omega, by go_num, HQ.out, by rw [← HN.out]; exact ht8, K2.out.row.ownD HO.out, by rw [← HN.out]; exact K2.out.num, HKN.out, by rw [← HN.out]; exact HRF.out, HB.out.trans K2.out.low⟩
          case measure => simp [intOf]; omega
        · rw [if_neg hp0] at hkn
          have HKN : Hid (knownP l = (pre ++ [⟨2, id, nn, bs⟩]) ++ knownS (q :: t) (l.drop (i + 1))) := Lib.hid (by rw [hkn, List.append_assoc])
          have hpb : (pl != 0) = true := by simpa using hp0
          clear hkn hp0
          go_wp2
          go_quiet ((go_at_call 36; exact Calls.quiet_of_same (HIN.out _ (Tab.drewN (Tab.alloc HTW.out _) _))))
          have K2 := Lib.hid (KS.start hbs HA.out #[.int .i64 2, .int .i64 id, .int .i64 nn, .slice A bs.length cx] nq)
          go_wp2_with (first
          | (at_builtin; refine wpList_append_copy rfl _ _ rfl rfl A bs.length cx bs rfl rfl (by omega) (RB.out.below K2.out.low) ?_; intro A8 c8 w8 ho8 hb8; have K8 := Lib.hid (K2.out.below hb8 hbs); have e0 := K8.out.box.cell 0; have e1 := K8.out.box.cell 1; have e2 := K8.out.box.cell 2; have e3 := K8.out.box.cell 3; have ef := K8.out.box.frozen 3; have K9 := Lib.hid (K8.out.put hbs (.slice A8 bs.length c8)); have O9 := Lib.hid (show (w8.setCell ⟨wr.heap.size, 3, none⟩ (.slice A8 bs.length c8)).ownsRow w.heap.size 5 1 (.slice A8 bs.length c8) bs.length (bs.map (Value.int .u8)) from own_mono (K8.out.bytes ho8 (.slice A8 bs.length c8)) (by have := K2.out.low.size; omega)); have z9 := K9.out.box.lt; simp only [List.getElem?_toArray] at e0 e1 e2 e3; clear ho8 hb8)
          | (at_builtin; refine wpList_append_part rfl _ _ rfl w.heap.size _ pre rfl ((K9.out.row.trans (Stay.below ((Below.refl _ _).alloc (Nat.le_refl _) (.cells #[.int .i64 2, .int .i64 id, .int .i64 nn, .slice A8 bs.length c8] 64)))).ownD HO.out) ⟨2, id, nn, bs⟩ A8 c8 (own_below O9.out ((Below.refl _ _).alloc (Nat.le_refl _) (.cells #[.int .i64 2, .int .i64 id, .int .i64 nn, .slice A8 bs.length c8] 64)) (fun j hj => (O9.out.lt j hj).2)) ⟨w8.heap.size, 0, none⟩ 1 rfl ?hcell2 (by omega) ?hbase2 ?_; (case hcell2 => (have hc4 := cells_built (w8.setCell ⟨wr.heap.size, 3, none⟩ (.slice A8 bs.length c8)) (.int .i64 2) (.int .i64 id) (.int .i64 nn) (.slice A8 bs.length c8); rw [show (w8.setCell ⟨wr.heap.size, 3, none⟩ (.slice A8 bs.length c8)).heap.size = w8.heap.size by simp [World.setCell]] at hc4; exact hc4)); (case hbase2 => (have h5 := K9.out.low.size; simp [World.setCell] at h5 ⊢; omega)); intro v1 X1 ho1 hb1 hg1; have N1 := Lib.hid ((K9.out.below ((Below.refl _ _).alloc (Nat.le_refl _) (.cells #[.int .i64 2, .int .i64 id, .int .i64 nn, .slice A8 bs.length c8] 64)) hbs).kept ((K9.out.row.trans (Stay.below ((Below.refl _ _).alloc (Nat.le_refl _) (.cells #[.int .i64 2, .int .i64 id, .int .i64 nn, .slice A8 bs.length c8] 64)))).ownD HO.out) hg1); have L1 := Lib.hid (HB.out.trans ((K9.out.below ((Below.refl _ _).alloc (Nat.le_refl _) (.cells #[.int .i64 2, .int .i64 id, .int .i64 nn, .slice A8 bs.length c8] 64)) hbs).low.trans hb1)); have O1 := Lib.hid ho1; clear ho1 hb1 hg1))
          go_roundw
          case rel => exact ⟨i + 1, q, t, (pre ++ [⟨2, id, nn, bs⟩]), by omega, by rw [List.length_append, List.length_singleton]; omega, by go_num, HQ.out, by rw [← HN.out]; exact ht8, O1.out, by rw [← HN.out]; exact N1.out, HKN.out, by rw [← HN.out]; exact HRF.out, L1.out⟩
          case measure => simp [intOf]; omega
      · have hst : step (⟨3, id, nn, bs⟩ : It) (n : Int) = ((n + 1 : Nat) : Int) := by unfold step; simp
        rw [hst] at hrf1 h8
        have HRF := Lib.hid hrf1
        rw [if_pos rfl] at hkn
        clear hst hrf1
        by_cases hp0 : pl = 0
        · rw [if_pos hp0, List.nil_append] at hkn
          have HKN : Hid (knownP l = pre ++ knownS (pl :: q :: t) (l.drop (i + 1))) := Lib.hid hkn
          have hpb : (pl != 0) = false := by simpa using hp0
          clear hkn hp0
          go_wp2
          go_quiet ((go_at_call 36; exact Calls.quiet_of_same (HIN.out _ (Tab.drewN (Tab.alloc HTW.out _) _))))
          have K2 := Lib.hid (KS.start hbs HA.out #[.int .i64 3, .int .i64 id, .int .i64 nn, .slice A bs.length cx] nq)
          go_wp2_with (first
          | (at_builtin; refine wpList_append_lies _ rfl _ _ 68 rfl w.heap.size 3 i3 (.int .i64 0) 1 8 Tryd.underlying68 hi hz0 hz1 hz2 rfl (by decide) _ (n + 1) _ rfl (K2.out.below ((Below.refl _ _).alloc (Nat.le_refl _) (.cells #[.int .i64 pl] 3)) hbs).num ⟨wr.heap.size + 1, 0, none⟩ 1 1 [.int .i64 pl] rfl rfl (World.news_of_block (by have h0 := World.alloc_heap_new ((wr.alloc (.cells #[.int .i64 3, .int .i64 id, .int .i64 nn, .slice A bs.length cx] 64)).drewN nq) (.cells #[.int .i64 pl] 3); simpa using h0)) (one_int _) (by decide) (by unfold maxLen; omega) (by omega) (by simp; omega) _ rfl ?_; intro g7 c7 w7 ho7 hg7 _ _; have K3 := Lib.hid ((K2.out.below ((Below.refl _ _).alloc (Nat.le_refl _) (.cells #[.int .i64 pl] 3)) hbs).grow hbs hg7 ho7); have d3 := K3.out.box.cell 3; simp only [List.getElem?_toArray] at d3; clear ho7 hg7))
          go_roundw
          case rel => exact ⟨i + 1, pl, (q :: t), pre, by omega, by omega, by go_num, fun y hy => (List.mem_cons.1 hy).elim (fun e => by rw [e]; exact hplr) (fun hy => HQ.out y hy), by have := HN.out; simp only [List.length_cons]; omega, K3.out.row.ownD HO.out, by have h := HN.out; rw [← rev_cons, List.length_cons, ← h]; exact K3.out.num, HKN.out, by have h := HRF.out; have h2 := HN.out; rw [List.length_cons, ← h2]; exact h, HB.out.trans K3.out.low⟩
          case measure => simp [intOf]; omega
        · rw [if_neg hp0] at hkn
          have HKN : Hid (knownP l = (pre ++ [⟨3, id, nn, bs⟩]) ++ knownS (pl :: q :: t) (l.drop (i + 1))) := Lib.hid (by rw [hkn, List.append_assoc])
          have hpb : (pl != 0) = true := by simpa using hp0
          clear hkn hp0
          go_wp2
          go_quiet ((go_at_call 36; exact Calls.quiet_of_same (HIN.out _ (Tab.drewN (Tab.alloc HTW.out _) _))))
          have K2 := Lib.hid (KS.start hbs HA.out #[.int .i64 3, .int .i64 id, .int .i64 nn, .slice A bs.length cx] nq)
          go_wp2_with (first
          | (at_builtin; refine wpList_append_lies _ rfl _ _ 68 rfl w.heap.size 3 i3 (.int .i64 0) 1 8 Tryd.underlying68 hi hz0 hz1 hz2 rfl (by decide) _ (n + 1) _ rfl (K2.out.below ((Below.refl _ _).alloc (Nat.le_refl _) (.cells #[.int .i64 pl] 3)) hbs).num ⟨wr.heap.size + 1, 0, none⟩ 1 1 [.int .i64 pl] rfl rfl (World.news_of_block (by have h0 := World.alloc_heap_new ((wr.alloc (.cells #[.int .i64 3, .int .i64 id, .int .i64 nn, .slice A bs.length cx] 64)).drewN nq) (.cells #[.int .i64 pl] 3); simpa using h0)) (one_int _) (by decide) (by unfold maxLen; omega) (by omega) (by simp; omega) _ rfl ?_; intro g7 c7 w7 ho7 hg7 _ _; have K3 := Lib.hid ((K2.out.below ((Below.refl _ _).alloc (Nat.le_refl _) (.cells #[.int .i64 pl] 3)) hbs).grow hbs hg7 ho7); have d3 := K3.out.box.cell 3; simp only [List.getElem?_toArray] at d3; clear ho7 hg7)
          | (at_builtin; refine wpList_append_copy rfl _ _ rfl rfl A bs.length cx bs rfl rfl (by omega) (RB.out.below K3.out.low) ?_; intro A8 c8 w8 ho8 hb8; have K8 := Lib.hid (K3.out.below hb8 hbs); have e0 := K8.out.box.cell 0; have e1 := K8.out.box.cell 1; have e2 := K8.out.box.cell 2; have e3 := K8.out.box.cell 3; have ef := K8.out.box.frozen 3; have K9 := Lib.hid (K8.out.put hbs (.slice A8 bs.length c8)); have O9 := Lib.hid (show (w8.setCell ⟨wr.heap.size, 3, none⟩ (.slice A8 bs.length c8)).ownsRow w.heap.size 5 1 (.slice A8 bs.length c8) bs.length (bs.map (Value.int .u8)) from own_mono (K8.out.bytes ho8 (.slice A8 bs.length c8)) (by have := K3.out.low.size; omega)); have z9 := K9.out.box.lt; simp only [List.getElem?_toArray] at e0 e1 e2 e3; clear ho8 hb8)
          | (at_builtin; refine wpList_append_part rfl _ _ rfl w.heap.size _ pre rfl ((K9.out.row.trans (Stay.below ((Below.refl _ _).alloc (Nat.le_refl _) (.cells #[.int .i64 3, .int .i64 id, .int .i64 nn, .slice A8 bs.length c8] 64)))).ownD HO.out) ⟨3, id, nn, bs⟩ A8 c8 (own_below O9.out ((Below.refl _ _).alloc (Nat.le_refl _) (.cells #[.int .i64 3, .int .i64 id, .int .i64 nn, .slice A8 bs.length c8] 64)) (fun j hj => (O9.out.lt j hj).2)) ⟨w8.heap.size, 0, none⟩ 1 rfl ?hcell3 (by omega) ?hbase3 ?_; (case hcell3 => (have hc4 := cells_built (w8.setCell ⟨wr.heap.size, 3, none⟩ (.slice A8 bs.length c8)) (.int .i64 3) (.int .i64 id) (.int .i64 nn) (.slice A8 bs.length c8); rw [show (w8.setCell ⟨wr.heap.size, 3, none⟩ (.slice A8 bs.length c8)).heap.size = w8.heap.size by simp [World.setCell]] at hc4; exact hc4)); (case hbase3 => (have h5 := K9.out.low.size; simp [World.setCell] at h5 ⊢; omega)); intro v1 X1 ho1 hb1 hg1; have N1 := Lib.hid ((K9.out.below ((Below.refl _ _).alloc (Nat.le_refl _) (.cells #[.int .i64 3, .int .i64 id, .int .i64 nn, .slice A8 bs.length c8] 64)) hbs).kept ((K9.out.row.trans (Stay.below ((Below.refl _ _).alloc (Nat.le_refl _) (.cells #[.int .i64 3, .int .i64 id, .int .i64 nn, .slice A8 bs.length c8] 64)))).ownD HO.out) hg1); have L1 := Lib.hid (HB.out.trans ((K9.out.below ((Below.refl _ _).alloc (Nat.le_refl _) (.cells #[.int .i64 3, .int .i64 id, .int .i64 nn, .slice A8 bs.length c8] 64)) hbs).low.trans hb1)); have O1 := Lib.hid ho1; clear ho1 hb1 hg1))
          go_roundw
          case rel => exact ⟨i + 1, pl, (q :: t), (pre ++ [⟨3, id, nn, bs⟩]), by omega, by rw [List.length_append, List.length_singleton]; omega, by go_num, fun y hy => (List.mem_cons.1 hy).elim (fun e => by rw [e]; exact hplr) (fun hy => HQ.out y hy), by have := HN.out; simp only [List.length_cons]; omega, O1.out, by have h := HN.out; rw [← rev_cons, List.length_cons, ← h]; exact N1.out, HKN.out, by have h := HRF.out; have h2 := HN.out; rw [List.length_cons, ← h2]; exact h, L1.out⟩
          case measure => simp [intOf]; omega
      · have hst : step (⟨4, id, nn, bs⟩ : It) (n : Int) = (n : Int) - 1 := by unfold step; simp
        rw [hst] at hrf1 h0
        obtain ⟨q2, t2, rfl⟩ : ∃ q2 t2, t = q2 :: t2 := by
          cases t with
          | nil => have := HN.out; simp at this; omega
          | cons q2 t2 => exact ⟨q2, t2, rfl⟩
        have HRF := Lib.hid hrf1
        rw [if_neg (by decide), if_pos rfl] at hkn
        clear hst hrf1
        by_cases hp0 : q = 0
        · rw [if_pos hp0, List.nil_append] at hkn
          have HKN : Hid (knownP l = pre ++ knownS (q2 :: t2) (l.drop (i + 1))) := Lib.hid hkn
          have hpb : (q != 0) = false := by simpa using hp0
          clear hkn hp0
          go_wp2
          go_quiet ((go_at_call 36; exact Calls.quiet_of_same (HIN.out _ (Tab.drewN (Tab.alloc HTW.out _) _))))
          have K2 := Lib.hid (KS.start hbs HA.out #[.int .i64 4, .int .i64 id, .int .i64 nn, .slice A bs.length cx] nq)
          have K3 := Lib.hid K2.out.short
          go_wp2
          go_roundw
          case rel => exact ⟨i + 1, q2, t2, pre, by omega, by omega, by go_num, fun y hy => HQ.out y (List.mem_cons_of_mem _ hy), by have := HN.out; simp only [List.length_cons] at this; omega, K3.out.row.ownD HO.out, by have h := K3.out.num; rw [rev_take HN.out] at h; have h2 := HN.out; simp only [List.length_cons] at h2; rw [← h2]; exact h, HKN.out, by have h := HRF.out; have h2 := HN.out; rw [show ((t2.length : Nat) : Int) = (n : Int) - 1 by simp only [List.length_cons] at h2; omega]; exact h, HB.out.trans K3.out.low⟩
          case measure => simp [intOf]; omega
        · rw [if_neg hp0] at hkn
          have HKN : Hid (knownP l = (pre ++ [⟨4, id, nn, bs⟩]) ++ knownS (q2 :: t2) (l.drop (i + 1))) := Lib.hid (by rw [hkn, List.append_assoc])
          have hpb : (q != 0) = true := by simpa using hp0
          clear hkn hp0
          go_wp2
          go_quiet ((go_at_call 36; exact Calls.quiet_of_same (HIN.out _ (Tab.drewN (Tab.alloc HTW.out _) _))))
          have K2 := Lib.hid (KS.start hbs HA.out #[.int .i64 4, .int .i64 id, .int .i64 nn, .slice A bs.length cx] nq)
          have K3 := Lib.hid K2.out.short
          go_wp2_with (first
          | (at_builtin; refine wpList_append_copy rfl _ _ rfl rfl A bs.length cx bs rfl rfl (by omega) (RB.out.below K3.out.low) ?_; intro A8 c8 w8 ho8 hb8; have K8 := Lib.hid (K3.out.below hb8 hbs); have e0 := K8.out.box.cell 0; have e1 := K8.out.box.cell 1; have e2 := K8.out.box.cell 2; have e3 := K8.out.box.cell 3; have ef := K8.out.box.frozen 3; have K9 := Lib.hid (K8.out.put hbs (.slice A8 bs.length c8)); have O9 := Lib.hid (show (w8.setCell ⟨wr.heap.size, 3, none⟩ (.slice A8 bs.length c8)).ownsRow w.heap.size 5 1 (.slice A8 bs.length c8) bs.length (bs.map (Value.int .u8)) from own_mono (K8.out.bytes ho8 (.slice A8 bs.length c8)) (by have := K3.out.low.size; omega)); have z9 := K9.out.box.lt; simp only [List.getElem?_toArray] at e0 e1 e2 e3; clear ho8 hb8)
          | (at_builtin; refine wpList_append_part rfl _ _ rfl w.heap.size _ pre rfl ((K9.out.row.trans (Stay.below ((Below.refl _ _).alloc (Nat.le_refl _) (.cells #[.int .i64 4, .int .i64 id, .int .i64 nn, .slice A8 bs.length c8] 64)))).ownD HO.out) ⟨4, id, nn, bs⟩ A8 c8 (own_below O9.out ((Below.refl _ _).alloc (Nat.le_refl _) (.cells #[.int .i64 4, .int .i64 id, .int .i64 nn, .slice A8 bs.length c8] 64)) (fun j hj => (O9.out.lt j hj).2)) ⟨w8.heap.size, 0, none⟩ 1 rfl ?hcell4 (by omega) ?hbase4 ?_; (case hcell4 => (have hc4 := cells_built (w8.setCell ⟨wr.heap.size, 3, none⟩ (.slice A8 bs.length c8)) (.int .i64 4) (.int .i64 id) (.int .i64 nn) (.slice A8 bs.length c8); rw [show (w8.setCell ⟨wr.heap.size, 3, none⟩ (.slice A8 bs.length c8)).heap.size = w8.heap.size by simp [World.setCell]] at hc4; exact hc4)); (case hbase4 => (have h5 := K9.out.low.size; simp [World.setCell] at h5 ⊢; omega)); intro v1 X1 ho1 hb1 hg1; have N1 := Lib.hid ((K9.out.below ((Below.refl _ _).alloc (Nat.le_refl _) (.cells #[.int .i64 4, .int .i64 id, .int .i64 nn, .slice A8 bs.length c8] 64)) hbs).kept ((K9.out.row.trans (Stay.below ((Below.refl _ _).alloc (Nat.le_refl _) (.cells #[.int .i64 4, .int .i64 id, .int .i64 nn, .slice A8 bs.length c8] 64)))).ownD HO.out) hg1); have L1 := Lib.hid (HB.out.trans ((K9.out.below ((Below.refl _ _).alloc (Nat.le_refl _) (.cells #[.int .i64 4, .int .i64 id, .int .i64 nn, .slice A8 bs.length c8] 64)) hbs).low.trans hb1)); have O1 := Lib.hid ho1; clear ho1 hb1 hg1))
          go_roundw
          case rel => exact ⟨i + 1, q2, t2, (pre ++ [⟨4, id, nn, bs⟩]), by omega, by rw [List.length_append, List.length_singleton]; omega, by go_num, fun y hy => HQ.out y (List.mem_cons_of_mem _ hy), by have := HN.out; simp only [List.length_cons] at this; omega, O1.out, by have h := N1.out; rw [rev_take HN.out] at h; have h2 := HN.out; simp only [List.length_cons] at h2; rw [← h2]; exact h, HKN.out, by have h := HRF.out; have h2 := HN.out; rw [show ((t2.length : Nat) : Int) = (n : Int) - 1 by simp only [List.length_cons] at h2; omega]; exact h, L1.out⟩
          case measure => simp [intOf]; omega
    · obtain rfl : i = l.length := by omega
      have hk : knownP l = pre := by rw [hkn, List.drop_length, knownS_nil, List.append_nil]
      have HK := Lib.hid hk
      clear hkn hk
      go_wp2
      go_ret
      obtain ⟨A, m, c2, rfl, e1, e2, e3⟩ := HO.out.form_n
      rw [HK.out]
      exact ⟨A, m, c2, rfl, e1, e2, e3, HO.out.rd, HB.out⟩
theorem wknown_no (a : Option Addr) (cap : Nat) (l : List It) (hlen : l.length ≤ 100000) (w : World) (hr : RdI w.heap.size w a l) (hR : rightB l = false) :
    Calls Tryd.prog 13 #[.slice a l.length cap] w (GotD (knownP l) w) := by
  have hright := pright_any a cap l (by omega) w hr
  rw [hR] at hright
  have HK := Lib.hid (show knownP l = [] by unfold knownP; rw [if_neg (by simp [hR])])
  clear hr hR
  go_enter Tryd.func13, Tryd.ntmps13
  go_wp2_with (go_at_call 16; refine hright.mono ?_; rintro e w1 ⟨rfl, hb1⟩; have H1 := Lib.hid hb1; clear hb1)
  go_ret
  rw [HK.out]
  exact ⟨none, 0, 0, rfl, rfl, Nat.le_refl _, Nat.zero_le _, fun hp => by simp at hp, H1.out⟩
/-- KNOWN, of any items. -/
theorem wknown_any {a : Option Addr} {n cap : Nat} {l : List It} (hn : n = l.length) (hlen : l.length ≤ 100000) (hbl : ∀ x ∈ l, x.bs.length ≤ 1000000) {w : World} (hr : RdI w.heap.size w a l) (hT : Tab w) :
    Calls Tryd.prog 13 #[.slice a n cap] w (GotD (knownP l) w) := by
  subst hn
  rcases Bool.eq_false_or_eq_true (rightB l) with hR | hR
  · exact wknown_yes a cap l hlen hbl w hr hT hR
  · exact wknown_no a cap l hlen w hr hR
end Go.Proofs.YtgngcpbkopjjlaaDoor

namespace Go.Proofs.YtgngcpbkopjjlaaDoor
open Go.RowKit Go.Shelf
set_option linter.unusedVariables false

/-- The packet of some bytes. -/
def decW (zs : List Int) : Option PackT := match decB zs with
  | none => none
  | some l => if (readS (knownP l)).2 = true then some (readS (knownP l)).1 else none
/-- What Decode returns. -/
def DecOut (r : Option PackT) (w : World) (e : Ending) (w' : World) : Prop := match r with
  | none => e = .returned (.tuple #[.agg #[.int .i64 0, .int .i64 0, .int .i64 0, .int .i64 0, .int .i64 0, .int .i64 0, .int .i64 0, .int .i64 0, .int .i64 0, .int .i64 0, .int .i64 0, .bool false, .bool false, .int .i64 0, .int .i64 0, .int .i64 0, .int .i64 0, .int .i64 0, .int .i64 0, .int .i64 0, .bool false, .slice none 0 0, .slice none 0 0, .int .i64 0, .int .i64 0, .int .i64 0, .int .i64 0, .int .i64 0, .int .i64 0, .int .i64 0, .int .i64 0, .slice none 0 0], .int .i64 2]) ∧ Below w.heap.size w w'
  | some q => ∃ (Ae Ar Ah : Option Addr) (Ce Cr Ch : Nat), e = .returned (.tuple #[.agg #[.int .i64 q.kind, .int .i64 q.lie.node, .int .i64 q.lie.level, .int .i64 q.lie.pod, .int .i64 q.lie.mtu, .int .i64 q.lie.link, .int .i64 q.lie.nonce, .int .i64 q.lie.seen, .int .i64 q.lie.seenLink, .int .i64 q.lie.seenNonce, .int .i64 q.lie.hold, .bool q.lie.rep, .bool q.lie.noOffer, .int .i64 q.tie.head.id.dir, .int .i64 q.tie.head.id.orig, .int .i64 q.tie.head.id.kind, .int .i64 q.tie.head.id.nr, .int .i64 q.tie.head.seq, .int .i64 q.tie.head.life, .int .i64 q.tie.level, .bool q.tie.over, .slice Ae q.tie.edges.length Ce, .slice Ar q.tie.reaches.length Cr, .int .i64 q.frm.dir, .int .i64 q.frm.orig, .int .i64 q.frm.kind, .int .i64 q.frm.nr, .int .i64 q.to.dir, .int .i64 q.to.orig, .int .i64 q.to.kind, .int .i64 q.to.nr, .slice Ah q.heads.length Ch], .int .i64 0]) ∧ Pk w'.heap.size w' q Ae Ar Ah Ce Cr Ch ∧ Below w.heap.size w w'
theorem DecOut.none_ {r : Option PackT} (h : r = none) {w w' : World} (hb : Below w.heap.size w w') : DecOut r w (.returned (.tuple #[.agg #[.int .i64 0, .int .i64 0, .int .i64 0, .int .i64 0, .int .i64 0, .int .i64 0, .int .i64 0, .int .i64 0, .int .i64 0, .int .i64 0, .int .i64 0, .bool false, .bool false, .int .i64 0, .int .i64 0, .int .i64 0, .int .i64 0, .int .i64 0, .int .i64 0, .int .i64 0, .bool false, .slice none 0 0, .slice none 0 0, .int .i64 0, .int .i64 0, .int .i64 0, .int .i64 0, .int .i64 0, .int .i64 0, .int .i64 0, .int .i64 0, .slice none 0 0], .int .i64 2])) w' := by
  subst h
  exact ⟨rfl, hb⟩
theorem DecOut.some_ {r : Option PackT} {q : PackT} (h : r = some q) {w w' : World} {Ae Ar Ah : Option Addr} {Ce Cr Ch : Nat} (hp : Pk w'.heap.size w' q Ae Ar Ah Ce Cr Ch) (hb : Below w.heap.size w w') : DecOut r w (.returned (.tuple #[.agg #[.int .i64 q.kind, .int .i64 q.lie.node, .int .i64 q.lie.level, .int .i64 q.lie.pod, .int .i64 q.lie.mtu, .int .i64 q.lie.link, .int .i64 q.lie.nonce, .int .i64 q.lie.seen, .int .i64 q.lie.seenLink, .int .i64 q.lie.seenNonce, .int .i64 q.lie.hold, .bool q.lie.rep, .bool q.lie.noOffer, .int .i64 q.tie.head.id.dir, .int .i64 q.tie.head.id.orig, .int .i64 q.tie.head.id.kind, .int .i64 q.tie.head.id.nr, .int .i64 q.tie.head.seq, .int .i64 q.tie.head.life, .int .i64 q.tie.level, .bool q.tie.over, .slice Ae q.tie.edges.length Ce, .slice Ar q.tie.reaches.length Cr, .int .i64 q.frm.dir, .int .i64 q.frm.orig, .int .i64 q.frm.kind, .int .i64 q.frm.nr, .int .i64 q.to.dir, .int .i64 q.to.orig, .int .i64 q.to.kind, .int .i64 q.to.nr, .slice Ah q.heads.length Ch], .int .i64 0])) w' := by
  subst h
  exact ⟨Ae, Ar, Ah, Ce, Cr, Ch, rfl, hp, hb⟩
theorem there_keep {W W' : World} {b n : Nat} {cs : Array Value} {t : TypeId} (h : W.heap[b]? = some (.cells cs t (0, 0))) (hn : n ≤ cs.size) {n₀ : Nat} (hb : Below n₀ W W') (hlt : b < n₀) : W'.there b 0 n := there_of ((hb.block b hlt).trans h) hn
theorem dec_bs {zs : List Int} {l : List It} (hz : ∀ x ∈ zs, 0 ≤ x ∧ x ≤ 255) (h : decB zs = some l) : rightB l = true ∧ encL l = zs ∧ (∀ x ∈ l, x.ok ∧ x.bs.length ≤ zs.length) ∧ l.length ≤ zs.length ∧ zs.length ≤ 4096 := by
  unfold decB at h
  by_cases h4 : 4096 < zs.length
  · rw [if_pos h4] at h; cases h
  rw [if_neg h4] at h
  rcases hd : decS zs.length zs with _ | m
  · rw [hd] at h; cases h
  · rw [hd] at h
    simp only at h
    by_cases hr : rightB m = true
    · rw [if_pos hr] at h
      injection h with h
      subst h
      obtain ⟨e1, e2, e3⟩ := decS_props _ _ _ hz hd
      exact ⟨hr, e1, e2, e3, by omega⟩
    · rw [if_neg hr] at h; cases h
set_option maxRecDepth 100000 in
set_option maxHeartbeats 8000000 in
theorem wdec_form (a : Option Addr) (cap : Nat) (zs : List Int) (hlen : zs.length ≤ 9223372036854775807) (hcap : zs.length ≤ cap) (hcm : cap ≤ 9223372036854775807) (hz : ∀ x ∈ zs, 0 ≤ x ∧ x ≤ 255) (w : World) (hr : Rd .u8 w.heap.size w a zs) (hd : decB zs = none) :
    Calls Tryd.prog 9 #[.slice a zs.length cap] w (DecOut (decW zs) w) := by
  have hB0 := (Below.refl w.heap.size w).alloc (Nat.le_refl _) (.cells #[.int .i64 0, .int .i64 0, .int .i64 0, .int .i64 0, .int .i64 0, .int .i64 0, .int .i64 0, .int .i64 0, .int .i64 0, .int .i64 0, .int .i64 0, .bool false, .bool false, .int .i64 0, .int .i64 0, .int .i64 0, .int .i64 0, .int .i64 0, .int .i64 0, .int .i64 0, .bool false, .slice none 0 0, .slice none 0 0, .int .i64 0, .int .i64 0, .int .i64 0, .int .i64 0, .int .i64 0, .int .i64 0, .int .i64 0, .int .i64 0, .slice none 0 0] 36)
  have hbk : (w.alloc (.cells #[.int .i64 0, .int .i64 0, .int .i64 0, .int .i64 0, .int .i64 0, .int .i64 0, .int .i64 0, .int .i64 0, .int .i64 0, .int .i64 0, .int .i64 0, .bool false, .bool false, .int .i64 0, .int .i64 0, .int .i64 0, .int .i64 0, .int .i64 0, .int .i64 0, .int .i64 0, .bool false, .slice none 0 0, .slice none 0 0, .int .i64 0, .int .i64 0, .int .i64 0, .int .i64 0, .int .i64 0, .int .i64 0, .int .i64 0, .int .i64 0, .slice none 0 0] 36)).heap[w.heap.size]? = some (.cells #[.int .i64 0, .int .i64 0, .int .i64 0, .int .i64 0, .int .i64 0, .int .i64 0, .int .i64 0, .int .i64 0, .int .i64 0, .int .i64 0, .int .i64 0, .bool false, .bool false, .int .i64 0, .int .i64 0, .int .i64 0, .int .i64 0, .int .i64 0, .int .i64 0, .int .i64 0, .bool false, .slice none 0 0, .slice none 0 0, .int .i64 0, .int .i64 0, .int .i64 0, .int .i64 0, .int .i64 0, .int .i64 0, .int .i64 0, .int .i64 0, .slice none 0 0] 36 (0, 0)) := World.alloc_heap_new w _
  have hdec := pdecode_any a cap zs hlen hcap hcm hz (w.alloc (.cells #[.int .i64 0, .int .i64 0, .int .i64 0, .int .i64 0, .int .i64 0, .int .i64 0, .int .i64 0, .int .i64 0, .int .i64 0, .int .i64 0, .int .i64 0, .bool false, .bool false, .int .i64 0, .int .i64 0, .int .i64 0, .int .i64 0, .int .i64 0, .int .i64 0, .int .i64 0, .bool false, .slice none 0 0, .slice none 0 0, .int .i64 0, .int .i64 0, .int .i64 0, .int .i64 0, .int .i64 0, .int .i64 0, .int .i64 0, .int .i64 0, .slice none 0 0] 36)) ((hr.below hB0).mono (by simp))
  rw [hd] at hdec
  have HD := Lib.hid (show decW zs = none by unfold decW; rw [hd])
  have HDEC := Lib.hid hdec
  have HB0 := Lib.hid hB0
  have HK := Lib.hid hbk
  clear hr hd hdec hB0 hbk hz
  go_enter Tryd.func9, Tryd.ntmps9
  go_wp2_with (first
    | (go_at_call 22; refine HDEC.out.mono ?_; rintro e w1 ⟨rfl, hb⟩; have BX := Lib.hid hb; clear hb)
    | (refine wpList_store_mid rfl 36 (.tmp 2) _ rfl w.heap.size 0 #[.int .i64 0, .int .i64 0, .int .i64 0, .int .i64 0, .int .i64 0, .int .i64 0, .int .i64 0, .int .i64 0, .int .i64 0, .int .i64 0, .int .i64 0, .bool false, .bool false, .int .i64 0, .int .i64 0, .int .i64 0, .int .i64 0, .int .i64 0, .int .i64 0, .int .i64 0, .bool false, .slice none 0 0, .slice none 0 0, .int .i64 0, .int .i64 0, .int .i64 0, .int .i64 0, .int .i64 0, .int .i64 0, .int .i64 0, .int .i64 0, .slice none 0 0] rfl rfl (there_keep (n := 32) HK.out (Nat.le_refl _) BX.out (by simp)) (by kernel_rfl) (by simp [Value.oneCell']) ?_; obtain ⟨W5, hW5⟩ : ∃ W5, World.setCells w1 w.heap.size 0 [.int .i64 0, .int .i64 0, .int .i64 0, .int .i64 0, .int .i64 0, .int .i64 0, .int .i64 0, .int .i64 0, .int .i64 0, .int .i64 0, .int .i64 0, .bool false, .bool false, .int .i64 0, .int .i64 0, .int .i64 0, .int .i64 0, .int .i64 0, .int .i64 0, .int .i64 0, .bool false, .slice none 0 0, .slice none 0 0, .int .i64 0, .int .i64 0, .int .i64 0, .int .i64 0, .int .i64 0, .int .i64 0, .int .i64 0, .int .i64 0, .slice none 0 0] = W5 := ⟨_, rfl⟩; rw [hW5]; have HW5 := Lib.hid hW5; clear hW5))
  refine bodyPost_ret (results_cell2 rfl rfl (b := w.heap.size) (o := 0) (cs := [.int .i64 0, .int .i64 0, .int .i64 0, .int .i64 0, .int .i64 0, .int .i64 0, .int .i64 0, .int .i64 0, .int .i64 0, .int .i64 0, .int .i64 0, .bool false, .bool false, .int .i64 0, .int .i64 0, .int .i64 0, .int .i64 0, .int .i64 0, .int .i64 0, .int .i64 0, .bool false, .slice none 0 0, .slice none 0 0, .int .i64 0, .int .i64 0, .int .i64 0, .int .i64 0, .int .i64 0, .int .i64 0, .int .i64 0, .int .i64 0, .slice none 0 0]) (by rw [← HW5.out]; exact World.rangeAt_setCells_same _ _ _ _ (there_keep (n := 32) HK.out (Nat.le_refl _) BX.out (by simp))) Tryd.underlying36 rfl (by kernel_rfl)) rfl ?_
  exact DecOut.none_ HD.out (by rw [← HW5.out]; exact below_cells (HB0.out.trans (BX.out.mono (by simp))) (Nat.le_refl _) _ _)
set_option maxRecDepth 100000 in
set_option maxHeartbeats 8000000 in
theorem wdec_bad (a : Option Addr) (cap : Nat) (zs : List Int) (hlen : zs.length ≤ 9223372036854775807) (hcap : zs.length ≤ cap) (hcm : cap ≤ 9223372036854775807) (hz : ∀ x ∈ zs, 0 ≤ x ∧ x ≤ 255) (w : World) (hr : Rd .u8 w.heap.size w a zs) (hT : Tab w) (l : List It) (hd : decB zs = some l) (hro : (readS (knownP l)).2 = false) :
    Calls Tryd.prog 9 #[.slice a zs.length cap] w (DecOut (decW zs) w) := by
  have hB0 := (Below.refl w.heap.size w).alloc (Nat.le_refl _) (.cells #[.int .i64 0, .int .i64 0, .int .i64 0, .int .i64 0, .int .i64 0, .int .i64 0, .int .i64 0, .int .i64 0, .int .i64 0, .int .i64 0, .int .i64 0, .bool false, .bool false, .int .i64 0, .int .i64 0, .int .i64 0, .int .i64 0, .int .i64 0, .int .i64 0, .int .i64 0, .bool false, .slice none 0 0, .slice none 0 0, .int .i64 0, .int .i64 0, .int .i64 0, .int .i64 0, .int .i64 0, .int .i64 0, .int .i64 0, .int .i64 0, .slice none 0 0] 36)
  have hbk : (w.alloc (.cells #[.int .i64 0, .int .i64 0, .int .i64 0, .int .i64 0, .int .i64 0, .int .i64 0, .int .i64 0, .int .i64 0, .int .i64 0, .int .i64 0, .int .i64 0, .bool false, .bool false, .int .i64 0, .int .i64 0, .int .i64 0, .int .i64 0, .int .i64 0, .int .i64 0, .int .i64 0, .bool false, .slice none 0 0, .slice none 0 0, .int .i64 0, .int .i64 0, .int .i64 0, .int .i64 0, .int .i64 0, .int .i64 0, .int .i64 0, .int .i64 0, .slice none 0 0] 36)).heap[w.heap.size]? = some (.cells #[.int .i64 0, .int .i64 0, .int .i64 0, .int .i64 0, .int .i64 0, .int .i64 0, .int .i64 0, .int .i64 0, .int .i64 0, .int .i64 0, .int .i64 0, .bool false, .bool false, .int .i64 0, .int .i64 0, .int .i64 0, .int .i64 0, .int .i64 0, .int .i64 0, .int .i64 0, .bool false, .slice none 0 0, .slice none 0 0, .int .i64 0, .int .i64 0, .int .i64 0, .int .i64 0, .int .i64 0, .int .i64 0, .int .i64 0, .int .i64 0, .slice none 0 0] 36 (0, 0)) := World.alloc_heap_new w _
  have hdec := pdecode_any a cap zs hlen hcap hcm hz (w.alloc (.cells #[.int .i64 0, .int .i64 0, .int .i64 0, .int .i64 0, .int .i64 0, .int .i64 0, .int .i64 0, .int .i64 0, .int .i64 0, .int .i64 0, .int .i64 0, .bool false, .bool false, .int .i64 0, .int .i64 0, .int .i64 0, .int .i64 0, .int .i64 0, .int .i64 0, .int .i64 0, .bool false, .slice none 0 0, .slice none 0 0, .int .i64 0, .int .i64 0, .int .i64 0, .int .i64 0, .int .i64 0, .int .i64 0, .int .i64 0, .int .i64 0, .slice none 0 0] 36)) ((hr.below hB0).mono (by simp))
  rw [hd] at hdec
  obtain ⟨e1, e2, e3, e4, e5⟩ := dec_bs hz hd
  obtain ⟨q, hq⟩ : ∃ q, (readS (knownP l)).1 = q := ⟨_, rfl⟩
  have HD := Lib.hid (show decW zs = none by unfold decW; rw [hd]; simp only; rw [if_neg (by simp [hro])])
  have hrd := fun (a : Option Addr) (n c : Nat) (hn : n = (knownP l).length) (hc : n ≤ c) (hm : c ≤ maxLen) (W : World) (hr : RdI W.heap.size W a (knownP l)) => read_any a n c (knownP l) hn hc hm W hr
  rw [hro, hq] at hrd
  have hkn := fun (a : Option Addr) (n c : Nat) (hn : n = l.length) (W : World) (hr : RdI W.heap.size W a l) (hT : Tab W) => wknown_any (a := a) (cap := c) hn (by omega) (fun x hx => by have := (e3 x hx).2; omega) hr hT
  have HDEC := Lib.hid hdec
  have HRD := Lib.hid hrd
  have HKN := Lib.hid hkn
  have HT0 := Lib.hid (hT.below hB0 hT.pos)
  have hpos := hT.pos
  have HB0 := Lib.hid hB0
  have HK := Lib.hid hbk
  clear hr hd hdec hB0 hbk hz hrd hkn hro hq e1 e2 e3 e4 e5 hT
  go_enter Tryd.func9, Tryd.ntmps9
  go_wp2_with (first
    | (go_at_call 22; refine HDEC.out.mono ?_; rintro e w1 ⟨A1, n1, c1, rfl, hn1, hc1, hm1, hr1, hb1⟩; have B1 := Lib.hid hb1; have N1 := Lib.hid hn1; have R1 := Lib.hid hr1; have T1 := Lib.hid (HT0.out.below hb1 (by simp)); clear hb1 hn1 hr1)
    | (go_at_call 13; refine (HKN.out A1 n1 c1 N1.out _ R1.out T1.out).mono ?_; rintro e w2 ⟨A2, n2, c2, rfl, hn2, hc2, hm2, hr2, hb2⟩; have B2 := Lib.hid (B1.out.trans (hb2.mono B1.out.size)); have N2 := Lib.hid hn2; have R2 := Lib.hid hr2; clear hb2 hn2 hr2)
    | (go_at_call 23; refine (HRD.out A2 n2 c2 N2.out hc2 hm2 _ R2.out).mono ?_; rintro e w3 ⟨Ae, Ar, Ah, Ce, Cr, Ch, rfl, hpk, hfar, hb3⟩; have TH4 := Lib.hid (there_of (n := 32) (World.alloc_heap_new w3 (.cells #[.int .i64 0, .int .i64 0, .int .i64 0, .int .i64 0, .int .i64 0, .int .i64 0, .int .i64 0, .int .i64 0, .int .i64 0, .int .i64 0, .int .i64 0, .bool false, .bool false, .int .i64 0, .int .i64 0, .int .i64 0, .int .i64 0, .int .i64 0, .int .i64 0, .int .i64 0, .bool false, .slice none 0 0, .slice none 0 0, .int .i64 0, .int .i64 0, .int .i64 0, .int .i64 0, .int .i64 0, .int .i64 0, .int .i64 0, .int .i64 0, .slice none 0 0] 36)) (Nat.le_refl _)); have RG0 : RowKit.Hid (((w3.alloc (.cells #[.int .i64 0, .int .i64 0, .int .i64 0, .int .i64 0, .int .i64 0, .int .i64 0, .int .i64 0, .int .i64 0, .int .i64 0, .int .i64 0, .int .i64 0, .bool false, .bool false, .int .i64 0, .int .i64 0, .int .i64 0, .int .i64 0, .int .i64 0, .int .i64 0, .int .i64 0, .bool false, .slice none 0 0, .slice none 0 0, .int .i64 0, .int .i64 0, .int .i64 0, .int .i64 0, .int .i64 0, .int .i64 0, .int .i64 0, .int .i64 0, .slice none 0 0] 36)).setCells w3.heap.size 0 [.int .i64 q.kind, .int .i64 q.lie.node, .int .i64 q.lie.level, .int .i64 q.lie.pod, .int .i64 q.lie.mtu, .int .i64 q.lie.link, .int .i64 q.lie.nonce, .int .i64 q.lie.seen, .int .i64 q.lie.seenLink, .int .i64 q.lie.seenNonce, .int .i64 q.lie.hold, .bool q.lie.rep, .bool q.lie.noOffer, .int .i64 q.tie.head.id.dir, .int .i64 q.tie.head.id.orig, .int .i64 q.tie.head.id.kind, .int .i64 q.tie.head.id.nr, .int .i64 q.tie.head.seq, .int .i64 q.tie.head.life, .int .i64 q.tie.level, .bool q.tie.over, .slice Ae q.tie.edges.length Ce, .slice Ar q.tie.reaches.length Cr, .int .i64 q.frm.dir, .int .i64 q.frm.orig, .int .i64 q.frm.kind, .int .i64 q.frm.nr, .int .i64 q.to.dir, .int .i64 q.to.orig, .int .i64 q.to.kind, .int .i64 q.to.nr, .slice Ah q.heads.length Ch]).rangeAt w3.heap.size 0 [.int .i64 q.kind, .int .i64 q.lie.node, .int .i64 q.lie.level, .int .i64 q.lie.pod, .int .i64 q.lie.mtu, .int .i64 q.lie.link, .int .i64 q.lie.nonce, .int .i64 q.lie.seen, .int .i64 q.lie.seenLink, .int .i64 q.lie.seenNonce, .int .i64 q.lie.hold, .bool q.lie.rep, .bool q.lie.noOffer, .int .i64 q.tie.head.id.dir, .int .i64 q.tie.head.id.orig, .int .i64 q.tie.head.id.kind, .int .i64 q.tie.head.id.nr, .int .i64 q.tie.head.seq, .int .i64 q.tie.head.life, .int .i64 q.tie.level, .bool q.tie.over, .slice Ae q.tie.edges.length Ce, .slice Ar q.tie.reaches.length Cr, .int .i64 q.frm.dir, .int .i64 q.frm.orig, .int .i64 q.frm.kind, .int .i64 q.frm.nr, .int .i64 q.to.dir, .int .i64 q.to.orig, .int .i64 q.to.kind, .int .i64 q.to.nr, .slice Ah q.heads.length Ch]) := World.rangeAt_setCells_same _ _ _ _ TH4.out; have BX0 := Lib.hid (below_cells ((B2.out.trans (hb3.mono B2.out.size)).alloc (by have := B2.out.size; have := hb3.size; omega) (.cells #[.int .i64 0, .int .i64 0, .int .i64 0, .int .i64 0, .int .i64 0, .int .i64 0, .int .i64 0, .int .i64 0, .int .i64 0, .int .i64 0, .int .i64 0, .bool false, .bool false, .int .i64 0, .int .i64 0, .int .i64 0, .int .i64 0, .int .i64 0, .int .i64 0, .int .i64 0, .bool false, .slice none 0 0, .slice none 0 0, .int .i64 0, .int .i64 0, .int .i64 0, .int .i64 0, .int .i64 0, .int .i64 0, .int .i64 0, .int .i64 0, .slice none 0 0] 36)) (b := w3.heap.size) (by have := B2.out.size; have := hb3.size; omega) [.int .i64 q.kind, .int .i64 q.lie.node, .int .i64 q.lie.level, .int .i64 q.lie.pod, .int .i64 q.lie.mtu, .int .i64 q.lie.link, .int .i64 q.lie.nonce, .int .i64 q.lie.seen, .int .i64 q.lie.seenLink, .int .i64 q.lie.seenNonce, .int .i64 q.lie.hold, .bool q.lie.rep, .bool q.lie.noOffer, .int .i64 q.tie.head.id.dir, .int .i64 q.tie.head.id.orig, .int .i64 q.tie.head.id.kind, .int .i64 q.tie.head.id.nr, .int .i64 q.tie.head.seq, .int .i64 q.tie.head.life, .int .i64 q.tie.level, .bool q.tie.over, .slice Ae q.tie.edges.length Ce, .slice Ar q.tie.reaches.length Cr, .int .i64 q.frm.dir, .int .i64 q.frm.orig, .int .i64 q.frm.kind, .int .i64 q.frm.nr, .int .i64 q.to.dir, .int .i64 q.to.orig, .int .i64 q.to.kind, .int .i64 q.to.nr, .slice Ah q.heads.length Ch] 0); have PK0 := Lib.hid ((hpk.below (below_cells ((Below.refl _ _).alloc (Nat.le_refl _) (.cells #[.int .i64 0, .int .i64 0, .int .i64 0, .int .i64 0, .int .i64 0, .int .i64 0, .int .i64 0, .int .i64 0, .int .i64 0, .int .i64 0, .int .i64 0, .bool false, .bool false, .int .i64 0, .int .i64 0, .int .i64 0, .int .i64 0, .int .i64 0, .int .i64 0, .int .i64 0, .bool false, .slice none 0 0, .slice none 0 0, .int .i64 0, .int .i64 0, .int .i64 0, .int .i64 0, .int .i64 0, .int .i64 0, .int .i64 0, .int .i64 0, .slice none 0 0] 36)) (b := w3.heap.size) (Nat.le_refl _) [.int .i64 q.kind, .int .i64 q.lie.node, .int .i64 q.lie.level, .int .i64 q.lie.pod, .int .i64 q.lie.mtu, .int .i64 q.lie.link, .int .i64 q.lie.nonce, .int .i64 q.lie.seen, .int .i64 q.lie.seenLink, .int .i64 q.lie.seenNonce, .int .i64 q.lie.hold, .bool q.lie.rep, .bool q.lie.noOffer, .int .i64 q.tie.head.id.dir, .int .i64 q.tie.head.id.orig, .int .i64 q.tie.head.id.kind, .int .i64 q.tie.head.id.nr, .int .i64 q.tie.head.seq, .int .i64 q.tie.head.life, .int .i64 q.tie.level, .bool q.tie.over, .slice Ae q.tie.edges.length Ce, .slice Ar q.tie.reaches.length Cr, .int .i64 q.frm.dir, .int .i64 q.frm.orig, .int .i64 q.frm.kind, .int .i64 q.frm.nr, .int .i64 q.to.dir, .int .i64 q.to.orig, .int .i64 q.to.kind, .int .i64 q.to.nr, .slice Ah q.heads.length Ch] 0)).mono (by rw [size_cells]; simp : w3.heap.size ≤ ((w3.alloc (.cells #[.int .i64 0, .int .i64 0, .int .i64 0, .int .i64 0, .int .i64 0, .int .i64 0, .int .i64 0, .int .i64 0, .int .i64 0, .int .i64 0, .int .i64 0, .bool false, .bool false, .int .i64 0, .int .i64 0, .int .i64 0, .int .i64 0, .int .i64 0, .int .i64 0, .int .i64 0, .bool false, .slice none 0 0, .slice none 0 0, .int .i64 0, .int .i64 0, .int .i64 0, .int .i64 0, .int .i64 0, .int .i64 0, .int .i64 0, .int .i64 0, .slice none 0 0] 36)).setCells w3.heap.size 0 [.int .i64 q.kind, .int .i64 q.lie.node, .int .i64 q.lie.level, .int .i64 q.lie.pod, .int .i64 q.lie.mtu, .int .i64 q.lie.link, .int .i64 q.lie.nonce, .int .i64 q.lie.seen, .int .i64 q.lie.seenLink, .int .i64 q.lie.seenNonce, .int .i64 q.lie.hold, .bool q.lie.rep, .bool q.lie.noOffer, .int .i64 q.tie.head.id.dir, .int .i64 q.tie.head.id.orig, .int .i64 q.tie.head.id.kind, .int .i64 q.tie.head.id.nr, .int .i64 q.tie.head.seq, .int .i64 q.tie.head.life, .int .i64 q.tie.level, .bool q.tie.over, .slice Ae q.tie.edges.length Ce, .slice Ar q.tie.reaches.length Cr, .int .i64 q.frm.dir, .int .i64 q.frm.orig, .int .i64 q.frm.kind, .int .i64 q.frm.nr, .int .i64 q.to.dir, .int .i64 q.to.orig, .int .i64 q.to.kind, .int .i64 q.to.nr, .slice Ah q.heads.length Ch]).heap.size)); have FA := Lib.hid (hfar.mono B2.out.size); clear hb3 hpk hfar)
    | (refine wpList_store_mid rfl 36 (.tmp 6) (.tmp 20) rfl w3.heap.size 0 #[.int .i64 q.kind, .int .i64 q.lie.node, .int .i64 q.lie.level, .int .i64 q.lie.pod, .int .i64 q.lie.mtu, .int .i64 q.lie.link, .int .i64 q.lie.nonce, .int .i64 q.lie.seen, .int .i64 q.lie.seenLink, .int .i64 q.lie.seenNonce, .int .i64 q.lie.hold, .bool q.lie.rep, .bool q.lie.noOffer, .int .i64 q.tie.head.id.dir, .int .i64 q.tie.head.id.orig, .int .i64 q.tie.head.id.kind, .int .i64 q.tie.head.id.nr, .int .i64 q.tie.head.seq, .int .i64 q.tie.head.life, .int .i64 q.tie.level, .bool q.tie.over, .slice Ae q.tie.edges.length Ce, .slice Ar q.tie.reaches.length Cr, .int .i64 q.frm.dir, .int .i64 q.frm.orig, .int .i64 q.frm.kind, .int .i64 q.frm.nr, .int .i64 q.to.dir, .int .i64 q.to.orig, .int .i64 q.to.kind, .int .i64 q.to.nr, .slice Ah q.heads.length Ch] rfl rfl TH4.out (by kernel_rfl) (by simp [Value.oneCell']) ?_; obtain ⟨W4, hW4⟩ : ∃ W4, ((w3.alloc (.cells #[.int .i64 0, .int .i64 0, .int .i64 0, .int .i64 0, .int .i64 0, .int .i64 0, .int .i64 0, .int .i64 0, .int .i64 0, .int .i64 0, .int .i64 0, .bool false, .bool false, .int .i64 0, .int .i64 0, .int .i64 0, .int .i64 0, .int .i64 0, .int .i64 0, .int .i64 0, .bool false, .slice none 0 0, .slice none 0 0, .int .i64 0, .int .i64 0, .int .i64 0, .int .i64 0, .int .i64 0, .int .i64 0, .int .i64 0, .int .i64 0, .slice none 0 0] 36)).setCells w3.heap.size 0 [.int .i64 q.kind, .int .i64 q.lie.node, .int .i64 q.lie.level, .int .i64 q.lie.pod, .int .i64 q.lie.mtu, .int .i64 q.lie.link, .int .i64 q.lie.nonce, .int .i64 q.lie.seen, .int .i64 q.lie.seenLink, .int .i64 q.lie.seenNonce, .int .i64 q.lie.hold, .bool q.lie.rep, .bool q.lie.noOffer, .int .i64 q.tie.head.id.dir, .int .i64 q.tie.head.id.orig, .int .i64 q.tie.head.id.kind, .int .i64 q.tie.head.id.nr, .int .i64 q.tie.head.seq, .int .i64 q.tie.head.life, .int .i64 q.tie.level, .bool q.tie.over, .slice Ae q.tie.edges.length Ce, .slice Ar q.tie.reaches.length Cr, .int .i64 q.frm.dir, .int .i64 q.frm.orig, .int .i64 q.frm.kind, .int .i64 q.frm.nr, .int .i64 q.to.dir, .int .i64 q.to.orig, .int .i64 q.to.kind, .int .i64 q.to.nr, .slice Ah q.heads.length Ch]) = W4 := ⟨_, rfl⟩; rw [hW4] at BX0 PK0 RG0 ⊢; have BX := Lib.hid BX0.out; have PK := Lib.hid PK0.out; have RG := Lib.hid RG0.out; clear hW4 BX0 PK0 RG0)
    | (refine wpList_load_mid rfl 36 (.tmp 6) rfl _ _ rfl _ _ RG.out Tryd.underlying36 rfl (by kernel_rfl) ?_)
    | (refine wpList_store_mid rfl 36 (.tmp 2) _ rfl w.heap.size 0 #[.int .i64 0, .int .i64 0, .int .i64 0, .int .i64 0, .int .i64 0, .int .i64 0, .int .i64 0, .int .i64 0, .int .i64 0, .int .i64 0, .int .i64 0, .bool false, .bool false, .int .i64 0, .int .i64 0, .int .i64 0, .int .i64 0, .int .i64 0, .int .i64 0, .int .i64 0, .bool false, .slice none 0 0, .slice none 0 0, .int .i64 0, .int .i64 0, .int .i64 0, .int .i64 0, .int .i64 0, .int .i64 0, .int .i64 0, .int .i64 0, .slice none 0 0] rfl rfl (there_keep (n := 32) HK.out (Nat.le_refl _) BX.out (by simp)) (by kernel_rfl) (by simp [Value.oneCell']) ?_; obtain ⟨W5, hW5⟩ : ∃ W5, World.setCells W4 w.heap.size 0 [.int .i64 0, .int .i64 0, .int .i64 0, .int .i64 0, .int .i64 0, .int .i64 0, .int .i64 0, .int .i64 0, .int .i64 0, .int .i64 0, .int .i64 0, .bool false, .bool false, .int .i64 0, .int .i64 0, .int .i64 0, .int .i64 0, .int .i64 0, .int .i64 0, .int .i64 0, .bool false, .slice none 0 0, .slice none 0 0, .int .i64 0, .int .i64 0, .int .i64 0, .int .i64 0, .int .i64 0, .int .i64 0, .int .i64 0, .int .i64 0, .slice none 0 0] = W5 := ⟨_, rfl⟩; rw [hW5]; have HW5 := Lib.hid hW5; clear hW5))
  refine bodyPost_ret (results_cell2 rfl rfl (b := w.heap.size) (o := 0) (cs := [.int .i64 0, .int .i64 0, .int .i64 0, .int .i64 0, .int .i64 0, .int .i64 0, .int .i64 0, .int .i64 0, .int .i64 0, .int .i64 0, .int .i64 0, .bool false, .bool false, .int .i64 0, .int .i64 0, .int .i64 0, .int .i64 0, .int .i64 0, .int .i64 0, .int .i64 0, .bool false, .slice none 0 0, .slice none 0 0, .int .i64 0, .int .i64 0, .int .i64 0, .int .i64 0, .int .i64 0, .int .i64 0, .int .i64 0, .int .i64 0, .slice none 0 0]) (by rw [← HW5.out]; exact World.rangeAt_setCells_same _ _ _ _ (there_keep (n := 32) HK.out (Nat.le_refl _) BX.out (by simp))) Tryd.underlying36 rfl (by kernel_rfl)) rfl ?_
  exact DecOut.none_ HD.out (by rw [← HW5.out]; exact below_cells (HB0.out.trans (BX.out.mono (by simp))) (Nat.le_refl _) _ _)
set_option maxRecDepth 100000 in
set_option maxHeartbeats 8000000 in
theorem wdec_ok (a : Option Addr) (cap : Nat) (zs : List Int) (hlen : zs.length ≤ 9223372036854775807) (hcap : zs.length ≤ cap) (hcm : cap ≤ 9223372036854775807) (hz : ∀ x ∈ zs, 0 ≤ x ∧ x ≤ 255) (w : World) (hr : Rd .u8 w.heap.size w a zs) (hT : Tab w) (l : List It) (hd : decB zs = some l) (hro : (readS (knownP l)).2 = true) :
    Calls Tryd.prog 9 #[.slice a zs.length cap] w (DecOut (decW zs) w) := by
  have hB0 := (Below.refl w.heap.size w).alloc (Nat.le_refl _) (.cells #[.int .i64 0, .int .i64 0, .int .i64 0, .int .i64 0, .int .i64 0, .int .i64 0, .int .i64 0, .int .i64 0, .int .i64 0, .int .i64 0, .int .i64 0, .bool false, .bool false, .int .i64 0, .int .i64 0, .int .i64 0, .int .i64 0, .int .i64 0, .int .i64 0, .int .i64 0, .bool false, .slice none 0 0, .slice none 0 0, .int .i64 0, .int .i64 0, .int .i64 0, .int .i64 0, .int .i64 0, .int .i64 0, .int .i64 0, .int .i64 0, .slice none 0 0] 36)
  have hbk : (w.alloc (.cells #[.int .i64 0, .int .i64 0, .int .i64 0, .int .i64 0, .int .i64 0, .int .i64 0, .int .i64 0, .int .i64 0, .int .i64 0, .int .i64 0, .int .i64 0, .bool false, .bool false, .int .i64 0, .int .i64 0, .int .i64 0, .int .i64 0, .int .i64 0, .int .i64 0, .int .i64 0, .bool false, .slice none 0 0, .slice none 0 0, .int .i64 0, .int .i64 0, .int .i64 0, .int .i64 0, .int .i64 0, .int .i64 0, .int .i64 0, .int .i64 0, .slice none 0 0] 36)).heap[w.heap.size]? = some (.cells #[.int .i64 0, .int .i64 0, .int .i64 0, .int .i64 0, .int .i64 0, .int .i64 0, .int .i64 0, .int .i64 0, .int .i64 0, .int .i64 0, .int .i64 0, .bool false, .bool false, .int .i64 0, .int .i64 0, .int .i64 0, .int .i64 0, .int .i64 0, .int .i64 0, .int .i64 0, .bool false, .slice none 0 0, .slice none 0 0, .int .i64 0, .int .i64 0, .int .i64 0, .int .i64 0, .int .i64 0, .int .i64 0, .int .i64 0, .int .i64 0, .slice none 0 0] 36 (0, 0)) := World.alloc_heap_new w _
  have hdec := pdecode_any a cap zs hlen hcap hcm hz (w.alloc (.cells #[.int .i64 0, .int .i64 0, .int .i64 0, .int .i64 0, .int .i64 0, .int .i64 0, .int .i64 0, .int .i64 0, .int .i64 0, .int .i64 0, .int .i64 0, .bool false, .bool false, .int .i64 0, .int .i64 0, .int .i64 0, .int .i64 0, .int .i64 0, .int .i64 0, .int .i64 0, .bool false, .slice none 0 0, .slice none 0 0, .int .i64 0, .int .i64 0, .int .i64 0, .int .i64 0, .int .i64 0, .int .i64 0, .int .i64 0, .int .i64 0, .slice none 0 0] 36)) ((hr.below hB0).mono (by simp))
  rw [hd] at hdec
  obtain ⟨e1, e2, e3, e4, e5⟩ := dec_bs hz hd
  obtain ⟨q, hq⟩ : ∃ q, (readS (knownP l)).1 = q := ⟨_, rfl⟩
  have HD := Lib.hid (show decW zs = some q by unfold decW; rw [hd]; simp only; rw [if_pos hro, hq])
  have hrd := fun (a : Option Addr) (n c : Nat) (hn : n = (knownP l).length) (hc : n ≤ c) (hm : c ≤ maxLen) (W : World) (hr : RdI W.heap.size W a (knownP l)) => read_any a n c (knownP l) hn hc hm W hr
  rw [hro, hq] at hrd
  have hkn := fun (a : Option Addr) (n c : Nat) (hn : n = l.length) (W : World) (hr : RdI W.heap.size W a l) (hT : Tab W) => wknown_any (a := a) (cap := c) hn (by omega) (fun x hx => by have := (e3 x hx).2; omega) hr hT
  have HDEC := Lib.hid hdec
  have HRD := Lib.hid hrd
  have HKN := Lib.hid hkn
  have HT0 := Lib.hid (hT.below hB0 hT.pos)
  have hpos := hT.pos
  have HB0 := Lib.hid hB0
  have HK := Lib.hid hbk
  clear hr hd hdec hB0 hbk hz hrd hkn hro hq e1 e2 e3 e4 e5 hT
  go_enter Tryd.func9, Tryd.ntmps9
  go_wp2_with (first
    | (go_at_call 22; refine HDEC.out.mono ?_; rintro e w1 ⟨A1, n1, c1, rfl, hn1, hc1, hm1, hr1, hb1⟩; have B1 := Lib.hid hb1; have N1 := Lib.hid hn1; have R1 := Lib.hid hr1; have T1 := Lib.hid (HT0.out.below hb1 (by simp)); clear hb1 hn1 hr1)
    | (go_at_call 13; refine (HKN.out A1 n1 c1 N1.out _ R1.out T1.out).mono ?_; rintro e w2 ⟨A2, n2, c2, rfl, hn2, hc2, hm2, hr2, hb2⟩; have B2 := Lib.hid (B1.out.trans (hb2.mono B1.out.size)); have N2 := Lib.hid hn2; have R2 := Lib.hid hr2; clear hb2 hn2 hr2)
    | (go_at_call 23; refine (HRD.out A2 n2 c2 N2.out hc2 hm2 _ R2.out).mono ?_; rintro e w3 ⟨Ae, Ar, Ah, Ce, Cr, Ch, rfl, hpk, hfar, hb3⟩; have TH4 := Lib.hid (there_of (n := 32) (World.alloc_heap_new w3 (.cells #[.int .i64 0, .int .i64 0, .int .i64 0, .int .i64 0, .int .i64 0, .int .i64 0, .int .i64 0, .int .i64 0, .int .i64 0, .int .i64 0, .int .i64 0, .bool false, .bool false, .int .i64 0, .int .i64 0, .int .i64 0, .int .i64 0, .int .i64 0, .int .i64 0, .int .i64 0, .bool false, .slice none 0 0, .slice none 0 0, .int .i64 0, .int .i64 0, .int .i64 0, .int .i64 0, .int .i64 0, .int .i64 0, .int .i64 0, .int .i64 0, .slice none 0 0] 36)) (Nat.le_refl _)); have RG0 : RowKit.Hid (((w3.alloc (.cells #[.int .i64 0, .int .i64 0, .int .i64 0, .int .i64 0, .int .i64 0, .int .i64 0, .int .i64 0, .int .i64 0, .int .i64 0, .int .i64 0, .int .i64 0, .bool false, .bool false, .int .i64 0, .int .i64 0, .int .i64 0, .int .i64 0, .int .i64 0, .int .i64 0, .int .i64 0, .bool false, .slice none 0 0, .slice none 0 0, .int .i64 0, .int .i64 0, .int .i64 0, .int .i64 0, .int .i64 0, .int .i64 0, .int .i64 0, .int .i64 0, .slice none 0 0] 36)).setCells w3.heap.size 0 [.int .i64 q.kind, .int .i64 q.lie.node, .int .i64 q.lie.level, .int .i64 q.lie.pod, .int .i64 q.lie.mtu, .int .i64 q.lie.link, .int .i64 q.lie.nonce, .int .i64 q.lie.seen, .int .i64 q.lie.seenLink, .int .i64 q.lie.seenNonce, .int .i64 q.lie.hold, .bool q.lie.rep, .bool q.lie.noOffer, .int .i64 q.tie.head.id.dir, .int .i64 q.tie.head.id.orig, .int .i64 q.tie.head.id.kind, .int .i64 q.tie.head.id.nr, .int .i64 q.tie.head.seq, .int .i64 q.tie.head.life, .int .i64 q.tie.level, .bool q.tie.over, .slice Ae q.tie.edges.length Ce, .slice Ar q.tie.reaches.length Cr, .int .i64 q.frm.dir, .int .i64 q.frm.orig, .int .i64 q.frm.kind, .int .i64 q.frm.nr, .int .i64 q.to.dir, .int .i64 q.to.orig, .int .i64 q.to.kind, .int .i64 q.to.nr, .slice Ah q.heads.length Ch]).rangeAt w3.heap.size 0 [.int .i64 q.kind, .int .i64 q.lie.node, .int .i64 q.lie.level, .int .i64 q.lie.pod, .int .i64 q.lie.mtu, .int .i64 q.lie.link, .int .i64 q.lie.nonce, .int .i64 q.lie.seen, .int .i64 q.lie.seenLink, .int .i64 q.lie.seenNonce, .int .i64 q.lie.hold, .bool q.lie.rep, .bool q.lie.noOffer, .int .i64 q.tie.head.id.dir, .int .i64 q.tie.head.id.orig, .int .i64 q.tie.head.id.kind, .int .i64 q.tie.head.id.nr, .int .i64 q.tie.head.seq, .int .i64 q.tie.head.life, .int .i64 q.tie.level, .bool q.tie.over, .slice Ae q.tie.edges.length Ce, .slice Ar q.tie.reaches.length Cr, .int .i64 q.frm.dir, .int .i64 q.frm.orig, .int .i64 q.frm.kind, .int .i64 q.frm.nr, .int .i64 q.to.dir, .int .i64 q.to.orig, .int .i64 q.to.kind, .int .i64 q.to.nr, .slice Ah q.heads.length Ch]) := World.rangeAt_setCells_same _ _ _ _ TH4.out; have BX0 := Lib.hid (below_cells ((B2.out.trans (hb3.mono B2.out.size)).alloc (by have := B2.out.size; have := hb3.size; omega) (.cells #[.int .i64 0, .int .i64 0, .int .i64 0, .int .i64 0, .int .i64 0, .int .i64 0, .int .i64 0, .int .i64 0, .int .i64 0, .int .i64 0, .int .i64 0, .bool false, .bool false, .int .i64 0, .int .i64 0, .int .i64 0, .int .i64 0, .int .i64 0, .int .i64 0, .int .i64 0, .bool false, .slice none 0 0, .slice none 0 0, .int .i64 0, .int .i64 0, .int .i64 0, .int .i64 0, .int .i64 0, .int .i64 0, .int .i64 0, .int .i64 0, .slice none 0 0] 36)) (b := w3.heap.size) (by have := B2.out.size; have := hb3.size; omega) [.int .i64 q.kind, .int .i64 q.lie.node, .int .i64 q.lie.level, .int .i64 q.lie.pod, .int .i64 q.lie.mtu, .int .i64 q.lie.link, .int .i64 q.lie.nonce, .int .i64 q.lie.seen, .int .i64 q.lie.seenLink, .int .i64 q.lie.seenNonce, .int .i64 q.lie.hold, .bool q.lie.rep, .bool q.lie.noOffer, .int .i64 q.tie.head.id.dir, .int .i64 q.tie.head.id.orig, .int .i64 q.tie.head.id.kind, .int .i64 q.tie.head.id.nr, .int .i64 q.tie.head.seq, .int .i64 q.tie.head.life, .int .i64 q.tie.level, .bool q.tie.over, .slice Ae q.tie.edges.length Ce, .slice Ar q.tie.reaches.length Cr, .int .i64 q.frm.dir, .int .i64 q.frm.orig, .int .i64 q.frm.kind, .int .i64 q.frm.nr, .int .i64 q.to.dir, .int .i64 q.to.orig, .int .i64 q.to.kind, .int .i64 q.to.nr, .slice Ah q.heads.length Ch] 0); have PK0 := Lib.hid ((hpk.below (below_cells ((Below.refl _ _).alloc (Nat.le_refl _) (.cells #[.int .i64 0, .int .i64 0, .int .i64 0, .int .i64 0, .int .i64 0, .int .i64 0, .int .i64 0, .int .i64 0, .int .i64 0, .int .i64 0, .int .i64 0, .bool false, .bool false, .int .i64 0, .int .i64 0, .int .i64 0, .int .i64 0, .int .i64 0, .int .i64 0, .int .i64 0, .bool false, .slice none 0 0, .slice none 0 0, .int .i64 0, .int .i64 0, .int .i64 0, .int .i64 0, .int .i64 0, .int .i64 0, .int .i64 0, .int .i64 0, .slice none 0 0] 36)) (b := w3.heap.size) (Nat.le_refl _) [.int .i64 q.kind, .int .i64 q.lie.node, .int .i64 q.lie.level, .int .i64 q.lie.pod, .int .i64 q.lie.mtu, .int .i64 q.lie.link, .int .i64 q.lie.nonce, .int .i64 q.lie.seen, .int .i64 q.lie.seenLink, .int .i64 q.lie.seenNonce, .int .i64 q.lie.hold, .bool q.lie.rep, .bool q.lie.noOffer, .int .i64 q.tie.head.id.dir, .int .i64 q.tie.head.id.orig, .int .i64 q.tie.head.id.kind, .int .i64 q.tie.head.id.nr, .int .i64 q.tie.head.seq, .int .i64 q.tie.head.life, .int .i64 q.tie.level, .bool q.tie.over, .slice Ae q.tie.edges.length Ce, .slice Ar q.tie.reaches.length Cr, .int .i64 q.frm.dir, .int .i64 q.frm.orig, .int .i64 q.frm.kind, .int .i64 q.frm.nr, .int .i64 q.to.dir, .int .i64 q.to.orig, .int .i64 q.to.kind, .int .i64 q.to.nr, .slice Ah q.heads.length Ch] 0)).mono (by rw [size_cells]; simp : w3.heap.size ≤ ((w3.alloc (.cells #[.int .i64 0, .int .i64 0, .int .i64 0, .int .i64 0, .int .i64 0, .int .i64 0, .int .i64 0, .int .i64 0, .int .i64 0, .int .i64 0, .int .i64 0, .bool false, .bool false, .int .i64 0, .int .i64 0, .int .i64 0, .int .i64 0, .int .i64 0, .int .i64 0, .int .i64 0, .bool false, .slice none 0 0, .slice none 0 0, .int .i64 0, .int .i64 0, .int .i64 0, .int .i64 0, .int .i64 0, .int .i64 0, .int .i64 0, .int .i64 0, .slice none 0 0] 36)).setCells w3.heap.size 0 [.int .i64 q.kind, .int .i64 q.lie.node, .int .i64 q.lie.level, .int .i64 q.lie.pod, .int .i64 q.lie.mtu, .int .i64 q.lie.link, .int .i64 q.lie.nonce, .int .i64 q.lie.seen, .int .i64 q.lie.seenLink, .int .i64 q.lie.seenNonce, .int .i64 q.lie.hold, .bool q.lie.rep, .bool q.lie.noOffer, .int .i64 q.tie.head.id.dir, .int .i64 q.tie.head.id.orig, .int .i64 q.tie.head.id.kind, .int .i64 q.tie.head.id.nr, .int .i64 q.tie.head.seq, .int .i64 q.tie.head.life, .int .i64 q.tie.level, .bool q.tie.over, .slice Ae q.tie.edges.length Ce, .slice Ar q.tie.reaches.length Cr, .int .i64 q.frm.dir, .int .i64 q.frm.orig, .int .i64 q.frm.kind, .int .i64 q.frm.nr, .int .i64 q.to.dir, .int .i64 q.to.orig, .int .i64 q.to.kind, .int .i64 q.to.nr, .slice Ah q.heads.length Ch]).heap.size)); have FA := Lib.hid (hfar.mono B2.out.size); clear hb3 hpk hfar)
    | (refine wpList_store_mid rfl 36 (.tmp 6) (.tmp 20) rfl w3.heap.size 0 #[.int .i64 q.kind, .int .i64 q.lie.node, .int .i64 q.lie.level, .int .i64 q.lie.pod, .int .i64 q.lie.mtu, .int .i64 q.lie.link, .int .i64 q.lie.nonce, .int .i64 q.lie.seen, .int .i64 q.lie.seenLink, .int .i64 q.lie.seenNonce, .int .i64 q.lie.hold, .bool q.lie.rep, .bool q.lie.noOffer, .int .i64 q.tie.head.id.dir, .int .i64 q.tie.head.id.orig, .int .i64 q.tie.head.id.kind, .int .i64 q.tie.head.id.nr, .int .i64 q.tie.head.seq, .int .i64 q.tie.head.life, .int .i64 q.tie.level, .bool q.tie.over, .slice Ae q.tie.edges.length Ce, .slice Ar q.tie.reaches.length Cr, .int .i64 q.frm.dir, .int .i64 q.frm.orig, .int .i64 q.frm.kind, .int .i64 q.frm.nr, .int .i64 q.to.dir, .int .i64 q.to.orig, .int .i64 q.to.kind, .int .i64 q.to.nr, .slice Ah q.heads.length Ch] rfl rfl TH4.out (by kernel_rfl) (by simp [Value.oneCell']) ?_; obtain ⟨W4, hW4⟩ : ∃ W4, ((w3.alloc (.cells #[.int .i64 0, .int .i64 0, .int .i64 0, .int .i64 0, .int .i64 0, .int .i64 0, .int .i64 0, .int .i64 0, .int .i64 0, .int .i64 0, .int .i64 0, .bool false, .bool false, .int .i64 0, .int .i64 0, .int .i64 0, .int .i64 0, .int .i64 0, .int .i64 0, .int .i64 0, .bool false, .slice none 0 0, .slice none 0 0, .int .i64 0, .int .i64 0, .int .i64 0, .int .i64 0, .int .i64 0, .int .i64 0, .int .i64 0, .int .i64 0, .slice none 0 0] 36)).setCells w3.heap.size 0 [.int .i64 q.kind, .int .i64 q.lie.node, .int .i64 q.lie.level, .int .i64 q.lie.pod, .int .i64 q.lie.mtu, .int .i64 q.lie.link, .int .i64 q.lie.nonce, .int .i64 q.lie.seen, .int .i64 q.lie.seenLink, .int .i64 q.lie.seenNonce, .int .i64 q.lie.hold, .bool q.lie.rep, .bool q.lie.noOffer, .int .i64 q.tie.head.id.dir, .int .i64 q.tie.head.id.orig, .int .i64 q.tie.head.id.kind, .int .i64 q.tie.head.id.nr, .int .i64 q.tie.head.seq, .int .i64 q.tie.head.life, .int .i64 q.tie.level, .bool q.tie.over, .slice Ae q.tie.edges.length Ce, .slice Ar q.tie.reaches.length Cr, .int .i64 q.frm.dir, .int .i64 q.frm.orig, .int .i64 q.frm.kind, .int .i64 q.frm.nr, .int .i64 q.to.dir, .int .i64 q.to.orig, .int .i64 q.to.kind, .int .i64 q.to.nr, .slice Ah q.heads.length Ch]) = W4 := ⟨_, rfl⟩; rw [hW4] at BX0 PK0 RG0 ⊢; have BX := Lib.hid BX0.out; have PK := Lib.hid PK0.out; have RG := Lib.hid RG0.out; clear hW4 BX0 PK0 RG0)
    | (refine wpList_load_mid rfl 36 (.tmp 6) rfl _ _ rfl _ _ RG.out Tryd.underlying36 rfl (by kernel_rfl) ?_)
    | (refine wpList_store_mid rfl 36 (.tmp 2) _ rfl w.heap.size 0 #[.int .i64 q.kind, .int .i64 q.lie.node, .int .i64 q.lie.level, .int .i64 q.lie.pod, .int .i64 q.lie.mtu, .int .i64 q.lie.link, .int .i64 q.lie.nonce, .int .i64 q.lie.seen, .int .i64 q.lie.seenLink, .int .i64 q.lie.seenNonce, .int .i64 q.lie.hold, .bool q.lie.rep, .bool q.lie.noOffer, .int .i64 q.tie.head.id.dir, .int .i64 q.tie.head.id.orig, .int .i64 q.tie.head.id.kind, .int .i64 q.tie.head.id.nr, .int .i64 q.tie.head.seq, .int .i64 q.tie.head.life, .int .i64 q.tie.level, .bool q.tie.over, .slice Ae q.tie.edges.length Ce, .slice Ar q.tie.reaches.length Cr, .int .i64 q.frm.dir, .int .i64 q.frm.orig, .int .i64 q.frm.kind, .int .i64 q.frm.nr, .int .i64 q.to.dir, .int .i64 q.to.orig, .int .i64 q.to.kind, .int .i64 q.to.nr, .slice Ah q.heads.length Ch] rfl rfl (there_keep (n := 32) HK.out (Nat.le_refl _) BX.out (by simp)) (by kernel_rfl) (by simp [Value.oneCell']) ?_; obtain ⟨W5, hW5⟩ : ∃ W5, World.setCells W4 w.heap.size 0 [.int .i64 q.kind, .int .i64 q.lie.node, .int .i64 q.lie.level, .int .i64 q.lie.pod, .int .i64 q.lie.mtu, .int .i64 q.lie.link, .int .i64 q.lie.nonce, .int .i64 q.lie.seen, .int .i64 q.lie.seenLink, .int .i64 q.lie.seenNonce, .int .i64 q.lie.hold, .bool q.lie.rep, .bool q.lie.noOffer, .int .i64 q.tie.head.id.dir, .int .i64 q.tie.head.id.orig, .int .i64 q.tie.head.id.kind, .int .i64 q.tie.head.id.nr, .int .i64 q.tie.head.seq, .int .i64 q.tie.head.life, .int .i64 q.tie.level, .bool q.tie.over, .slice Ae q.tie.edges.length Ce, .slice Ar q.tie.reaches.length Cr, .int .i64 q.frm.dir, .int .i64 q.frm.orig, .int .i64 q.frm.kind, .int .i64 q.frm.nr, .int .i64 q.to.dir, .int .i64 q.to.orig, .int .i64 q.to.kind, .int .i64 q.to.nr, .slice Ah q.heads.length Ch] = W5 := ⟨_, rfl⟩; rw [hW5]; have HW5 := Lib.hid hW5; clear hW5))
  refine bodyPost_ret (results_cell2 rfl rfl (b := w.heap.size) (o := 0) (cs := [.int .i64 q.kind, .int .i64 q.lie.node, .int .i64 q.lie.level, .int .i64 q.lie.pod, .int .i64 q.lie.mtu, .int .i64 q.lie.link, .int .i64 q.lie.nonce, .int .i64 q.lie.seen, .int .i64 q.lie.seenLink, .int .i64 q.lie.seenNonce, .int .i64 q.lie.hold, .bool q.lie.rep, .bool q.lie.noOffer, .int .i64 q.tie.head.id.dir, .int .i64 q.tie.head.id.orig, .int .i64 q.tie.head.id.kind, .int .i64 q.tie.head.id.nr, .int .i64 q.tie.head.seq, .int .i64 q.tie.head.life, .int .i64 q.tie.level, .bool q.tie.over, .slice Ae q.tie.edges.length Ce, .slice Ar q.tie.reaches.length Cr, .int .i64 q.frm.dir, .int .i64 q.frm.orig, .int .i64 q.frm.kind, .int .i64 q.frm.nr, .int .i64 q.to.dir, .int .i64 q.to.orig, .int .i64 q.to.kind, .int .i64 q.to.nr, .slice Ah q.heads.length Ch]) (by rw [← HW5.out]; exact World.rangeAt_setCells_same _ _ _ _ (there_keep (n := 32) HK.out (Nat.le_refl _) BX.out (by simp))) Tryd.underlying36 rfl (by kernel_rfl)) rfl ?_
  exact DecOut.some_ HD.out (by have h5 := PK.out.apart (B := w.heap.size) FA.out (by simp) 0 [.int .i64 q.kind, .int .i64 q.lie.node, .int .i64 q.lie.level, .int .i64 q.lie.pod, .int .i64 q.lie.mtu, .int .i64 q.lie.link, .int .i64 q.lie.nonce, .int .i64 q.lie.seen, .int .i64 q.lie.seenLink, .int .i64 q.lie.seenNonce, .int .i64 q.lie.hold, .bool q.lie.rep, .bool q.lie.noOffer, .int .i64 q.tie.head.id.dir, .int .i64 q.tie.head.id.orig, .int .i64 q.tie.head.id.kind, .int .i64 q.tie.head.id.nr, .int .i64 q.tie.head.seq, .int .i64 q.tie.head.life, .int .i64 q.tie.level, .bool q.tie.over, .slice Ae q.tie.edges.length Ce, .slice Ar q.tie.reaches.length Cr, .int .i64 q.frm.dir, .int .i64 q.frm.orig, .int .i64 q.frm.kind, .int .i64 q.frm.nr, .int .i64 q.to.dir, .int .i64 q.to.orig, .int .i64 q.to.kind, .int .i64 q.to.nr, .slice Ah q.heads.length Ch]; rw [← HW5.out, size_cells]; exact h5) (by rw [← HW5.out]; exact below_cells (HB0.out.trans (BX.out.mono (by simp))) (Nat.le_refl _) _ _)
/-- DECODE, of any bytes. -/
theorem wdec_any (a : Option Addr) (cap : Nat) (zs : List Int) (hlen : zs.length ≤ 9223372036854775807) (hcap : zs.length ≤ cap) (hcm : cap ≤ 9223372036854775807) (hz : ∀ x ∈ zs, 0 ≤ x ∧ x ≤ 255) (w : World) (hr : Rd .u8 w.heap.size w a zs) (hT : Tab w) :
    Calls Tryd.prog 9 #[.slice a zs.length cap] w (DecOut (decW zs) w) := by
  rcases hd : decB zs with _ | l
  · exact wdec_form a cap zs hlen hcap hcm hz w hr hd
  rcases Bool.eq_false_or_eq_true (readS (knownP l)).2 with hro | hro
  · exact wdec_ok a cap zs hlen hcap hcm hz w hr hT l hd hro
  · exact wdec_bad a cap zs hlen hcap hcm hz w hr hT l hd hro
end Go.Proofs.YtgngcpbkopjjlaaDoor
