/-
  A LINK'S END as data: ports, who is heard, what an end does with what it hears.
-/
import Derived.Test.YticbfmbinopjcaaLFresh
import Derived.Test.YticbfmbinopjcaaWMath
namespace Go.Proofs.Yticbfmbinopjcaa
set_option linter.unusedSimpArgs false
set_option linter.unusedVariables false
open Go.RowKit
structure PortT where
  node : Int
  level : Int
  pod : Int
  mtu : Int
  link : Int
  hold : Int
structure OtherT where
  node : Int
  link : Int
  level : Int
  nonce : Int
def OtherT.zero : OtherT := ⟨0, 0, 0, 0⟩
structure EndT where
  p : PortT
  s : Int
  nonce : Int
  o : OtherT
  till : Int
def portB (p : PortT) : Prop := (1 ≤ p.node ∧ p.node ≤ 1000) ∧ (-1 ≤ p.level ∧ p.level ≤ 24) ∧ (0 ≤ p.pod ∧ p.pod ≤ 65535) ∧ (0 ≤ p.mtu ∧ p.mtu ≤ 65535) ∧ (0 ≤ p.link ∧ p.link ≤ 65535) ∧ (1 ≤ p.hold ∧ p.hold ≤ 1000)
instance (p : PortT) : Decidable (portB p) := by unfold portB; infer_instance
/-- Which levels two nodes beside one another may have. -/
def levB (a b : Int) : Prop := 0 ≤ a ∧ 0 ≤ b ∧ ((a = 0 ∨ b = 0) ∧ a ≠ b ∨ a ≠ 0 ∧ b ≠ 0 ∧ a - b ≤ 1 ∧ b - a ≤ 1)
instance (a b : Int) : Decidable (levB a b) := by unfold levB; infer_instance
def podB (a b : Int) : Prop := a = b ∨ a = 0 ∨ b = 0
instance (a b : Int) : Decidable (podB a b) := by unfold podB; infer_instance
def accB (p : PortT) (x : LieT) : Prop := x.node ≠ p.node ∧ x.mtu = p.mtu ∧ podB p.pod x.pod ∧ levB p.level x.level
instance (p : PortT) (x : LieT) : Decidable (accB p x) := by unfold accB; infer_instance
instance (a b c : Int) : Decidable (freshN a b c) := by unfold freshN okIn; infer_instance
def timeB (n : Int) : Prop := 0 ≤ n ∧ n ≤ 1099511627776
instance (n : Int) : Decidable (timeB n) := by unfold timeB; infer_instance
/-- Is that the one who is heard? -/
def sameO (o : OtherT) (x : LieT) : Prop := o.node = x.node ∧ o.link = x.link
instance (o : OtherT) (x : LieT) : Decidable (sameO o x) := by unfold sameO; infer_instance
def newE (p : PortT) : EndT := ⟨p, 0, 1, OtherT.zero, 0⟩
def fallE (e : EndT) (s : Int) : EndT := { e with o := OtherT.zero, s := s }
def hearE (e : EndT) (x : LieT) (now : Int) : EndT :=
  { e with o := ⟨x.node, x.link, x.level, x.nonce⟩, till := now + x.hold, s := if x.seen = e.p.node ∧ x.seenLink = e.p.link ∧ freshN x.seenNonce e.nonce 16 then 2 else 1 }
/-- An end takes what it hears: what it answers, and what it then is. -/
def takeE (e : EndT) (x : LieT) (now : Int) : Int × EndT :=
  if ¬ timeB now then (1, e)
  else if lieR x = false then (2, e)
  else if ¬ accB e.p x then (6, if sameO e.o x then fallE e 0 else e)
  else if e.s = 3 then (6, e)
  else if e.o.node ≠ 0 ∧ ¬ sameO e.o x then (0, { fallE e 3 with till := now + 4 })
  else (0, hearE e x now)
def tickE (e : EndT) (now : Int) : Int × EndT :=
  if ¬ timeB now then (1, e)
  else if e.s ≠ 0 ∧ e.till ≤ now then (0, fallE { e with nonce := nextN e.nonce } 0) else (0, { e with nonce := nextN e.nonce })
def levelE (e : EndT) (l : Int) : Int × EndT :=
  if ¬ (-1 ≤ l ∧ l ≤ 24) then (1, e) else if l = e.p.level then (0, e) else (0, fallE { e with p := { e.p with level := l } } 0)
def sayE (e : EndT) : LieT := ⟨e.p.node, e.p.level, e.p.pod, e.p.mtu, e.p.link, e.nonce, e.o.node, e.o.link, e.o.nonce, e.p.hold, false, false⟩
/-- What holds of an end: its port may be; nobody is heard, or somebody whose number is above 0. -/
structure InvE (e : EndT) : Prop where
  port : portB e.p
  nonce : 1 ≤ e.nonce ∧ e.nonce ≤ 65535
  o : e.o = OtherT.zero ∨ 1 ≤ e.o.node
  s : e.s = 0 ∨ e.s = 1 ∨ e.s = 2 ∨ e.s = 3
  heard : e.o.node ≠ 0 ↔ (e.s = 1 ∨ e.s = 2)
  level : -9223372036854775808 ≤ e.o.level ∧ e.o.level ≤ 9223372036854775807
theorem nextN_in (n : Int) : 1 ≤ nextN n ∧ nextN n ≤ 65535 := by unfold nextN; split <;> omega
theorem lie_facts {x : LieT} (h : lieR x = true) : (1 ≤ x.node ∧ x.node ≤ 1000) ∧ (-1 ≤ x.level ∧ x.level ≤ 24) ∧ (0 ≤ x.nonce ∧ x.nonce ≤ 65535) ∧ (0 ≤ x.hold ∧ x.hold ≤ 65535) := by
  simp only [lieR, rgB, Bool.and_eq_true, decide_eq_true_eq] at h
  exact ⟨by omega, by omega, by omega, by omega⟩
theorem newE_inv {p : PortT} (h : portB p) : InvE (newE p) := ⟨h, by simp [newE], .inl rfl, .inl rfl, by simp [newE, OtherT.zero], by simp [newE, OtherT.zero]⟩
theorem fallE_inv {e : EndT} (h : InvE e) {s : Int} (hs : s = 0 ∨ s = 3) : InvE (fallE e s) :=
  ⟨h.port, h.nonce, .inl rfl, by rcases hs with rfl | rfl <;> simp [fallE], by rcases hs with rfl | rfl <;> simp [fallE, OtherT.zero], by simp [fallE, OtherT.zero]⟩
theorem hearE_inv {e : EndT} (h : InvE e) {x : LieT} (hx : lieR x = true) (now : Int) : InvE (hearE e x now) := by
  have f := lie_facts hx
  refine ⟨h.port, h.nonce, .inr (by simp [hearE]; omega), ?_, ?_, by simp [hearE]; omega⟩
  · simp only [hearE]; split <;> simp
  · simp only [hearE]; split <;> simp <;> omega
theorem takeE_inv {e : EndT} (h : InvE e) (x : LieT) (now : Int) : InvE (takeE e x now).2 := by
  unfold takeE
  split
  · exact h
  · split
    · exact h
    · rename_i hx
      have hx : lieR x = true := by simpa using hx
      split
      · simp only; split
        · exact fallE_inv h (.inl rfl)
        · exact h
      · split
        · exact h
        · split
          · have := fallE_inv h (s := 3) (.inr rfl)
            exact ⟨this.port, this.nonce, this.o, this.s, this.heard, this.level⟩
          · exact hearE_inv h hx now
theorem tickE_inv {e : EndT} (h : InvE e) (now : Int) : InvE (tickE e now).2 := by
  have h2 : InvE { e with nonce := nextN e.nonce } := ⟨h.port, nextN_in _, h.o, h.s, h.heard, h.level⟩
  unfold tickE
  split
  · exact h
  · split
    · exact fallE_inv h2 (.inl rfl)
    · exact h2
theorem levelE_inv {e : EndT} (h : InvE e) (l : Int) : InvE (levelE e l).2 := by
  unfold levelE
  split
  · exact h
  · rename_i hl
    split
    · exact h
    · have : InvE (fallE { e with p := { e.p with level := l } } 0) := by
        have k := h.port
        have hl : -1 ≤ l ∧ l ≤ 24 := by omega
        exact ⟨⟨k.1, hl, k.2.2⟩, h.nonce, .inl rfl, .inl rfl, by simp [fallE, OtherT.zero], by simp [fallE, OtherT.zero]⟩
      exact this
/-- The packet in which a lie stands. -/
def lieP (x : LieT) : PackT := ⟨1, x, TieT.zero, IdT.zero, IdT.zero, []⟩
theorem lieP_right (x : LieT) : rightW (lieP x) = lieR x := by
  simp [rightW, packR, lieP, unusedB, TieT.nil, HeadT.nil, IdT.nil, TieT.zero, HeadT.zero, IdT.zero]
end Go.Proofs.Yticbfmbinopjcaa
