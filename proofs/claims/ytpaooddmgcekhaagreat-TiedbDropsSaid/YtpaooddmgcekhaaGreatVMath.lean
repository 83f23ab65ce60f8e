/-
  THE DATABASE as data: pieces by their ids, each with its moment; what is put, asked for, dropped, forgotten, told.
-/
import Derived.Test.YtpaooddmgcekhaaGreatTMath
import Derived.Test.YtpaooddmgcekhaaGreatWMath
namespace Go.Proofs.YtpaooddmgcekhaaGreat.ti
set_option linter.unusedSimpArgs false
set_option linter.unusedVariables false
structure TiV where
  hd : THd
  level : Int
  over : Bool
  es : List EdgeT
  rs : List ReachT
def TiV.tie (t : TiV) : TieT := ⟨⟨⟨t.hd.id.d, t.hd.id.o, t.hd.id.k, t.hd.id.n⟩, t.hd.seq, t.hd.life⟩, t.level, t.over, t.es, t.rs⟩
def TiV.nil : TiV := ⟨⟨⟨0, 0, 0, 0⟩, 0, 0⟩, 0, false, [], []⟩
structure EnT where
  t : TiV
  exp : Int
def EnT.id (e : EnT) : TId := e.t.hd.id
/-- May a piece be? -/
def rightV (t : TiV) : Bool := tieR t.tie
def momD (n : Int) : Prop := 0 ≤ n ∧ n ≤ 1099511627776
instance (n : Int) : Decidable (momD n) := by unfold momD; infer_instance
def leftD (e : EnT) (now : Int) : Int := if e.exp - now < 0 then 0 else e.exp - now
def headD (e : EnT) (now : Int) : THd := ⟨e.t.hd.id, e.t.hd.seq, leftD e now⟩
def toldD (e : EnT) (now : Int) : TiV := ⟨headD e now, e.t.level, e.t.over, e.t.es, e.t.rs⟩
def AscD (K : List EnT) : Prop := K.Pairwise fun a b => lexT a.id b.id
def findD (K : List EnT) (i : TId) : Option EnT := K.find? fun x => decide (x.id = i)
def restD (K : List EnT) (i : TId) : List EnT := K.filter fun x => !decide (x.id = i)
def insD : List EnT → EnT → List EnT
  | [], e => [e]
  | x :: r, e => if lexT x.id e.id then x :: insD r e else if x.id = e.id then e :: r else e :: x :: r
def enD (t : TiV) (now : Int) : EnT := ⟨t, now + t.hd.life⟩
/-- Put: what it says, its error, the base behind it. -/
def putD (room : Int) (K : List EnT) (t : TiV) (now : Int) : Int × Int × List EnT :=
  if ¬ (rightV t = true ∧ momD now) then (0, 1, K)
  else match findD K t.hd.id with
    | some x => if 0 < newT t.hd (headD x now) then (2, 0, insD K (enD t now)) else (newT t.hd (headD x now), 0, K)
    | none => if room ≤ K.length then (0, 3, K) else (1, 0, insD K (enD t now))
def isD (x : EnT) (now : Int) : Prop := momD now ∧ now < x.exp
instance (x : EnT) (now : Int) : Decidable (isD x now) := by unfold isD; infer_instance
def getD (K : List EnT) (i : TId) (now : Int) : TiV × Bool := match findD K i with
  | some x => if isD x now then (toldD x now, true) else (TiV.nil, false)
  | none => (TiV.nil, false)
def overD (K : List EnT) (now : Int) : List EnT := K.filter fun x => decide (x.exp ≤ now)
def keptD (K : List EnT) (now : Int) : List EnT := K.filter fun x => !decide (x.exp ≤ now)
def ageD (K : List EnT) (now : Int) : List TId × List EnT := if momD now then ((overD K now).map EnT.id, keptD K now) else ([], K)
def aliveD (K : List EnT) (now : Int) : List EnT := K.filter fun x => decide (isD x now)
def allD (K : List EnT) (now : Int) : List TiV := (aliveD K now).map fun x => toldD x now
def headsD (K : List EnT) (now : Int) : List THd := (aliveD K now).map fun x => headD x now
/-- What holds of every base. -/
structure InvD (room : Int) (K : List EnT) : Prop where
  asc : AscD K
  ok : ∀ x ∈ K, rightV x.t = true ∧ 0 ≤ x.exp ∧ x.exp ≤ 1099512232576
  room : K.length ≤ room
theorem findD_is {K : List EnT} {i : TId} {x : EnT} (h : findD K i = some x) : x ∈ K ∧ x.id = i := by
  unfold findD at h
  have h2 := List.find?_some h
  exact ⟨List.mem_of_find?_eq_some h, of_decide_eq_true h2⟩
theorem findD_not {K : List EnT} {i : TId} (h : ∀ x ∈ K, x.id ≠ i) : findD K i = none := by
  unfold findD
  exact List.find?_eq_none.2 fun x hx => by simpa using h x hx
theorem findD_none {K : List EnT} {i : TId} (h : findD K i = none) : ∀ x ∈ K, x.id ≠ i := fun x hx e => by
  have := List.find?_eq_none.1 h x hx
  simp [e] at this
theorem restD_mem {K : List EnT} {i : TId} {x : EnT} : x ∈ restD K i ↔ x ∈ K ∧ x.id ≠ i := by
  unfold restD
  simp
theorem insD_mem {K : List EnT} {e x : EnT} (hx : x ∈ insD K e) : x = e ∨ x ∈ K := by
  induction K with
  | nil => simp [insD] at hx; exact .inl hx
  | cons y r ih =>
    unfold insD at hx
    split at hx
    · rcases List.mem_cons.1 hx with rfl | hx
      · exact .inr (by simp)
      · rcases ih hx with q | q
        · exact .inl q
        · exact .inr (List.mem_cons_of_mem _ q)
    · split at hx
      · rcases List.mem_cons.1 hx with rfl | hx
        · exact .inl rfl
        · exact .inr (List.mem_cons_of_mem _ hx)
      · rcases List.mem_cons.1 hx with rfl | hx
        · exact .inl rfl
        · exact .inr hx
theorem insD_asc {K : List EnT} (h : AscD K) (e : EnT) : AscD (insD K e) := by
  induction K with
  | nil => simp [insD, AscD]
  | cons y r ih =>
    obtain ⟨h1, h2⟩ := List.pairwise_cons.1 h
    unfold insD
    split
    · rename_i hl
      exact List.pairwise_cons.2 ⟨fun z hz => by rcases insD_mem hz with rfl | hz; exact hl; exact h1 z hz, ih h2⟩
    · rename_i hl
      split
      · rename_i he
        exact List.pairwise_cons.2 ⟨fun z hz => by rw [← he]; exact h1 z hz, h2⟩
      · rename_i he
        have hxy : lexT e.id y.id := by rcases lex_tot y.id e.id with q | q | q; exact absurd q hl; exact absurd q he; exact q
        exact List.pairwise_cons.2 ⟨fun z hz => by rcases List.mem_cons.1 hz with rfl | hz; exact hxy; exact lex_tr hxy (h1 z hz), h⟩
theorem restD_all {K : List EnT} {i : TId} (h : ∀ x ∈ K, x.id ≠ i) : restD K i = K := by
  unfold restD
  exact List.filter_eq_self.2 fun x hx => by simp [h x hx]
theorem asc_ne {K : List EnT} {i : TId} (h : ∀ x ∈ K, lexT i x.id) : ∀ x ∈ K, x.id ≠ i := fun x hx e => lex_irr i (by have := h x hx; rwa [e] at this)
theorem insD_perm : ∀ {K : List EnT} {e : EnT}, AscD K → (insD K e).Perm (restD K e.id ++ [e])
  | [], e, _ => by simp [insD, restD]
  | y :: r, e, ha => by
    obtain ⟨h1, h2⟩ := List.pairwise_cons.1 ha
    unfold insD
    by_cases c1 : lexT y.id e.id
    · rw [if_pos c1]
      have hne : ¬ y.id = e.id := fun q => lex_irr y.id (by rw [q] at c1 ⊢; exact c1)
      have e1 : restD (y :: r) e.id = y :: restD r e.id := by unfold restD; simp [hne]
      rw [e1]
      exact (insD_perm h2).cons y
    · rw [if_neg c1]
      by_cases c2 : y.id = e.id
      · rw [if_pos c2]
        have e1 : restD (y :: r) e.id = r := by
          have : restD (y :: r) e.id = restD r e.id := by unfold restD; simp [c2]
          rw [this, ← c2]
          exact restD_all (asc_ne h1)
        rw [e1]
        exact List.perm_append_comm (l₁ := [e]) (l₂ := r)
      · rw [if_neg c2]
        have hl : lexT e.id y.id := by rcases lex_tot y.id e.id with q | q | q; exact absurd q c1; exact absurd q c2; exact q
        have e1 : restD (y :: r) e.id = y :: r := restD_all (asc_ne fun x hx => by rcases List.mem_cons.1 hx with rfl | hx; exact hl; exact lex_tr hl (h1 x hx))
        rw [e1]
        exact List.perm_append_comm (l₁ := [e]) (l₂ := y :: r)
theorem rest_len {K : List EnT} {i : TId} (h : AscD K) : (restD K i).length + (if (findD K i).isSome = true then 1 else 0) = K.length := by
  induction K with
  | nil => rfl
  | cons y r ih =>
    obtain ⟨h1, h2⟩ := List.pairwise_cons.1 h
    by_cases e : y.id = i
    · have q1 : findD (y :: r) i = some y := by unfold findD; simp [e]
      have q2 : restD (y :: r) i = r := by
        have : restD (y :: r) i = restD r i := by unfold restD; simp [e]
        rw [this]
        exact restD_all (asc_ne (fun x hx => by rw [← e]; exact h1 x hx))
      rw [q1, q2]
      simp
    · have q1 : findD (y :: r) i = findD r i := by unfold findD; simp [e]
      have q2 : restD (y :: r) i = y :: restD r i := by unfold restD; simp [e]
      rw [q1, q2, List.length_cons, List.length_cons, ← ih h2]
      omega
theorem insD_len {K : List EnT} {e : EnT} (h : AscD K) : (insD K e).length = K.length + (if (findD K e.id).isSome = true then 0 else 1) := by
  rw [(insD_perm h).length_eq, List.length_append, ← rest_len (i := e.id) h]
  cases (findD K e.id).isSome <;> simp
theorem asc_sub {K M : List EnT} (h : AscD K) (s : M.Sublist K) : AscD M := List.Pairwise.sublist s h
theorem rest_asc {K : List EnT} (i : TId) (h : AscD K) : AscD (restD K i) := asc_sub h List.filter_sublist
theorem find_mem {K : List EnT} (h : AscD K) {x : EnT} (hx : x ∈ K) : findD K x.id = some x := by
  induction K with
  | nil => cases hx
  | cons y r ih =>
    obtain ⟨h1, h2⟩ := List.pairwise_cons.1 h
    rcases List.mem_cons.1 hx with rfl | hx
    · unfold findD; simp
    · have hne : ¬ y.id = x.id := fun q => lex_irr _ (by have := h1 x hx; rw [q] at this; exact this)
      have : findD (y :: r) x.id = findD r x.id := by unfold findD; simp [hne]
      rw [this]
      exact ih h2 hx
theorem find_ins {K : List EnT} {e : EnT} (h : AscD K) (i : TId) : findD (insD K e) i = if e.id = i then some e else findD K i := by
  have hp := insD_perm (e := e) h
  have ha := insD_asc h e
  by_cases q : e.id = i
  · rw [if_pos q, ← q]
    exact find_mem ha (hp.mem_iff.2 (by simp))
  · rw [if_neg q]
    cases hf : findD K i with
    | some x =>
      obtain ⟨hm, rfl⟩ := findD_is hf
      exact find_mem ha (hp.mem_iff.2 (List.mem_append_left _ (restD_mem.2 ⟨hm, fun z => q z.symm⟩)))
    | none =>
      refine findD_not fun x hx => ?_
      rcases insD_mem hx with rfl | hx
      · exact q
      · exact findD_none hf x hx
theorem find_rest {K : List EnT} (h : AscD K) (i j : TId) : findD (restD K i) j = if i = j then none else findD K j := by
  by_cases q : i = j
  · rw [if_pos q]
    exact findD_not fun x hx => by rw [← q]; exact (restD_mem.1 hx).2
  · rw [if_neg q]
    cases hf : findD K j with
    | some x =>
      obtain ⟨hm, rfl⟩ := findD_is hf
      exact find_mem (rest_asc i h) (restD_mem.2 ⟨hm, fun z => q z.symm⟩)
    | none => exact findD_not fun x hx => findD_none hf x (restD_mem.1 hx).1
/-- Ascending bases of the same pieces are one. -/
theorem ascD_unique : ∀ {l m : List EnT}, AscD l → AscD m → l.Perm m → l = m
  | [], m, _, _, h => h.nil_eq
  | a :: l, m, hl, hm, h => by
    obtain ⟨h1, h2⟩ := List.pairwise_cons.1 hl
    cases m with
    | nil => exact absurd h.symm.nil_eq (by simp)
    | cons b m =>
      obtain ⟨k1, k2⟩ := List.pairwise_cons.1 hm
      have hab : a = b := by
        have ha : a ∈ b :: m := h.mem_iff.1 (by simp)
        have hb : b ∈ a :: l := h.mem_iff.2 (by simp)
        rcases List.mem_cons.1 ha with e | e
        · exact e
        · rcases List.mem_cons.1 hb with f | f
          · exact f.symm
          · exact absurd (k1 a e) (lex_asym (h1 b f))
      subst hab
      rw [ascD_unique h2 k2 (List.Perm.cons_inv h)]
/-! What may be. -/
theorem rg_is {lo hi n : Int} (h : rgB lo hi n = true) : lo ≤ n ∧ n ≤ hi := of_decide_eq_true h
theorem right_head {t : TiV} (h : rightV t = true) : rightT t.hd.id ∧ 0 ≤ t.hd.seq ∧ t.hd.seq ≤ 1099511627776 ∧ 0 ≤ t.hd.life ∧ t.hd.life ≤ 604800 := by
  unfold rightV tieR at h
  rw [Bool.and_eq_true] at h
  have h := h.1
  unfold headR idR at h
  rw [Bool.and_eq_true, Bool.and_eq_true, Bool.and_eq_true, Bool.and_eq_true, Bool.and_eq_true] at h
  obtain ⟨⟨⟨⟨⟨a1, a2⟩, a3⟩, a4⟩, a5⟩, a6⟩ := h
  have a1 := rg_is a1
  have a2 := rg_is a2
  have a3 := rg_is a3
  have a4 := rg_is a4
  have a5 := rg_is a5
  have a6 := rg_is a6
  dsimp only [TiV.tie] at a1 a2 a3 a4 a5 a6
  exact ⟨⟨a1.1, a1.2, a2.1, a2.2, a3.1, a3.2, a4.1, a4.2⟩, a5.1, a5.2, a6.1, a6.2⟩
theorem right_lens {t : TiV} (h : rightV t = true) : t.es.length ≤ 64 ∧ t.rs.length ≤ 64 := by
  unfold rightV at h
  constructor
  · refine Nat.le_of_not_lt fun q => ?_
    have e : decide (t.tie.edges.length ≤ if t.tie.head.id.kind = 1 then 64 else 0) = false := decide_eq_false (by have : t.tie.edges.length = t.es.length := rfl; split <;> omega)
    simp only [tieR, e, Bool.and_false, Bool.false_and] at h
    cases h
  · refine Nat.le_of_not_lt fun q => ?_
    have e : decide (t.tie.reaches.length ≤ if t.tie.head.id.kind = 1 then 0 else 64) = false := decide_eq_false (by have : t.tie.reaches.length = t.rs.length := rfl; split <;> omega)
    simp only [tieR, e, Bool.and_false] at h
    cases h
theorem right_life {t : TiV} (h : rightV t = true) {n : Int} (h1 : 0 ≤ n) (h2 : n ≤ 604800) : rightV ⟨⟨t.hd.id, t.hd.seq, n⟩, t.level, t.over, t.es, t.rs⟩ = true := by
  unfold rightV tieR at h ⊢
  rw [Bool.and_eq_true] at h ⊢
  refine ⟨?_, h.2⟩
  have h3 := h.1
  unfold headR at h3 ⊢
  rw [Bool.and_eq_true] at h3 ⊢
  exact ⟨h3.1, decide_eq_true ⟨h1, h2⟩⟩
theorem left_ge (e : EnT) (now : Int) : 0 ≤ leftD e now := by unfold leftD; split <;> omega
theorem left_zero {e : EnT} {now : Int} : leftD e now = 0 ↔ e.exp ≤ now := by unfold leftD; split <;> omega
theorem left_is {e : EnT} {now : Int} (h : now < e.exp) : leftD e now = e.exp - now := by unfold leftD; rw [if_neg (by omega)]
/-! The invariant. -/
theorem InvD.nil {room : Int} (h : 1 ≤ room) : InvD room [] := ⟨List.Pairwise.nil, by simp, by simp; omega⟩
theorem InvD.put {room : Int} {K : List EnT} (h : InvD room K) (t : TiV) (now : Int) : InvD room (putD room K t now).2.2 := by
  unfold putD
  by_cases c : rightV t = true ∧ momD now
  · rw [if_neg (fun q => q c)]
    have hr := right_head c.1
    have hm := c.2
    unfold momD at hm
    have oke : ∀ x ∈ insD K (enD t now), rightV x.t = true ∧ 0 ≤ x.exp ∧ x.exp ≤ 1099512232576 := fun x hx => by
      rcases insD_mem hx with rfl | hx
      · exact ⟨c.1, by unfold enD; dsimp only; omega, by unfold enD; dsimp only; omega⟩
      · exact h.ok x hx
    have hl := insD_len (e := enD t now) h.asc
    have he : (enD t now).id = t.hd.id := rfl
    rw [he] at hl
    cases hf : findD K t.hd.id with
    | some x =>
      rw [hf] at hl
      dsimp only
      split
      · exact ⟨insD_asc h.asc _, oke, by rw [hl]; simpa using h.room⟩
      · exact h
    | none =>
      rw [hf] at hl
      dsimp only
      split
      · exact h
      · exact ⟨insD_asc h.asc _, oke, by rw [hl]; simp; omega⟩
  · rw [if_pos c]
    exact h
theorem InvD.sub {room : Int} {K M : List EnT} (h : InvD room K) (s : M.Sublist K) : InvD room M := ⟨asc_sub h.asc s, fun x hx => h.ok x (s.subset hx), by have := s.length_le; have := h.room; omega⟩
theorem InvD.drop {room : Int} {K : List EnT} (h : InvD room K) (i : TId) : InvD room (restD K i) := h.sub List.filter_sublist
theorem InvD.age {room : Int} {K : List EnT} (h : InvD room K) (now : Int) : InvD room (ageD K now).2 := by
  unfold ageD
  split
  · exact h.sub List.filter_sublist
  · exact h
end Go.Proofs.YtpaooddmgcekhaaGreat.ti
