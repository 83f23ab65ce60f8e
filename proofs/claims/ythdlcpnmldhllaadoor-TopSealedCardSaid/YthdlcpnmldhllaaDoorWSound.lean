/-
  WHAT THE READER READS: its fields are what was read, and it may be: plain mathematics.
-/
import Derived.Test.YthdlcpnmldhllaaDoorWGood
import Derived.Test.YthdlcpnmldhllaaDoorWTie
namespace Go.Proofs.YthdlcpnmldhllaaDoor
set_option linter.unusedVariables false

/-- From one state of the reader to another these items were read, and whether they may be. -/
def Snd (t t' : List It × Bool) (l : List It) (r : Bool) : Prop := (∀ x ∈ t'.1, x ∈ t.1) ∧ ((∀ x ∈ t.1, shapeB x = true) → t'.2 = false → t.2 = false ∧ r = true ∧ t.1 = l ++ t'.1)
theorem Snd.nil (t : List It × Bool) : Snd t t [] true := ⟨fun _ h => h, fun _ h => ⟨h, rfl, rfl⟩⟩
theorem Snd.comp {t t' t'' : List It × Bool} {l m : List It} {r q : Bool} (h : Snd t t' l r) (k : Snd t' t'' m q) : Snd t t'' (l ++ m) (r && q) := by
  refine ⟨fun x hx => h.1 x (k.1 x hx), fun hs hw => ?_⟩
  obtain ⟨k1, k2, k3⟩ := k.2 (fun x hx => hs x (h.1 x hx)) hw
  obtain ⟨h1, h2, h3⟩ := h.2 hs k1
  exact ⟨h1, by rw [h2, k2]; rfl, by rw [h3, k3, List.append_assoc]⟩
theorem Snd.conv {t t' : List It × Bool} {l m : List It} {r q : Bool} (h : Snd t t' l r) (hl : l = m) (hr : r = q) : Snd t t' m q := hl ▸ hr ▸ h
theorem bs_nil {l : List Int} (h : l.length = 0) : l = [] := List.eq_nil_of_length_eq_zero h
theorem next_int {id : Int} {s : List It} (hs : ∀ x ∈ s, shapeB x = true) (h : nextB 1 id s = true) : s = intI id (s.headD ⟨0, 0, 0, []⟩).n :: s.drop 1 := by
  cases s with
  | nil => simp [nextB] at h
  | cons x s =>
    simp [nextB] at h
    rcases shape_kinds (hs x (by simp)) with ⟨k, _, _, hb⟩ | ⟨k, _⟩ | ⟨k, _⟩ | ⟨k, _⟩
    · obtain ⟨a, b, c, d⟩ := x
      simp only at h k hb
      have hb := bs_nil hb
      simp [intI, h.1, h.2, hb]
    all_goals omega
theorem next_open {id : Int} {s : List It} (hs : ∀ x ∈ s, shapeB x = true) (h : nextB 3 id s = true) : s = ⟨3, id, 0, []⟩ :: s.drop 1 := by
  cases s with
  | nil => simp [nextB] at h
  | cons x s =>
    simp [nextB] at h
    rcases shape_kinds (hs x (by simp)) with ⟨k, _⟩ | ⟨k, _⟩ | ⟨k, _, _, hn, hb⟩ | ⟨k, _⟩
    · omega
    · omega
    · obtain ⟨a, b, c, d⟩ := x
      simp only at h k hb hn
      have hb := bs_nil hb
      simp [h.1, h.2, hb, hn]
    · omega
theorem next_end {s : List It} (hs : ∀ x ∈ s, shapeB x = true) (h : nextB 4 0 s = true) : s = ⟨4, 0, 0, []⟩ :: s.drop 1 := by
  cases s with
  | nil => simp [nextB] at h
  | cons x s =>
    simp [nextB] at h
    rcases shape_kinds (hs x (by simp)) with ⟨k, _⟩ | ⟨k, _⟩ | ⟨k, _⟩ | ⟨k, _, hn, hb⟩
    · omega
    · omega
    · omega
    · obtain ⟨a, b, c, d⟩ := x
      simp only at h k hb hn
      have hb := bs_nil hb
      simp [h.1, h.2, hb, hn]
theorem snd_btw (id lo hi m : Int) (t : List It × Bool) : Snd t (btw rMac id lo hi m t).2 [intI id (btw rMac id lo hi m t).1] (rgB lo hi (btw rMac id lo hi m t).1) := by
  obtain ⟨s, w⟩ := t
  refine ⟨fun x hx => ?_, fun hs h => ?_⟩
  · simp only [btw, mustS, rMac] at hx
    split at hx
    · exact List.mem_of_mem_drop hx
    · exact hx
  · simp only [btw, mustS, rMac] at h ⊢
    simp only [Bool.or_eq_false_iff, Bool.not_eq_false'] at h
    obtain ⟨⟨hw, hn⟩, hr⟩ := h
    simp only [hn, if_true] at hr ⊢
    exact ⟨hw, hr, next_int hs hn⟩
theorem snd_flag (id hi : Int) (hh : hi ≤ 1) (c : Bool) (t : List It × Bool) : Snd t (flagM rMac id hi c t).2 [intI id (bitI (flagM rMac id hi c t).1)] (rgB 0 hi (bitI (flagM rMac id hi c t).1)) := by
  have h0 := snd_btw id 0 hi (bitI c) t
  refine ⟨h0.1, fun hs h => ?_⟩
  obtain ⟨h1, h2, h3⟩ := h0.2 hs h
  have h2' := h2
  simp only [rgB, decide_eq_true_eq] at h2'
  have e : bitI (flagM rMac id hi c t).1 = (btw rMac id 0 hi (bitI c) t).1 := by
    show bitI (decide ((btw rMac id 0 hi (bitI c) t).1 = 1)) = _
    by_cases h1 : (btw rMac id 0 hi (bitI c) t).1 = 1
    · rw [decide_eq_true h1, h1]; rfl
    · rw [decide_eq_false h1]
      show (0 : Int) = _
      omega
  rw [e]
  exact ⟨h1, h2, h3⟩
theorem snd_open (id : Int) (t : List It × Bool) : Snd t (openM rMac id t) [⟨3, id, 0, []⟩] true := by
  obtain ⟨s, w⟩ := t
  refine ⟨fun x hx => ?_, fun hs h => ?_⟩
  · simp only [openM, mustS, rMac, skipS] at hx
    split at hx
    · exact List.mem_of_mem_drop hx
    · exact hx
  · simp only [openM, mustS, rMac, skipS] at h ⊢
    simp only [Bool.or_eq_false_iff, Bool.not_eq_false'] at h
    simp only [h.2, if_true]
    exact ⟨h.1, trivial, next_open hs h.2⟩
theorem snd_fin (t : List It × Bool) : Snd t (finM rMac t) [⟨4, 0, 0, []⟩] true := by
  obtain ⟨s, w⟩ := t
  refine ⟨fun x hx => ?_, fun hs h => ?_⟩
  · simp only [finM, mustS, rMac, skipS] at hx
    split at hx
    · exact List.mem_of_mem_drop hx
    · exact hx
  · simp only [finM, mustS, rMac, skipS] at h ⊢
    simp only [Bool.or_eq_false_iff, Bool.not_eq_false'] at h
    simp only [h.2, if_true]
    exact ⟨h.1, trivial, next_end hs h.2⟩
theorem snd_in {α : Type} {f : List It × Bool → α × (List It × Bool)} {fi : α → List It} {fr : α → Bool} (hf : ∀ t, Snd t (f t).2 (fi (f t).1) (fr (f t).1)) (id : Int) (t : List It × Bool) : Snd t (inM rMac id f t).2 (opI id (fi (inM rMac id f t).1)) (fr (inM rMac id f t).1) :=
  (((snd_open id t).comp (hf (openM rMac id t))).comp (snd_fin (f (openM rMac id t)).2)).conv (by simp [opI, inM]) (by simp [inM])
theorem snd_id (z : IdT) (t : List It × Bool) : Snd t (idM rMac z t).2 (idI (idM rMac z t).1) (idR (idM rMac z t).1) :=
  ((((snd_btw 1 1 2 z.dir t).comp (snd_btw 2 1 1000 z.orig _)).comp (snd_btw 3 1 4 z.kind _)).comp (snd_btw 4 0 65535 z.nr _))
theorem snd_head (z : HeadT) (t : List It × Bool) : Snd t (headM rMac z t).2 (headI (headM rMac z t).1) (headR (headM rMac z t).1) :=
  (((snd_in (snd_id z.id) 1 t).comp (snd_btw 2 0 1099511627776 z.seq _)).comp (snd_btw 3 0 604800 z.life _)).conv (by simp [headI, headM]) rfl
theorem snd_edge (z : EdgeT) (t : List It × Bool) : Snd t (edgeM rMac z t).2 (edgeI (edgeM rMac z t).1) (edgeR (edgeM rMac z t).1) :=
  (((snd_btw 1 1 1000 z.node t).comp (snd_btw 2 0 24 z.level _)).comp (snd_btw 3 1 1048576 z.cost _))
theorem snd_lie (z : LieT) (t : List It × Bool) : Snd t (lieM rMac z t).2 (lieI (lieM rMac z t).1) (lieR (lieM rMac z t).1) := by
  have h := (((((((((((snd_btw 1 1 1000 z.node t).comp (snd_btw 2 (-1) 24 z.level _)).comp (snd_btw 3 0 65535 z.pod _)).comp (snd_btw 4 0 65535 z.mtu _)).comp (snd_btw 5 0 65535 z.link _)).comp (snd_btw 6 0 65535 z.nonce _)).comp (snd_btw 7 0 1000 z.seen _)).comp (snd_btw 8 0 65535 z.seenLink _)).comp (snd_btw 9 0 65535 z.seenNonce _)).comp (snd_btw 10 0 65535 z.hold _)).comp (snd_flag 11 1 (by decide) z.rep _)).comp (snd_flag 12 1 (by decide) z.noOffer _)
  refine h.conv rfl ?_
  rw [bit_range, bit_range, Bool.and_true, Bool.and_true]
  rfl
theorem snd_must (b : Bool) (t : List It × Bool) : Snd t (mustS b t) [] b := by
  refine ⟨fun x hx => hx, fun hs h => ?_⟩
  simp only [mustS, Bool.or_eq_false_iff, Bool.not_eq_false'] at h
  exact ⟨h.1, h.2, rfl⟩
theorem snd_reach (z : ReachT) (t : List It × Bool) : Snd t (reachM rMac z t).2 (reachI (reachM rMac z t).1) (reachR (reachM rMac z t).1) := by
  have h := (((snd_btw 1 0 4294967295 z.net t).comp (snd_btw 2 0 32 z.bits _)).comp (snd_must (shlB ((btw rMac 1 0 4294967295 z.net t).1 % 4294967296) (btw rMac 2 0 32 z.bits (btw rMac 1 0 4294967295 z.net t).2).1) _)).comp (snd_btw 3 0 1048576 z.metric _)
  refine ⟨h.1, fun hs hw => ?_⟩
  obtain ⟨h1, h2, h3⟩ := h.2 hs hw
  have hn : (btw rMac 1 0 4294967295 z.net t).1 % 4294967296 = (btw rMac 1 0 4294967295 z.net t).1 := by
    have h4 := h2
    simp only [Bool.and_eq_true, rgB, decide_eq_true_eq] at h4
    omega
  have e1 : (reachM rMac z t).1.net = (btw rMac 1 0 4294967295 z.net t).1 := hn
  refine ⟨h1, ?_, ?_⟩
  · unfold reachR
    rw [e1]
    rw [hn] at h2
    exact h2
  · unfold reachI
    rw [e1]
    exact h3
/-- A list that was read. -/
theorem snd_each {E : Type} {f : E → List It × Bool → E × (List It × Bool)} {fi : E → List It} {fr : E → Bool} {z : E} (hf : ∀ t, Snd t (f z t).2 (fi (f z t).1) (fr (f z t).1)) (id : Int) : ∀ (n : Nat) (gone : List E) (t : List It × Bool),
    ∃ new, (eachM rMac id f z [] n gone t).1 = gone ++ new ∧ new.length ≤ n ∧ Snd t (eachM rMac id f z [] n gone t).2 (new.flatMap fun x => opI id (fi x)) (new.all fr) := by
  intro n
  induction n with
  | zero =>
    intro gone t
    refine ⟨[], by simp [eachM], Nat.le_refl _, ?_⟩
    rw [eachM]
    split
    · exact ⟨fun x hx => hx, fun hs h => by simp [mustS] at h⟩
    · exact Snd.nil t
  | succ n ih =>
    intro gone t
    rw [eachM]
    split
    · have hz : ([] : List E)[gone.length]?.getD z = z := by simp
      rw [hz]
      obtain ⟨new, h1, h2, h3⟩ := ih (gone ++ [(inM rMac id (f z) t).1]) (inM rMac id (f z) t).2
      refine ⟨(inM rMac id (f z) t).1 :: new, by rw [h1]; simp, by simp; omega, ?_⟩
      exact (snd_in hf id t).comp h3
    · exact ⟨[], by simp, by simp, Snd.nil t⟩
theorem snd_all {E : Type} {f : E → List It × Bool → E × (List It × Bool)} {fi : E → List It} {fr : E → Bool} {z : E} (hf : ∀ t, Snd t (f z t).2 (fi (f z t).1) (fr (f z t).1)) (id : Int) (n : Nat) (t : List It × Bool) :
    (eachM rMac id f z [] n [] t).1.length ≤ n ∧ Snd t (eachM rMac id f z [] n [] t).2 ((eachM rMac id f z [] n [] t).1.flatMap fun x => opI id (fi x)) ((eachM rMac id f z [] n [] t).1.all fr) := by
  obtain ⟨new, h1, h2, h3⟩ := snd_each hf id n [] t
  rw [List.nil_append] at h1
  rw [h1]
  exact ⟨h2, h3⟩
theorem snd_tie (t : List It × Bool) : Snd t (tieM rMac TieT.zero t).2 (tieI (tieM rMac TieT.zero t).1) (tieR (tieM rMac TieT.zero t).1) := by
  obtain ⟨a, ha⟩ : ∃ a, inM rMac 1 (headM rMac HeadT.zero) t = a := ⟨_, rfl⟩
  have h1 := snd_in (snd_head HeadT.zero) 1 t
  rw [ha] at h1
  obtain ⟨k, hk⟩ : ∃ k : Bool, decide (a.1.id.kind = 1) = k := ⟨_, rfl⟩
  obtain ⟨lv, hlv⟩ : ∃ lv : Int, (if a.1.id.kind = 1 then (24 : Int) else 0) = lv := ⟨_, rfl⟩
  obtain ⟨ov, hov⟩ : ∃ ov : Int, (if a.1.id.kind = 1 then (1 : Int) else 0) = ov := ⟨_, rfl⟩
  obtain ⟨n1, hn1⟩ : ∃ n : Nat, (if a.1.id.kind = 1 then (64 : Nat) else 0) = n := ⟨_, rfl⟩
  obtain ⟨n2, hn2⟩ : ∃ n : Nat, (if a.1.id.kind = 1 then (0 : Nat) else 64) = n := ⟨_, rfl⟩
  have hov1 : ov ≤ 1 := by rw [← hov]; split <;> decide
  have e : tieM rMac TieT.zero t = tieN rMac lv ov n1 n2 TieT.zero t := by
    unfold tieM tieN
    rw [show TieT.zero.head = HeadT.zero from rfl, ha]
    simp only [hlv, hov, hn1, hn2]
  rw [e]
  unfold tieN
  rw [show TieT.zero.head = HeadT.zero from rfl, ha, show TieT.zero.edges = [] from rfl, show TieT.zero.reaches = [] from rfl]
  have h2 := h1.comp (snd_btw 2 0 lv TieT.zero.level a.2)
  have h3 := h2.comp (snd_flag 3 ov hov1 TieT.zero.over _)
  obtain ⟨l4, h4'⟩ := snd_all (fun t => snd_edge EdgeT.zero t) 4 n1 (flagM rMac 3 ov TieT.zero.over (btw rMac 2 0 lv TieT.zero.level a.2).2).2
  have h4 := h3.comp h4'
  obtain ⟨l5, h5'⟩ := snd_all (fun t => snd_reach ReachT.zero t) 5 n2 (eachM rMac 4 (edgeM rMac) EdgeT.zero [] n1 [] (flagM rMac 3 ov TieT.zero.over (btw rMac 2 0 lv TieT.zero.level a.2).2).2).2
  have h5 := h4.comp h5'
  refine h5.conv ?_ ?_
  · simp only [tieI, List.append_assoc]
    rfl
  · simp only [tieR, hlv, hov, hn1, hn2]
    rw [decide_eq_true l4, decide_eq_true l5, Bool.and_true, Bool.and_true]
    simp only [Bool.and_assoc]
theorem snd_pack (t : List It × Bool) : (packM rMac PackT.zero t).2.2 = false → (∀ x ∈ t.1, shapeB x = true) →
    t.1 = packI (packM rMac PackT.zero t).1 ++ (packM rMac PackT.zero t).2.1 ∧ rightW (packM rMac PackT.zero t).1 = true := by
  obtain ⟨a, ha⟩ : ∃ a, btw rMac 1 1 4 PackT.zero.kind t = a := ⟨_, rfl⟩
  have h0 := snd_btw 1 1 4 PackT.zero.kind t
  rw [ha] at h0
  unfold packM
  rw [ha]
  by_cases h1 : a.1 = 1
  · simp only [if_pos h1]
    intro hw hs
    have h := h0.comp (snd_in (snd_lie PackT.zero.lie) 2 a.2)
    obtain ⟨_, h2, h3⟩ := h.2 hs hw
    rw [Bool.and_eq_true] at h2
    refine ⟨by rw [h3]; simp only [packI, h1, if_true]; simp, ?_⟩
    unfold rightW packR unusedB
    simp only [h1, if_true]
    rw [h2.2]
    rfl
  by_cases h2 : a.1 = 2
  · simp only [if_neg h1, if_pos h2]
    intro hw hs
    have h := h0.comp (snd_in (fun t => snd_tie t) 3 a.2)
    obtain ⟨_, g2, h3⟩ := h.2 hs hw
    rw [Bool.and_eq_true] at g2
    refine ⟨by rw [h3]; simp only [packI, h2, if_true]; simp; rfl, ?_⟩
    unfold rightW packR unusedB
    simp only [h2, if_true]
    rw [show PackT.zero.tie = TieT.zero from rfl, g2.2]
    rfl
  by_cases h3 : a.1 = 3
  · simp only [if_neg h1, if_neg h2, if_pos h3]
    intro hw hs
    rw [show PackT.zero.heads = [] from rfl] at hw ⊢
    obtain ⟨l6, h6'⟩ := snd_all (fun t => snd_head HeadT.zero t) 6 64 (inM rMac 5 (idM rMac PackT.zero.to) (inM rMac 4 (idM rMac PackT.zero.frm) a.2).2).2
    have h := ((h0.comp (snd_in (snd_id PackT.zero.frm) 4 a.2)).comp (snd_in (snd_id PackT.zero.to) 5 _)).comp h6'
    obtain ⟨_, g2, g3⟩ := h.2 hs hw
    simp only [Bool.and_eq_true] at g2
    refine ⟨by rw [g3]; simp only [packI, h3, if_true]; simp, ?_⟩
    unfold rightW packR unusedB headsR
    simp only [h3, if_true]
    rw [g2.1.1.2, g2.1.2, g2.2, decide_eq_true l6]
    rfl
  by_cases h4 : a.1 = 4
  · simp only [if_neg h1, if_neg h2, if_neg h3, if_pos h4]
    intro hw hs
    rw [show PackT.zero.heads = [] from rfl] at hw ⊢
    obtain ⟨l6, h6'⟩ := snd_all (fun t => snd_head HeadT.zero t) 6 64 a.2
    have h := h0.comp h6'
    obtain ⟨_, g2, g3⟩ := h.2 hs hw
    simp only [Bool.and_eq_true] at g2
    refine ⟨by rw [g3]; simp only [packI, h4, if_true]; simp, ?_⟩
    unfold rightW packR unusedB headsR
    simp only [h4, if_true]
    rw [g2.2, decide_eq_true l6]
    rfl
  · simp only [if_neg h1, if_neg h2, if_neg h3, if_neg h4]
    intro hw hs
    obtain ⟨_, g2, _⟩ := h0.2 hs hw
    unfold rgB at g2
    have := of_decide_eq_true g2
    omega
end Go.Proofs.YthdlcpnmldhllaaDoor
