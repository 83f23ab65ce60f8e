/-
  WHAT THE WRITER WRITES, and that the reader reads it back: plain mathematics.
-/
import Derived.Test.YtpaooddmgcekhaaGreatWSpec
namespace Go.Proofs.YtpaooddmgcekhaaGreat
set_option linter.unusedVariables false
/-! The writer. -/
def intI (id n : Int) : It := ⟨1, id, n, []⟩
def opI (id : Int) (l : List It) : List It := ⟨3, id, 0, []⟩ :: (l ++ [⟨4, 0, 0, []⟩])
def idI (x : IdT) : List It := [intI 1 x.dir, intI 2 x.orig, intI 3 x.kind, intI 4 x.nr]
def headI (x : HeadT) : List It := opI 1 (idI x.id) ++ [intI 2 x.seq, intI 3 x.life]
def lieI (x : LieT) : List It := [intI 1 x.node, intI 2 x.level, intI 3 x.pod, intI 4 x.mtu, intI 5 x.link, intI 6 x.nonce, intI 7 x.seen, intI 8 x.seenLink, intI 9 x.seenNonce, intI 10 x.hold, intI 11 (bitI x.rep), intI 12 (bitI x.noOffer)]
def edgeI (x : EdgeT) : List It := [intI 1 x.node, intI 2 x.level, intI 3 x.cost]
def reachI (x : ReachT) : List It := [intI 1 x.net, intI 2 x.bits, intI 3 x.metric]
def tieI (x : TieT) : List It := opI 1 (headI x.head) ++ ([intI 2 x.level, intI 3 (bitI x.over)] ++ (x.edges.flatMap (fun e => opI 4 (edgeI e)) ++ x.reaches.flatMap (fun e => opI 5 (reachI e))))
def packI (p : PackT) : List It :=
  intI 1 p.kind :: (if p.kind = 1 then opI 2 (lieI p.lie) else if p.kind = 2 then opI 3 (tieI p.tie)
    else if p.kind = 3 then opI 4 (idI p.frm) ++ (opI 5 (idI p.to) ++ p.heads.flatMap (fun h => opI 6 (headI h)))
    else if p.kind = 4 then p.heads.flatMap (fun h => opI 6 (headI h)) else [])

def rgB (lo hi n : Int) : Bool := decide (lo ≤ n ∧ n ≤ hi)
def idR (x : IdT) : Bool := rgB 1 2 x.dir && rgB 1 1000 x.orig && rgB 1 4 x.kind && rgB 0 65535 x.nr
def headR (x : HeadT) : Bool := idR x.id && rgB 0 1099511627776 x.seq && rgB 0 604800 x.life
def lieR (x : LieT) : Bool := rgB 1 1000 x.node && rgB (-1) 24 x.level && rgB 0 65535 x.pod && rgB 0 65535 x.mtu && rgB 0 65535 x.link && rgB 0 65535 x.nonce && rgB 0 1000 x.seen && rgB 0 65535 x.seenLink && rgB 0 65535 x.seenNonce && rgB 0 65535 x.hold
def edgeR (x : EdgeT) : Bool := rgB 1 1000 x.node && rgB 0 24 x.level && rgB 1 1048576 x.cost
def reachR (x : ReachT) : Bool := rgB 0 4294967295 x.net && rgB 0 32 x.bits && shlB x.net x.bits && rgB 0 1048576 x.metric
def tieR (x : TieT) : Bool :=
  headR x.head && (rgB 0 (if x.head.id.kind = 1 then 24 else 0) x.level && (rgB 0 (if x.head.id.kind = 1 then 1 else 0) (bitI x.over) && ((x.edges.all edgeR && decide (x.edges.length ≤ if x.head.id.kind = 1 then 64 else 0)) && (x.reaches.all reachR && decide (x.reaches.length ≤ if x.head.id.kind = 1 then 0 else 64)))))
def headsR (l : List HeadT) : Bool := l.all headR && decide (l.length ≤ 64)
def packR (p : PackT) : Bool :=
  if p.kind = 1 then lieR p.lie else if p.kind = 2 then tieR p.tie else if p.kind = 3 then idR p.frm && idR p.to && headsR p.heads else if p.kind = 4 then headsR p.heads else false
/-- May a packet be? -/
def rightW (p : PackT) : Bool := packR p && unusedB p
/-- A net is of 32 bits. -/
def ReachT.ok (x : ReachT) : Prop := 0 ≤ x.net ∧ x.net < 4294967296

/-- A traversal by the writer: what it hands back, what it appends, and whether all may be. -/
def Wrt {α : Type} (f : List It × Bool → α × (List It × Bool)) (x : α) (l : List It) (r : Bool) : Prop := ∀ s w, f (s, w) = (x, (s ++ l, w || !r))

theorem wrt_btw (id lo hi n : Int) : Wrt (btw wMac id lo hi n) n [intI id n] (rgB lo hi n) := fun s w => by
  simp [btw, mustS, wMac, intI]
  rfl
theorem bit_one (b : Bool) : decide (bitI b = 1) = b := by cases b <;> rfl
theorem wrt_flag (id hi : Int) (b : Bool) : Wrt (flagM wMac id hi b) b [intI id (bitI b)] (rgB 0 hi (bitI b)) := fun s w => by
  have h := wrt_btw id 0 hi (bitI b) s w
  unfold flagM
  rw [h]
  simp only [bit_one]
theorem wrt_in {α : Type} {f : List It × Bool → α × (List It × Bool)} {x : α} {l : List It} {r : Bool} (h : Wrt f x l r) (id : Int) : Wrt (inM wMac id f) x (opI id l) r := fun s w => by
  unfold inM
  have e : openM wMac id (s, w) = (s ++ [⟨3, id, 0, []⟩], w) := by simp [openM, mustS, wMac]
  rw [e, h]
  simp [finM, mustS, wMac, opI]
theorem wrt_id (x : IdT) : Wrt (idM wMac x) x (idI x) (idR x) := fun s w => by
  unfold idM
  simp only [wrt_btw _ _ _ _ _ _]
  simp [idI, idR, Bool.or_assoc]
theorem wrt_head (x : HeadT) : Wrt (headM wMac x) x (headI x) (headR x) := fun s w => by
  unfold headM
  simp only [wrt_in (wrt_id _) _ _ _, wrt_btw _ _ _ _ _ _]
  simp [headI, headR, Bool.or_assoc]
theorem bit_range (b : Bool) : rgB 0 1 (bitI b) = true := by cases b <;> rfl
theorem wrt_lie (x : LieT) : Wrt (lieM wMac x) x (lieI x) (lieR x) := fun s w => by
  unfold lieM
  simp only [wrt_btw _ _ _ _ _ _, wrt_flag _ _ _ _ _, bit_range]
  simp [lieI, lieR, Bool.or_assoc]
theorem wrt_edge (x : EdgeT) : Wrt (edgeM wMac x) x (edgeI x) (edgeR x) := fun s w => by
  unfold edgeM
  simp only [wrt_btw _ _ _ _ _ _]
  simp [edgeI, edgeR, Bool.or_assoc]
theorem wrt_reach {x : ReachT} (hx : x.ok) : Wrt (reachM wMac x) x (reachI x) (reachR x) := fun s w => by
  unfold reachM
  have e : x.net % 4294967296 = x.net := by unfold ReachT.ok at hx; omega
  simp only [wrt_btw _ _ _ _ _ _, mustS, e]
  simp [reachI, reachR, Bool.or_assoc]
/-- A list, from where it stands. -/
theorem wrt_each {E : Type} (id : Int) (f : E → List It × Bool → E × (List It × Bool)) (z : E) (fi : E → List It) (fr : E → Bool) (l : List E) (hf : ∀ x ∈ l, Wrt (f x) x (fi x) (fr x)) : ∀ (n : Nat) (gone : List E) (s : List It) (w : Bool), gone.length ≤ l.length →
    eachM wMac id f z l n gone (s, w) = (gone ++ (l.drop gone.length).take n, (s ++ ((l.drop gone.length).take n).flatMap (fun x => opI id (fi x)), w || !(((l.drop gone.length).take n).all fr && decide (l.length - gone.length ≤ n)))) := by
  intro n
  induction n with
  | zero =>
    intro gone s w hg
    by_cases h : gone.length < l.length
    · have h2 : ¬ (l.length - gone.length ≤ 0) := by omega
      simp [eachM, wMac, h, mustS, h2]
    · simp [eachM, wMac, h]
      omega
  | succ n ih =>
    intro gone s w hg
    by_cases h : gone.length < l.length
    · have hx : l[gone.length]?.getD z = l[gone.length] := by rw [List.getElem?_eq_getElem h]; rfl
      have hd : l.drop gone.length = l[gone.length] :: l.drop (gone.length + 1) := List.drop_eq_getElem_cons h
      have hm : wMac.more s id (decide (gone.length < l.length)) = true := by simp [wMac, h]
      simp only [eachM, hm, if_true, hx]
      rw [wrt_in (hf _ (List.getElem_mem h)) id s w]
      simp only
      rw [ih (gone ++ [l[gone.length]]) _ _ (by simp; omega), hd]
      simp only [List.length_append, List.length_cons, List.length_nil, Nat.zero_add, List.take_succ_cons, List.flatMap_cons, List.all_cons, List.append_assoc, List.cons_append, List.nil_append]
      have e : decide (l.length - (gone.length + 1) ≤ n) = decide (l.length - gone.length ≤ n + 1) := by
        congr 1
        rw [eq_iff_iff]
        omega
      rw [e]
      refine Prod.ext rfl (Prod.ext rfl ?_)
      simp only
      cases fr l[gone.length] <;> cases w <;> simp
    · have hm : wMac.more s id (decide (gone.length < l.length)) = false := by simp [wMac, h]
      have hd : l.drop gone.length = [] := List.drop_eq_nil_of_le (by omega)
      have e : decide (l.length - gone.length ≤ n + 1) = true := by simp; omega
      simp [eachM, hm, hd]
      intro h5
      omega
theorem wrt_all {E : Type} (id : Int) (f : E → List It × Bool → E × (List It × Bool)) (z : E) (fi : E → List It) (fr : E → Bool) (l : List E) (hf : ∀ x ∈ l, Wrt (f x) x (fi x) (fr x)) (n : Nat) :
    Wrt (eachM wMac id f z l n []) (l.take n) ((l.take n).flatMap (fun x => opI id (fi x))) ((l.take n).all fr && decide (l.length ≤ n)) := fun s w => by
  have := wrt_each id f z fi fr l hf n [] s w (by simp)
  simpa using this
theorem all_take {E : Type} (fr : E → Bool) (l : List E) (n : Nat) : ((l.take n).all fr && decide (l.length ≤ n)) = (l.all fr && decide (l.length ≤ n)) := by
  by_cases h : l.length ≤ n
  · rw [List.take_of_length_le h]
  · simp [h]
/-- What is left of a tie, or of a packet, once it has been written. -/
def tieC (x : TieT) : TieT := { x with edges := x.edges.take (if x.head.id.kind = 1 then 64 else 0), reaches := x.reaches.take (if x.head.id.kind = 1 then 0 else 64) }
def packC (p : PackT) : PackT := if p.kind = 2 then { p with tie := tieC p.tie } else if p.kind = 3 ∨ p.kind = 4 then { p with heads := p.heads.take 64 } else p
theorem wrt_tie {x : TieT} (hx : ∀ r ∈ x.reaches, r.ok) : Wrt (tieM wMac x) (tieC x) (tieI (tieC x)) (tieR x) := fun s w => by
  unfold tieM
  simp only [wrt_in (wrt_head _) _ _ _, wrt_btw _ _ _ _ _ _, wrt_flag _ _ _ _ _, wrt_all 4 (edgeM wMac) EdgeT.zero edgeI edgeR x.edges (fun y _ => wrt_edge y) _ _ _, wrt_all 5 (reachM wMac) ReachT.zero reachI reachR x.reaches (fun y hy => wrt_reach (hx y hy)) _ _ _, all_take]
  refine Prod.ext rfl (Prod.ext ?_ ?_)
  · simp [tieI, tieC]
  · simp only [tieR]
    generalize headR x.head = a
    generalize rgB _ _ x.level = b
    generalize rgB _ _ (bitI x.over) = c
    generalize (x.edges.all edgeR && _) = d
    generalize (x.reaches.all reachR && _) = e
    cases w <;> cases a <;> cases b <;> cases c <;> cases d <;> cases e <;> rfl
theorem wrt_pack {p : PackT} (hp : ∀ r ∈ p.tie.reaches, r.ok) : Wrt (packM wMac p) (packC p) (packI (packC p)) (packR p) := fun s w => by
  obtain ⟨kind, lie, tie, frm, to, heads⟩ := p
  unfold packM
  simp only [wrt_btw _ _ _ _ _ _]
  by_cases h1 : kind = 1
  · subst h1
    simp only [if_true, wrt_in (wrt_lie _) _ _ _]
    refine Prod.ext (by simp [packC]) (Prod.ext ?_ ?_)
    · simp [packC, packI]
    · simp [packR, rgB]
  by_cases h2 : kind = 2
  · subst h2
    simp only [if_neg h1, if_true, wrt_in (wrt_tie hp) _ _ _]
    refine Prod.ext (by simp [packC]) (Prod.ext ?_ ?_)
    · simp [packC, packI]
    · simp [packR, rgB]
  by_cases h3 : kind = 3
  · subst h3
    simp only [if_neg h1, if_neg h2, if_true, wrt_in (wrt_id _) _ _ _, wrt_all 6 (headM wMac) HeadT.zero headI headR heads (fun y _ => wrt_head y) _ _ _, all_take]
    refine Prod.ext (by simp [packC]) (Prod.ext ?_ ?_)
    · simp [packC, packI]
    · simp [packR, rgB, headsR, Bool.or_assoc]
  by_cases h4 : kind = 4
  · subst h4
    simp only [if_neg h1, if_neg h2, if_neg h3, if_true, wrt_all 6 (headM wMac) HeadT.zero headI headR heads (fun y _ => wrt_head y) _ _ _, all_take]
    refine Prod.ext (by simp [packC]) (Prod.ext ?_ ?_)
    · simp [packC, packI]
    · simp [packR, rgB, headsR]
  · simp only [if_neg h1, if_neg h2, if_neg h3, if_neg h4]
    refine Prod.ext (by simp [packC, h2, h3, h4]) (Prod.ext ?_ ?_)
    · simp [packC, packI, h1, h2, h3, h4]
    · have : rgB 1 4 kind = false := by unfold rgB; exact decide_eq_false (by omega)
      simp [packR, h1, h2, h3, h4, this]
theorem unused_c (p : PackT) : unusedB (packC p) = unusedB p := by
  obtain ⟨kind, lie, tie, frm, to, heads⟩ := p
  unfold packC
  by_cases h2 : kind = 2
  · subst h2; simp [unusedB]
  · rw [if_neg h2]
    by_cases h3 : kind = 3
    · subst h3; simp [unusedB]
    by_cases h4 : kind = 4
    · subst h4; simp [unusedB]
    rw [if_neg (by simp [h3, h4])]
theorem tie_c {x : TieT} (h : tieR x = true) : tieC x = x := by
  simp only [tieR, Bool.and_eq_true, decide_eq_true_eq] at h
  obtain ⟨_, _, _, ⟨_, he⟩, _, hr⟩ := h
  unfold tieC
  rw [List.take_of_length_le he, List.take_of_length_le hr]
theorem pack_c {p : PackT} (h : packR p = true) : packC p = p := by
  obtain ⟨kind, lie, tie, frm, to, heads⟩ := p
  unfold packC
  by_cases h2 : kind = 2
  · subst h2
    simp [packR] at h
    simp [tie_c h]
  rw [if_neg h2]
  by_cases h34 : kind = 3 ∨ kind = 4
  · rw [if_pos h34]
    have hl : heads.length ≤ 64 := by
      rcases h34 with rfl | rfl <;> simp [packR, headsR] at h
      · exact h.2.2
      · exact h.2
    simp only
    rw [List.take_of_length_le hl]
  · rw [if_neg h34]

/-! The reader, back. -/
def Rdb {α : Type} (f : List It × Bool → α × (List It × Bool)) (x : α) (l : List It) (r : Bool) : Prop := ∀ s w, f (l ++ s, w) = (x, (s, w || !r))
theorem rdb_btw (id lo hi n m : Int) : Rdb (btw rMac id lo hi m) n [intI id n] (rgB lo hi n) := fun s w => by
  simp [btw, mustS, rMac, intI, rgB, nextB]
theorem rdb_flag (id hi : Int) (b c : Bool) : Rdb (flagM rMac id hi c) b [intI id (bitI b)] (rgB 0 hi (bitI b)) := fun s w => by
  have h := rdb_btw id 0 hi (bitI b) (bitI c) s w
  unfold flagM
  rw [h]
  simp only [bit_one]
theorem rd_in0 {α : Type} {f : List It × Bool → α × (List It × Bool)} {x : α} {l s : List It} {w v : Bool} (id : Int) (h : f (l ++ (⟨4, 0, 0, []⟩ :: s), w) = (x, (⟨4, 0, 0, []⟩ :: s, v))) : inM rMac id f (opI id l ++ s, w) = (x, (s, v)) := by
  unfold inM
  have e : openM rMac id (opI id l ++ s, w) = (l ++ (⟨4, 0, 0, []⟩ :: s), w) := by simp [openM, mustS, rMac, skipS, nextB, opI]
  rw [e, h]
  simp [finM, mustS, rMac, skipS, nextB]
theorem rdb_in {α : Type} {f : List It × Bool → α × (List It × Bool)} {x : α} {l : List It} {r : Bool} (h : Rdb f x l r) (id : Int) : Rdb (inM rMac id f) x (opI id l) r := fun s w => rd_in0 id (h _ w)
theorem rd_btw (id lo hi n m : Int) (s : List It) (w : Bool) : btw rMac id lo hi m (intI id n :: s, w) = (n, (s, w || !rgB lo hi n)) := rdb_btw id lo hi n m s w
theorem rd_flag (id hi : Int) (b c : Bool) (s : List It) (w : Bool) : flagM rMac id hi c (intI id (bitI b) :: s, w) = (b, (s, w || !rgB 0 hi (bitI b))) := rdb_flag id hi b c s w
theorem rd_in {α : Type} {f : List It × Bool → α × (List It × Bool)} {x : α} {l : List It} {r : Bool} (h : Rdb f x l r) (id : Int) (s : List It) (w : Bool) : inM rMac id f (opI id l ++ s, w) = (x, (s, w || !r)) := rdb_in h id s w
theorem rdb_id (x z : IdT) : Rdb (idM rMac z) x (idI x) (idR x) := fun s w => by
  simp only [idM, idI, List.cons_append, List.nil_append, rd_btw]
  simp [idR, Bool.or_assoc]
theorem rdb_head (x z : HeadT) : Rdb (headM rMac z) x (headI x) (headR x) := fun s w => by
  simp only [headM, headI, List.append_assoc, List.cons_append, List.nil_append, rd_in (rdb_id x.id z.id), rd_btw]
  simp [headR, Bool.or_assoc]
theorem rdb_lie (x z : LieT) : Rdb (lieM rMac z) x (lieI x) (lieR x) := fun s w => by
  simp only [lieM, lieI, List.cons_append, List.nil_append, rd_btw, rd_flag, bit_range]
  simp [lieR, Bool.or_assoc]
theorem rdb_edge (x z : EdgeT) : Rdb (edgeM rMac z) x (edgeI x) (edgeR x) := fun s w => by
  simp only [edgeM, edgeI, List.cons_append, List.nil_append, rd_btw]
  simp [edgeR, Bool.or_assoc]
theorem rdb_reach {x : ReachT} (hx : x.ok) (z : ReachT) : Rdb (reachM rMac z) x (reachI x) (reachR x) := fun s w => by
  have e : x.net % 4294967296 = x.net := by unfold ReachT.ok at hx; omega
  simp only [reachM, reachI, List.cons_append, List.nil_append, rd_btw, mustS, e]
  simp [reachR, Bool.or_assoc]
/-- A list that is short enough, with none of its Id behind it. -/
theorem rdb_each {E : Type} (id : Int) (f : E → List It × Bool → E × (List It × Bool)) (z : E) (fi : E → List It) (fr : E → Bool) (s : List It) (hs : nextB 3 id s = false) : ∀ (l : List E) (n : Nat) (gone : List E) (w : Bool), (∀ x ∈ l, Rdb (f z) x (fi x) (fr x)) → l.length ≤ n →
    eachM rMac id f z [] n gone (l.flatMap (fun x => opI id (fi x)) ++ s, w) = (gone ++ l, (s, w || !l.all fr)) := by
  intro l
  induction l with
  | nil =>
    intro n gone w _ _
    cases n <;> simp [eachM, rMac, hs]
  | cons x l ih =>
    intro n gone w hf hn
    cases n with
    | zero => simp at hn
    | succ n =>
      have hm : rMac.more (opI id (fi x) ++ (l.flatMap (fun x => opI id (fi x)) ++ s)) id (decide (gone.length < ([] : List E).length)) = true := by simp [rMac, nextB, opI]
      have hz : ([] : List E)[gone.length]?.getD z = z := by simp
      simp only [List.flatMap_cons, List.append_assoc, eachM, hm, if_true, hz]
      rw [rd_in (hf x (by simp))]
      simp only
      rw [ih n _ _ (fun y hy => hf y (by simp [hy])) (by simpa using hn)]
      refine Prod.ext (by simp) (Prod.ext rfl ?_)
      simp only [List.all_cons]
      cases fr x <;> cases w <;> simp
theorem next_each {E : Type} (k id : Int) (hk : k ≠ id) (fi : E → List It) (l : List E) (s : List It) (hs : nextB 3 k s = false) : nextB 3 k (l.flatMap (fun x => opI id (fi x)) ++ s) = false := by
  cases l with
  | nil => simpa using hs
  | cons x l => simp [opI, nextB]; omega
theorem rdb_tie {x : TieT} (hx : ∀ r ∈ x.reaches, r.ok) (hr : tieR x = true) : ∀ s w, nextB 3 4 s = false → nextB 3 5 s = false → tieM rMac TieT.zero (tieI x ++ s, w) = (x, (s, w)) := fun s w h4 h5 => by
  have hr' := hr
  simp only [tieR, Bool.and_eq_true, decide_eq_true_eq] at hr
  obtain ⟨hh, hl, ho, ⟨hea, hel⟩, hra, hrl⟩ := hr
  simp only [tieM, tieI, List.append_assoc, List.cons_append, List.nil_append, rd_in (rdb_head x.head TieT.zero.head), rd_btw, rd_flag]
  rw [show TieT.zero.edges = [] from rfl, show TieT.zero.reaches = [] from rfl]
  rw [rdb_each 4 (edgeM rMac) EdgeT.zero edgeI edgeR _ (next_each 4 5 (by decide) reachI x.reaches s h4) x.edges _ [] _ (fun y _ => rdb_edge y _) hel]
  simp only
  rw [rdb_each 5 (reachM rMac) ReachT.zero reachI reachR s h5 x.reaches _ [] _ (fun y hy => rdb_reach (hx y hy) _) hrl]
  simp [hh, hl, ho, hea, hra]
theorem id_nil {x : IdT} (h : x.nil = true) : x = IdT.zero := by
  obtain ⟨a, b, c, d⟩ := x
  simp [IdT.nil] at h
  obtain ⟨rfl, rfl, rfl, rfl⟩ := h
  rfl
theorem head_nil {x : HeadT} (h : x.nil = true) : x = HeadT.zero := by
  obtain ⟨a, b, c⟩ := x
  simp [HeadT.nil] at h
  obtain ⟨h1, rfl, rfl⟩ := h
  have := id_nil h1
  subst this
  rfl
theorem lie_nil {x : LieT} (h : x.nil = true) : x = LieT.zero := by
  obtain ⟨a, b, c, d, e, f, g, i, j, k, l, m⟩ := x
  simp [LieT.nil] at h
  obtain ⟨⟨⟨rfl, rfl, rfl, rfl, rfl, rfl, rfl, rfl, rfl, rfl⟩, rfl⟩, rfl⟩ := h
  rfl
theorem tie_nil {x : TieT} (h : x.nil = true) : x = TieT.zero := by
  obtain ⟨a, b, c, d, e⟩ := x
  simp [TieT.nil] at h
  obtain ⟨⟨⟨⟨h1, rfl⟩, rfl⟩, rfl⟩, rfl⟩ := h
  have := head_nil h1
  subst this
  rfl
set_option maxHeartbeats 1000000 in
theorem rdb_pack {p : PackT} (hp : ∀ r ∈ p.tie.reaches, r.ok) (hr : rightW p = true) : packM rMac PackT.zero (packI p, false) = (p, ([], false)) := by
  obtain ⟨kind, lie, tie, frm, to, heads⟩ := p
  rw [rightW, Bool.and_eq_true] at hr
  obtain ⟨hr, hu⟩ := hr
  unfold packM packI
  simp only [rd_btw]
  have k3 : ∀ (l : List HeadT), headsR l = true → ∀ w, eachM rMac 6 (headM rMac) HeadT.zero [] 64 [] (l.flatMap (fun x => opI 6 (headI x)), w) = (l, ([], w)) := fun l hl w => by
    simp only [headsR, Bool.and_eq_true, decide_eq_true_eq] at hl
    have := rdb_each 6 (headM rMac) HeadT.zero headI headR [] rfl l 64 [] w (fun y _ => rdb_head y _) hl.2
    simpa [hl.1] using this
  have hz : PackT.zero.heads = [] := rfl
  by_cases h1 : kind = 1
  · subst h1
    simp [packR] at hr
    simp [unusedB] at hu
    obtain ⟨⟨ht, hf, hto⟩, hh⟩ := hu
    have e := rd_in (rdb_lie lie PackT.zero.lie) 2 [] (false || !rgB 1 4 1)
    simp only [List.append_nil] at e
    simp only [if_true, e, hr]
    have z1 := tie_nil ht
    have z2 := id_nil hf
    have z3 := id_nil hto
    subst z1 z2 z3 hh
    rfl
  by_cases h2 : kind = 2
  · subst h2
    simp [packR] at hr
    simp [unusedB] at hu
    obtain ⟨⟨hl, hf, hto⟩, hh⟩ := hu
    have e : ∀ w, inM rMac 3 (tieM rMac PackT.zero.tie) (opI 3 (tieI tie), w) = (tie, ([], w)) := fun w => by
      have := rd_in0 (s := []) 3 (rdb_tie hp hr [⟨4, 0, 0, []⟩] w rfl rfl)
      rwa [List.append_nil] at this
    simp only [if_neg h1, if_true, e]
    have z1 := lie_nil hl
    have z2 := id_nil hf
    have z3 := id_nil hto
    subst z1 z2 z3 hh
    rfl
  by_cases h3 : kind = 3
  · subst h3
    simp [packR] at hr
    simp [unusedB] at hu
    obtain ⟨hl, ht⟩ := hu
    simp only [if_neg h1, if_neg h2, if_true, rd_in (rdb_id frm PackT.zero.frm), rd_in (rdb_id to PackT.zero.to), hz, k3 heads hr.2, hr.1]
    have z1 := lie_nil hl
    have z2 := tie_nil ht
    subst z1 z2
    rfl
  by_cases h4 : kind = 4
  · subst h4
    simp [packR] at hr
    simp [unusedB] at hu
    obtain ⟨⟨hl, ht⟩, hf, hto⟩ := hu
    simp only [if_neg h1, if_neg h2, if_neg h3, if_true, hz, k3 heads hr]
    have z1 := lie_nil hl
    have z2 := tie_nil ht
    have z3 := id_nil hf
    have z4 := id_nil hto
    subst z1 z2 z3 z4
    rfl
  · simp [packR, h1, h2, h3, h4] at hr
end Go.Proofs.YtpaooddmgcekhaaGreat
