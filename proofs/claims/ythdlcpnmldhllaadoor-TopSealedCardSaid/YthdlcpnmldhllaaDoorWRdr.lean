/-
  READ: the packet that has these fields, and whether there is one.
-/
import Derived.Test.YthdlcpnmldhllaaDoorWReader
import Derived.Test.YthdlcpnmldhllaaDoorWWrite
import Derived.Test.YthdlcpnmldhllaaDoorWSound
namespace Go.Proofs.YthdlcpnmldhllaaDoor
open Go.RowKit Go.Shelf
set_option linter.unusedVariables false

/-- What is read of some fields. -/
def readS (k : List It) : PackT × Bool := ((packM rMac PackT.zero (k, false)).1, !(packM rMac PackT.zero (k, false)).2.2 && decide ((packM rMac PackT.zero (k, false)).2.1.length = 0))
theorem read_back {p : PackT} (hp : ∀ r ∈ p.tie.reaches, r.ok) (hr : rightW p = true) : readS (packI p) = (p, true) := by
  unfold readS
  rw [rdb_pack hp hr]
  rfl
theorem read_sound {k : List It} (hk : ∀ x ∈ k, shapeB x = true) (h : (readS k).2 = true) : k = packI (readS k).1 ∧ rightW (readS k).1 = true := by
  simp only [readS, Bool.and_eq_true, Bool.not_eq_true', decide_eq_true_eq] at h
  obtain ⟨h1, h2⟩ := snd_pack (k, false) h.1 hk
  rw [List.eq_nil_of_length_eq_zero h.2, List.append_nil] at h1
  exact ⟨h1, h2⟩
theorem each_len {E : Type} {f : E → List It × Bool → E × (List It × Bool)} {z : E} {Q : E → Prop} (hf : ∀ t, Q (f z t).1) (id : Int) : ∀ (n : Nat) (gone : List E) (t : List It × Bool), (∀ x ∈ gone, Q x) →
    (eachM rMac id f z [] n gone t).1.length ≤ gone.length + n ∧ ∀ x ∈ (eachM rMac id f z [] n gone t).1, Q x := by
  intro n
  induction n with
  | zero => intro gone t h; exact ⟨by simp [eachM], by simpa [eachM] using h⟩
  | succ n ih =>
    intro gone t h
    rw [eachM]
    split
    · have hz : ([] : List E)[gone.length]?.getD z = z := by simp
      rw [hz]
      obtain ⟨h1, h2⟩ := ih (gone ++ [(inM rMac id (f z) t).1]) (inM rMac id (f z) t).2 (fun x hx => by
        rcases List.mem_append.1 hx with hx | hx
        · exact h x hx
        · simp at hx
          subst hx
          exact hf _)
      refine ⟨?_, h2⟩
      rw [List.length_append] at h1
      simp only [List.length_cons, List.length_nil] at h1
      omega
    · exact ⟨Nat.le_add_right _ _, h⟩
theorem reach_ok (t : List It × Bool) : (reachM rMac ReachT.zero t).1.ok := by
  unfold reachM ReachT.ok
  simp only
  omega
/-- The lists of what is read are short, and their nets are of 32 bits. -/
def ShortP (p : PackT) : Prop := p.tie.edges.length ≤ 64 ∧ p.tie.reaches.length ≤ 64 ∧ p.heads.length ≤ 64 ∧ ∀ y ∈ p.tie.reaches, y.ok
theorem short_tie (t : List It × Bool) : (tieM rMac TieT.zero t).1.edges.length ≤ 64 ∧ (tieM rMac TieT.zero t).1.reaches.length ≤ 64 ∧ ∀ y ∈ (tieM rMac TieT.zero t).1.reaches, y.ok := by
  unfold tieM
  simp only
  rw [show TieT.zero.edges = [] from rfl, show TieT.zero.reaches = [] from rfl]
  refine ⟨?_, ?_, ?_⟩
  · refine Nat.le_trans (each_len (Q := fun _ => True) (fun _ => trivial) 4 _ [] _ (by simp)).1 ?_
    simp only [List.length_nil]
    split <;> omega
  · refine Nat.le_trans (each_len (Q := fun _ => True) (fun _ => trivial) 5 _ [] _ (by simp)).1 ?_
    simp only [List.length_nil]
    split <;> omega
  · exact (each_len (Q := ReachT.ok) reach_ok 5 _ [] _ (by simp)).2
theorem short_read (k : List It) : ShortP (readS k).1 := by
  unfold readS ShortP
  simp only
  unfold packM
  simp only
  have hh : ∀ t, (eachM rMac 6 (headM rMac) HeadT.zero [] 64 [] t).1.length ≤ 64 := fun t => by
    have := (each_len (f := headM rMac) (z := HeadT.zero) (Q := fun _ => True) (fun _ => trivial) 6 64 [] t (by simp)).1
    simpa using this
  have z1 : PackT.zero.tie.edges.length ≤ 64 := by decide
  have z2 : PackT.zero.tie.reaches.length ≤ 64 := by decide
  have z3 : PackT.zero.heads.length ≤ 64 := by decide
  have z4 : ∀ y ∈ PackT.zero.tie.reaches, y.ok := fun y hy => by simp [PackT.zero, TieT.zero] at hy
  split
  · exact ⟨z1, z2, z3, z4⟩
  split
  · exact ⟨(short_tie _).1, (short_tie _).2.1, z3, (short_tie _).2.2⟩
  split
  · exact ⟨z1, z2, hh _, z4⟩
  split
  · exact ⟨z1, z2, hh _, z4⟩
  · exact ⟨z1, z2, z3, z4⟩

theorem results_cell2 {P : Program} {fn : Func} {tmps : Array Value} {w : World} {a t s b o : Nat} {cs : List Value} {d : TypeDesc} (hf : fn.results = #[.cell a t, .tmp s]) (ha : tmps.getD a undef = .pointer (some ⟨b, o, none⟩)) (hc : w.rangeAt b o cs)
    (hu : P.underlying t = some d) (hd : d.isRow = true) (hi : (P.info? t).map (·.size) = some cs.length) : (results fn tmps).run P w = .ok (.tuple #[.agg cs.toArray, tmps.getD s undef]) w := by
  unfold results
  rw [hf]
  have h0 := run_loadVar_mid w b o t cs d hc hu hd hi
  have ha' : tmps[a]?.getD undef = .pointer (some ⟨b, o, none⟩) := by simpa using ha
  simp [ha', asAddr, h0, Result.andThen_ok]
theorem takeG {P : Program} {ops : Array Oper} {Q : Exit → Act → World → Prop} {md : Region.Mode} {S : World → Prop} {i d : Nat} {oi : Oper} {v : Value} {fuel : Nat} {listed : Array Bool} {ts : Array Value} {df : List Deferred} {w : World} (hi : ops[i]? = some oi) (hd : oi.dst = some d)
    (hs : Region.noSelect ops = true) (hf : Region.free md ops listed i = true) (hr : (Region.ready md ops listed).contains i = true)
    (hQ : ∀ c a w, Q (.panic c) (a.put oi.dst v) w → Q (.panic c) a w) (hg : Region.wanted oi (yielded ops ts) = true) (hy : ∀ w, S w → (execOp (Act.eval { tmps := ts, defers := df }) oi).run P w = .ok (.value v) w) (hS : S w)
    (h : wpAnyH P md ops Q S fuel (listed.setIfInBounds i true) { tmps := ts.setIfInBounds d v, defers := df } w) : wpAnyH P md ops Q S (fuel + 1) listed { tmps := ts, defers := df } w := by
  refine wpAnyH_take hi hs hf hr hQ (.inl ⟨hg, hy⟩) hS ?_
  unfold Act.put
  rw [hd]
  exact h
theorem takeN {P : Program} {ops : Array Oper} {Q : Exit → Act → World → Prop} {md : Region.Mode} {S : World → Prop} {i d : Nat} {oi : Oper} {fuel : Nat} {listed : Array Bool} {ts : Array Value} {df : List Deferred} {w : World} (hi : ops[i]? = some oi) (hd : oi.dst = some d)
    (hs : Region.noSelect ops = true) (hf : Region.free md ops listed i = true) (hr : (Region.ready md ops listed).contains i = true)
    (hQ : ∀ c a w, Q (.panic c) (a.put oi.dst undef) w → Q (.panic c) a w) (hg : Region.wanted oi (yielded ops ts) = false) (hS : S w)
    (h : wpAnyH P md ops Q S fuel (listed.setIfInBounds i true) { tmps := ts.setIfInBounds d undef, defers := df } w) : wpAnyH P md ops Q S (fuel + 1) listed { tmps := ts, defers := df } w := by
  refine wpAnyH_take hi hs hf hr hQ (.inr ⟨hg, rfl⟩) hS ?_
  unfold Act.put
  rw [hd]
  exact h
theorem Far1.mono {n m : Nat} {v : Value} (h : Far1 n v) (hm : m ≤ n) : Far1 m v := fun b o k c e hk => Nat.le_trans hm (h b o k c e hk)
/-- A packet's lists lie in no block that is elder. -/
def FarS (n : Nat) (q : PackT) (Ae Ar Ah : Option Addr) (Ce Cr Ch : Nat) : Prop := Far1 n (.slice Ae q.tie.edges.length Ce) ∧ Far1 n (.slice Ar q.tie.reaches.length Cr) ∧ Far1 n (.slice Ah q.heads.length Ch)
theorem FarS.mono {n m : Nat} {q : PackT} {Ae Ar Ah : Option Addr} {Ce Cr Ch : Nat} (h : FarS n q Ae Ar Ah Ce Cr Ch) (hm : m ≤ n) : FarS m q Ae Ar Ah Ce Cr Ch := ⟨h.1.mono hm, h.2.1.mono hm, h.2.2.mono hm⟩
/-- A packet in memory of its own, and a verdict. -/
def RdOut (q : PackT) (b : Bool) (w : World) (e : Ending) (w' : World) : Prop :=
  ∃ (Ae Ar Ah : Option Addr) (Ce Cr Ch : Nat), e = .returned (.tuple #[.agg #[.int .i64 q.kind, .int .i64 q.lie.node, .int .i64 q.lie.level, .int .i64 q.lie.pod, .int .i64 q.lie.mtu, .int .i64 q.lie.link, .int .i64 q.lie.nonce, .int .i64 q.lie.seen, .int .i64 q.lie.seenLink, .int .i64 q.lie.seenNonce, .int .i64 q.lie.hold, .bool q.lie.rep, .bool q.lie.noOffer, .int .i64 q.tie.head.id.dir, .int .i64 q.tie.head.id.orig, .int .i64 q.tie.head.id.kind, .int .i64 q.tie.head.id.nr, .int .i64 q.tie.head.seq, .int .i64 q.tie.head.life, .int .i64 q.tie.level, .bool q.tie.over, .slice Ae q.tie.edges.length Ce, .slice Ar q.tie.reaches.length Cr, .int .i64 q.frm.dir, .int .i64 q.frm.orig, .int .i64 q.frm.kind, .int .i64 q.frm.nr, .int .i64 q.to.dir, .int .i64 q.to.orig, .int .i64 q.to.kind, .int .i64 q.to.nr, .slice Ah q.heads.length Ch], .bool b]) ∧ Pk w'.heap.size w' q Ae Ar Ah Ce Cr Ch ∧ FarS w.heap.size q Ae Ar Ah Ce Cr Ch ∧ Below w.heap.size w w'
theorem pk_sl {W : World} {q : PackT} {Ae Ar Ah : Option Addr} {Ce Cr Ch : Nat} (h1 : Sl 3 encEdge W.heap.size W (.slice Ae q.tie.edges.length Ce) q.tie.edges) (h2 : Sl 3 encReach W.heap.size W (.slice Ar q.tie.reaches.length Cr) q.tie.reaches) (h3 : Sl 6 encHead W.heap.size W (.slice Ah q.heads.length Ch) q.heads) (hs : ShortP q) :
    Pk W.heap.size W q Ae Ar Ah Ce Cr Ch := by
  obtain ⟨s1, s2, s3, s4⟩ := hs
  obtain ⟨_, _, e1, l1, m1, r1⟩ := h1
  obtain ⟨_, _, e2, l2, m2, r2⟩ := h2
  obtain ⟨_, _, e3, l3, m3, r3⟩ := h3
  injection e1 with a1 _ b1
  injection e2 with a2 _ b2
  injection e3 with a3 _ b3
  subst a1 b1 a2 b2 a3 b3
  exact ⟨r1, r2, r3, ⟨by omega, l1, m1⟩, ⟨by omega, l2, m2⟩, ⟨by omega, l3, m3⟩, s4⟩
theorem below_cells {B : Nat} {W W' : World} (h : Below B W W') {b : Nat} (hb : B ≤ b) : ∀ (vs : List Value) (o : Nat), Below B W (W'.setCells b o vs) := by
  intro vs
  induction vs generalizing W' with
  | nil => intro o; exact h
  | cons v r ih => intro o; exact ih (h.setCell (p := ⟨b, o, none⟩) hb v) (o + 1)
theorem size_cells (b : Nat) : ∀ (vs : List Value) (o : Nat) (w : World), (w.setCells b o vs).heap.size = w.heap.size := by
  intro vs
  induction vs with
  | nil => intro o w; rfl
  | cons v r ih => intro o w; rw [World.setCells, ih]; simp [World.setCell]
theorem RdR.apart {E : Type} {sz : Nat} {en : E → List Value} {n₀ : Nat} {W : World} {A : Option Addr} {l : List E} (h : RdR sz en n₀ W A l) (B o : Nat) (vs : List Value) (hb : ∀ b o, A = some ⟨b, o, none⟩ → 0 < l.length → b ≠ B) : RdR sz en n₀ (W.setCells B o vs) A l := fun hp => by
  obtain ⟨b, off, e, hlt, hc⟩ := h hp
  refine ⟨b, off, e, hlt, fun j x hx i v hv => ?_⟩
  rw [World.cell?_setCells_out B vs o W _ (fun h1 _ => absurd h1 (hb b off e hp))]
  exact hc j x hx i v hv
theorem Sl.apart {E : Type} {sz : Nat} {en : E → List Value} {n₀ : Nat} {W : World} {v : Value} {l : List E} (h : Sl sz en n₀ W v l) {n B : Nat} (hf : Far1 n v) (hB : B < n) (o : Nat) (vs : List Value) : Sl sz en n₀ (W.setCells B o vs) v l := by
  obtain ⟨A, c, rfl, h1, h2, hr⟩ := h
  refine ⟨A, c, rfl, h1, h2, hr.apart B o vs (fun b o' e hp => ?_)⟩
  subst e
  have := hf b o' _ _ rfl hp
  omega
theorem there_of {W : World} {b : Nat} {cs : Array Value} {t : TypeId} {n : Nat} (h : W.heap[b]? = some (.cells cs t (0, 0))) (hn : n ≤ cs.size) : W.there b 0 n := fun j hj => by
  refine ⟨?_, by simp [World.frozen?, h]⟩
  rw [cell_of_row W b _ cs t (0, 0) h, Nat.zero_add, Array.getElem?_eq_getElem (by omega)]
  rfl
theorem Pk.apart {n : Nat} {W : World} {q : PackT} {Ae Ar Ah : Option Addr} {Ce Cr Ch : Nat} (h : Pk n W q Ae Ar Ah Ce Cr Ch) {m B : Nat} (hf : FarS m q Ae Ar Ah Ce Cr Ch) (hB : B < m) (o : Nat) (vs : List Value) : Pk n (W.setCells B o vs) q Ae Ar Ah Ce Cr Ch :=
  ⟨h.re.apart B o vs (fun b o' e hp => by subst e; have := hf.1 b o' _ _ rfl hp; omega), h.rr.apart B o vs (fun b o' e hp => by subst e; have := hf.2.1 b o' _ _ rfl hp; omega), h.rh.apart B o vs (fun b o' e hp => by subst e; have := hf.2.2 b o' _ _ rfl hp; omega), h.le, h.lr, h.lh, h.ok⟩
attribute [local go_sem] run_store_fnv
set_option maxRecDepth 100000 in
set_option maxHeartbeats 8000000 in
theorem read_any (a : Option Addr) (n c : Nat) (k : List It) (hn : n = k.length) (hc : n ≤ c) (hm : c ≤ maxLen) (w : World) (hr : RdI w.heap.size w a k) :
    Calls Tryd.prog 21 #[.slice a n c] w (RdOut (readS k).1 (readS k).2 w) := by
  have hB0 := (Below.refl w.heap.size w).alloc (Nat.le_refl _) (.cells #[.int .i64 0, .int .i64 0, .int .i64 0, .int .i64 0, .int .i64 0, .int .i64 0, .int .i64 0, .int .i64 0, .int .i64 0, .int .i64 0, .int .i64 0, .bool false, .bool false, .int .i64 0, .int .i64 0, .int .i64 0, .int .i64 0, .int .i64 0, .int .i64 0, .int .i64 0, .bool false, .slice none 0 0, .slice none 0 0, .int .i64 0, .int .i64 0, .int .i64 0, .int .i64 0, .int .i64 0, .int .i64 0, .int .i64 0, .int .i64 0, .slice none 0 0] 34)
  have hB1 := hB0.alloc (by simp) (.cells #[.slice a n c] 97)
  have hB2 := hB1.alloc (by simp <;> omega) (.cells ((rEnv w.heap.size).cells false) 79)
  have hB3 := hB2.alloc (by simp <;> omega) (.cells #[.int .i64 0, .int .i64 0, .int .i64 0, .int .i64 0, .int .i64 0, .int .i64 0, .int .i64 0, .int .i64 0, .int .i64 0, .int .i64 0, .int .i64 0, .bool false, .bool false, .int .i64 0, .int .i64 0, .int .i64 0, .int .i64 0, .int .i64 0, .int .i64 0, .int .i64 0, .bool false, .slice none 0 0, .slice none 0 0, .int .i64 0, .int .i64 0, .int .i64 0, .int .i64 0, .int .i64 0, .int .i64 0, .int .i64 0, .int .i64 0, .slice none 0 0] 34)
  have A0 : At (rEnv w.heap.size).base ((((w.alloc (.cells #[.int .i64 0, .int .i64 0, .int .i64 0, .int .i64 0, .int .i64 0, .int .i64 0, .int .i64 0, .int .i64 0, .int .i64 0, .int .i64 0, .int .i64 0, .bool false, .bool false, .int .i64 0, .int .i64 0, .int .i64 0, .int .i64 0, .int .i64 0, .int .i64 0, .int .i64 0, .bool false, .slice none 0 0, .slice none 0 0, .int .i64 0, .int .i64 0, .int .i64 0, .int .i64 0, .int .i64 0, .int .i64 0, .int .i64 0, .int .i64 0, .slice none 0 0] 34)).alloc (.cells #[.slice a n c] 97)).alloc (.cells ((rEnv w.heap.size).cells false) 79)).alloc (.cells #[.int .i64 0, .int .i64 0, .int .i64 0, .int .i64 0, .int .i64 0, .int .i64 0, .int .i64 0, .int .i64 0, .int .i64 0, .int .i64 0, .int .i64 0, .bool false, .bool false, .int .i64 0, .int .i64 0, .int .i64 0, .int .i64 0, .int .i64 0, .int .i64 0, .int .i64 0, .bool false, .slice none 0 0, .slice none 0 0, .int .i64 0, .int .i64 0, .int .i64 0, .int .i64 0, .int .i64 0, .int .i64 0, .int .i64 0, .int .i64 0, .slice none 0 0] 34)) (w.heap.size + 1 + 1 + 1) 0 (encPack PackT.zero (.slice none 0 0) (.slice none 0 0) (.slice none 0 0)) := by
    refine ⟨by show w.heap.size ≤ _; omega, #[.int .i64 0, .int .i64 0, .int .i64 0, .int .i64 0, .int .i64 0, .int .i64 0, .int .i64 0, .int .i64 0, .int .i64 0, .int .i64 0, .int .i64 0, .bool false, .bool false, .int .i64 0, .int .i64 0, .int .i64 0, .int .i64 0, .int .i64 0, .int .i64 0, .int .i64 0, .bool false, .slice none 0 0, .slice none 0 0, .int .i64 0, .int .i64 0, .int .i64 0, .int .i64 0, .int .i64 0, .int .i64 0, .int .i64 0, .int .i64 0, .slice none 0 0], 34, ?_, rfl, fun i v hv => ?_⟩
    · have := World.alloc_heap_new (((w.alloc (.cells #[.int .i64 0, .int .i64 0, .int .i64 0, .int .i64 0, .int .i64 0, .int .i64 0, .int .i64 0, .int .i64 0, .int .i64 0, .int .i64 0, .int .i64 0, .bool false, .bool false, .int .i64 0, .int .i64 0, .int .i64 0, .int .i64 0, .int .i64 0, .int .i64 0, .int .i64 0, .bool false, .slice none 0 0, .slice none 0 0, .int .i64 0, .int .i64 0, .int .i64 0, .int .i64 0, .int .i64 0, .int .i64 0, .int .i64 0, .int .i64 0, .slice none 0 0] 34)).alloc (.cells #[.slice a n c] 97)).alloc (.cells ((rEnv w.heap.size).cells false) 79)) (.cells #[.int .i64 0, .int .i64 0, .int .i64 0, .int .i64 0, .int .i64 0, .int .i64 0, .int .i64 0, .int .i64 0, .int .i64 0, .int .i64 0, .int .i64 0, .bool false, .bool false, .int .i64 0, .int .i64 0, .int .i64 0, .int .i64 0, .int .i64 0, .int .i64 0, .int .i64 0, .bool false, .slice none 0 0, .slice none 0 0, .int .i64 0, .int .i64 0, .int .i64 0, .int .i64 0, .int .i64 0, .int .i64 0, .int .i64 0, .int .i64 0, .slice none 0 0] 34)
      simpa using this
    · rw [Nat.zero_add]
      show (encPack PackT.zero (.slice none 0 0) (.slice none 0 0) (.slice none 0 0)).toArray[i]? = some v
      simpa using hv
  have S0 : (rEnv w.heap.size).St (0 + 700) ((k, false) : List It × Bool) ((((w.alloc (.cells #[.int .i64 0, .int .i64 0, .int .i64 0, .int .i64 0, .int .i64 0, .int .i64 0, .int .i64 0, .int .i64 0, .int .i64 0, .int .i64 0, .int .i64 0, .bool false, .bool false, .int .i64 0, .int .i64 0, .int .i64 0, .int .i64 0, .int .i64 0, .int .i64 0, .int .i64 0, .bool false, .slice none 0 0, .slice none 0 0, .int .i64 0, .int .i64 0, .int .i64 0, .int .i64 0, .int .i64 0, .int .i64 0, .int .i64 0, .int .i64 0, .slice none 0 0] 34)).alloc (.cells #[.slice a n c] 97)).alloc (.cells ((rEnv w.heap.size).cells false) 79)).alloc (.cells #[.int .i64 0, .int .i64 0, .int .i64 0, .int .i64 0, .int .i64 0, .int .i64 0, .int .i64 0, .int .i64 0, .int .i64 0, .int .i64 0, .int .i64 0, .bool false, .bool false, .int .i64 0, .int .i64 0, .int .i64 0, .int .i64 0, .int .i64 0, .int .i64 0, .int .i64 0, .bool false, .slice none 0 0, .slice none 0 0, .int .i64 0, .int .i64 0, .int .i64 0, .int .i64 0, .int .i64 0, .int .i64 0, .int .i64 0, .int .i64 0, .slice none 0 0] 34)) := by
    refine ⟨by show (0 : Nat) + (0 + 700) ≤ 100000; omega, ?_, ⟨by show w.heap.size ≤ w.heap.size + 1; omega, a, n, c, ?_, hr.below hB3, hn, hc, hm⟩⟩
    · show ((((w.alloc (.cells #[.int .i64 0, .int .i64 0, .int .i64 0, .int .i64 0, .int .i64 0, .int .i64 0, .int .i64 0, .int .i64 0, .int .i64 0, .int .i64 0, .int .i64 0, .bool false, .bool false, .int .i64 0, .int .i64 0, .int .i64 0, .int .i64 0, .int .i64 0, .int .i64 0, .int .i64 0, .bool false, .slice none 0 0, .slice none 0 0, .int .i64 0, .int .i64 0, .int .i64 0, .int .i64 0, .int .i64 0, .int .i64 0, .int .i64 0, .int .i64 0, .slice none 0 0] 34)).alloc (.cells #[.slice a n c] 97)).alloc (.cells ((rEnv w.heap.size).cells false) 79)).alloc (.cells #[.int .i64 0, .int .i64 0, .int .i64 0, .int .i64 0, .int .i64 0, .int .i64 0, .int .i64 0, .int .i64 0, .int .i64 0, .int .i64 0, .int .i64 0, .bool false, .bool false, .int .i64 0, .int .i64 0, .int .i64 0, .int .i64 0, .int .i64 0, .int .i64 0, .int .i64 0, .bool false, .slice none 0 0, .slice none 0 0, .int .i64 0, .int .i64 0, .int .i64 0, .int .i64 0, .int .i64 0, .int .i64 0, .int .i64 0, .int .i64 0, .slice none 0 0] 34)).heap[w.heap.size + 1 + 1]? = _
      rw [Below.heap_alloc _ _ _ (by simp)]
      have := World.alloc_heap_new ((w.alloc (.cells #[.int .i64 0, .int .i64 0, .int .i64 0, .int .i64 0, .int .i64 0, .int .i64 0, .int .i64 0, .int .i64 0, .int .i64 0, .int .i64 0, .int .i64 0, .bool false, .bool false, .int .i64 0, .int .i64 0, .int .i64 0, .int .i64 0, .int .i64 0, .int .i64 0, .int .i64 0, .bool false, .slice none 0 0, .slice none 0 0, .int .i64 0, .int .i64 0, .int .i64 0, .int .i64 0, .int .i64 0, .int .i64 0, .int .i64 0, .int .i64 0, .slice none 0 0] 34)).alloc (.cells #[.slice a n c] 97)) (.cells ((rEnv w.heap.size).cells false) 79)
      simpa using this
    · rw [Below.heap_alloc _ _ _ (by simp <;> omega), Below.heap_alloc _ _ _ (by simp)]
      have := World.alloc_heap_new (w.alloc (.cells #[.int .i64 0, .int .i64 0, .int .i64 0, .int .i64 0, .int .i64 0, .int .i64 0, .int .i64 0, .int .i64 0, .int .i64 0, .int .i64 0, .int .i64 0, .bool false, .bool false, .int .i64 0, .int .i64 0, .int .i64 0, .int .i64 0, .int .i64 0, .int .i64 0, .int .i64 0, .bool false, .slice none 0 0, .slice none 0 0, .int .i64 0, .int .i64 0, .int .i64 0, .int .i64 0, .int .i64 0, .int .i64 0, .int .i64 0, .int .i64 0, .slice none 0 0] 34)) (.cells #[.slice a n c] 97)
      simpa using this
  have hbk0 : ((((w.alloc (.cells #[.int .i64 0, .int .i64 0, .int .i64 0, .int .i64 0, .int .i64 0, .int .i64 0, .int .i64 0, .int .i64 0, .int .i64 0, .int .i64 0, .int .i64 0, .bool false, .bool false, .int .i64 0, .int .i64 0, .int .i64 0, .int .i64 0, .int .i64 0, .int .i64 0, .int .i64 0, .bool false, .slice none 0 0, .slice none 0 0, .int .i64 0, .int .i64 0, .int .i64 0, .int .i64 0, .int .i64 0, .int .i64 0, .int .i64 0, .int .i64 0, .slice none 0 0] 34)).alloc (.cells #[.slice a n c] 97)).alloc (.cells ((rEnv w.heap.size).cells false) 79)).alloc (.cells #[.int .i64 0, .int .i64 0, .int .i64 0, .int .i64 0, .int .i64 0, .int .i64 0, .int .i64 0, .int .i64 0, .int .i64 0, .int .i64 0, .int .i64 0, .bool false, .bool false, .int .i64 0, .int .i64 0, .int .i64 0, .int .i64 0, .int .i64 0, .int .i64 0, .int .i64 0, .bool false, .slice none 0 0, .slice none 0 0, .int .i64 0, .int .i64 0, .int .i64 0, .int .i64 0, .int .i64 0, .int .i64 0, .int .i64 0, .int .i64 0, .slice none 0 0] 34)).heap[w.heap.size]? = some (.cells #[.int .i64 0, .int .i64 0, .int .i64 0, .int .i64 0, .int .i64 0, .int .i64 0, .int .i64 0, .int .i64 0, .int .i64 0, .int .i64 0, .int .i64 0, .bool false, .bool false, .int .i64 0, .int .i64 0, .int .i64 0, .int .i64 0, .int .i64 0, .int .i64 0, .int .i64 0, .bool false, .slice none 0 0, .slice none 0 0, .int .i64 0, .int .i64 0, .int .i64 0, .int .i64 0, .int .i64 0, .int .i64 0, .int .i64 0, .int .i64 0, .slice none 0 0] 34 (0, 0)) := by
    rw [Below.heap_alloc _ _ _ (by simp <;> omega), Below.heap_alloc _ _ _ (by simp <;> omega), Below.heap_alloc _ _ _ (by simp)]
    exact World.alloc_heap_new w _
  have hbk3 : ((((w.alloc (.cells #[.int .i64 0, .int .i64 0, .int .i64 0, .int .i64 0, .int .i64 0, .int .i64 0, .int .i64 0, .int .i64 0, .int .i64 0, .int .i64 0, .int .i64 0, .bool false, .bool false, .int .i64 0, .int .i64 0, .int .i64 0, .int .i64 0, .int .i64 0, .int .i64 0, .int .i64 0, .bool false, .slice none 0 0, .slice none 0 0, .int .i64 0, .int .i64 0, .int .i64 0, .int .i64 0, .int .i64 0, .int .i64 0, .int .i64 0, .int .i64 0, .slice none 0 0] 34)).alloc (.cells #[.slice a n c] 97)).alloc (.cells ((rEnv w.heap.size).cells false) 79)).alloc (.cells #[.int .i64 0, .int .i64 0, .int .i64 0, .int .i64 0, .int .i64 0, .int .i64 0, .int .i64 0, .int .i64 0, .int .i64 0, .int .i64 0, .int .i64 0, .bool false, .bool false, .int .i64 0, .int .i64 0, .int .i64 0, .int .i64 0, .int .i64 0, .int .i64 0, .int .i64 0, .bool false, .slice none 0 0, .slice none 0 0, .int .i64 0, .int .i64 0, .int .i64 0, .int .i64 0, .int .i64 0, .int .i64 0, .int .i64 0, .int .i64 0, .slice none 0 0] 34)).heap[w.heap.size + 1 + 1 + 1]? = some (.cells #[.int .i64 0, .int .i64 0, .int .i64 0, .int .i64 0, .int .i64 0, .int .i64 0, .int .i64 0, .int .i64 0, .int .i64 0, .int .i64 0, .int .i64 0, .bool false, .bool false, .int .i64 0, .int .i64 0, .int .i64 0, .int .i64 0, .int .i64 0, .int .i64 0, .int .i64 0, .bool false, .slice none 0 0, .slice none 0 0, .int .i64 0, .int .i64 0, .int .i64 0, .int .i64 0, .int .i64 0, .int .i64 0, .int .i64 0, .int .i64 0, .slice none 0 0] 34 (0, 0)) := by
    have := World.alloc_heap_new (((w.alloc (.cells #[.int .i64 0, .int .i64 0, .int .i64 0, .int .i64 0, .int .i64 0, .int .i64 0, .int .i64 0, .int .i64 0, .int .i64 0, .int .i64 0, .int .i64 0, .bool false, .bool false, .int .i64 0, .int .i64 0, .int .i64 0, .int .i64 0, .int .i64 0, .int .i64 0, .int .i64 0, .bool false, .slice none 0 0, .slice none 0 0, .int .i64 0, .int .i64 0, .int .i64 0, .int .i64 0, .int .i64 0, .int .i64 0, .int .i64 0, .int .i64 0, .slice none 0 0] 34)).alloc (.cells #[.slice a n c] 97)).alloc (.cells ((rEnv w.heap.size).cells false) 79)) (.cells #[.int .i64 0, .int .i64 0, .int .i64 0, .int .i64 0, .int .i64 0, .int .i64 0, .int .i64 0, .int .i64 0, .int .i64 0, .int .i64 0, .int .i64 0, .bool false, .bool false, .int .i64 0, .int .i64 0, .int .i64 0, .int .i64 0, .int .i64 0, .int .i64 0, .int .i64 0, .bool false, .slice none 0 0, .slice none 0 0, .int .i64 0, .int .i64 0, .int .i64 0, .int .i64 0, .int .i64 0, .int .i64 0, .int .i64 0, .int .i64 0, .slice none 0 0] 34)
    simpa using this
  have nosl : ∀ {E : Type} (sz : Nat) (en : E → List Value) (W : World), Sl sz en (rEnv w.heap.size).base W (.slice none 0 0) ([] : List E) := fun sz en W => ⟨none, 0, rfl, Nat.le_refl _, Nat.zero_le _, fun hp => by simp at hp⟩
  have PA := Lib.hid (packet_any (E := rEnv w.heap.size) (rEnv_ok _) (w.heap.size + 1 + 1 + 1) 0 PackT.zero (.slice none 0 0) (.slice none 0 0) (.slice none 0 0) (by decide) (by decide) (by decide) (fun y hy => by simp [PackT.zero, TieT.zero] at hy) (k, false) _ S0 A0 (nosl _ _ _) (nosl _ _ _) (nosl _ _ _))
  have hq2 : ShortP (readS k).1 := short_read k
  obtain ⟨q, hq⟩ : ∃ q, (readS k).1 = q := ⟨_, rfl⟩
  obtain ⟨b, hb⟩ : ∃ b, (readS k).2 = b := ⟨_, rfl⟩
  rw [hq, hb]
  rw [hq] at hq2
  obtain ⟨s, hs⟩ : ∃ s, (packM rMac PackT.zero (k, false)).2.1 = s := ⟨_, rfl⟩
  obtain ⟨v, hv⟩ : ∃ v, (packM rMac PackT.zero (k, false)).2.2 = v := ⟨_, rfl⟩
  have hbv : b = (!v && decide (s.length = 0)) := by rw [← hb, ← hs, ← hv]; rfl
  have hm2 : packM (rEnv w.heap.size).M PackT.zero (k, false) = (q, (s, v)) := Prod.ext hq (Prod.ext hs hv)
  have HM := Lib.hid hm2
  have HBV := Lib.hid hbv
  have HS2 := Lib.hid hq2
  have B3 := Lib.hid hB3
  have HK0 := Lib.hid hbk0
  have HK3 := Lib.hid hbk3
  have HNN := Lib.hid hn
  clear hB0 hB1 hB2 hB3 A0 S0 hq hb hs hv hbv hm2 hq2 hr hbk0 hbk3 hn nosl
  cases v
  all_goals
   go_enter Tryd.func21, Tryd.ntmps21
   go_wp2_with (first
    | (go_at_call 29; refine PA.out.mono ?_; rintro e w1 ⟨ve, vr, vh, rfl, hs, hc, ha, hse, hsr, hsh, hfar⟩; have HFA := Lib.hid (hfar rfl rfl rfl); rw [HM.out] at hs ha hse hsr hsh; have FC := Lib.hid (full_cells hc HK3.out rfl ha rfl); have HSE := Lib.hid hse; have HSR := Lib.hid hsr; have HSH := Lib.hid hsh; obtain ⟨Ae, Ce, rfl, _⟩ := hse; obtain ⟨Ar, Cr, rfl, _⟩ := hsr; obtain ⟨Ah, Ch, rfl, _⟩ := hsh; obtain ⟨_, htb, _, A, m, cc, hbw, _, hml, _⟩ := hs; have HML := Lib.hid hml; have C1 := Lib.hid (B3.out.trans hc.bel); have K0 := Lib.hid (hc.keep w.heap.size _ _ _ (by omega) HK0.out rfl); have i0 : w1.cell? ⟨w.heap.size + 1, 0, none⟩ = some (.slice A m cc) := cell_of_row _ _ _ _ _ _ hbw; have t4 : w1.cell? ⟨w.heap.size + 1 + 1, 4, none⟩ = some (.bool _) := cell_of_row _ _ _ _ _ _ htb; have RG : RowKit.Hid (w1.drew.rangeAt (w.heap.size + 1 + 1 + 1) 0 [.int .i64 q.kind, .int .i64 q.lie.node, .int .i64 q.lie.level, .int .i64 q.lie.pod, .int .i64 q.lie.mtu, .int .i64 q.lie.link, .int .i64 q.lie.nonce, .int .i64 q.lie.seen, .int .i64 q.lie.seenLink, .int .i64 q.lie.seenNonce, .int .i64 q.lie.hold, .bool q.lie.rep, .bool q.lie.noOffer, .int .i64 q.tie.head.id.dir, .int .i64 q.tie.head.id.orig, .int .i64 q.tie.head.id.kind, .int .i64 q.tie.head.id.nr, .int .i64 q.tie.head.seq, .int .i64 q.tie.head.life, .int .i64 q.tie.level, .bool q.tie.over, .slice Ae q.tie.edges.length Ce, .slice Ar q.tie.reaches.length Cr, .int .i64 q.frm.dir, .int .i64 q.frm.orig, .int .i64 q.frm.kind, .int .i64 q.frm.nr, .int .i64 q.to.dir, .int .i64 q.to.orig, .int .i64 q.to.kind, .int .i64 q.to.nr, .slice Ah q.heads.length Ch]) := fun j v hv => ha.cell j hv; have l2 := lt_of_block htb; clear hc ha hbw htb hml hfar))
  · refine wp_region_held_drew (S := (fun w' => w'.cell? ⟨w.heap.size + 1, 0, none⟩ = some (.slice A m cc) ∧ w'.cell? ⟨w.heap.size + 1 + 1, 4, none⟩ = some (.bool false))) (by kernel_rfl) ⟨i0, t4⟩ (fun hHeld => ?_)
    refine takeD (i := 1) (d := 16) (v := ?v1) rfl rfl (by kernel_rfl) (by kernel_rfl) (by kernel_rfl) (fun _ _ _ h => h) rfl ?h1 (by assumption) ?r1
    case h1 =>
      intro w hSw
      try dsimp only at hSw
      go_simp
      try with_reducible rfl
    simp only [List.setIfInBounds_toArray, List.set_cons_zero, List.set_cons_succ]
    refine takeD (i := 2) (d := 17) (v := ?v2) rfl rfl (by kernel_rfl) (by kernel_rfl) (by kernel_rfl) (fun _ _ _ h => h) rfl ?h2 (by assumption) ?r2
    case h2 =>
      intro w hSw
      try dsimp only at hSw
      go_simp
      try with_reducible rfl
    simp only [List.setIfInBounds_toArray, List.set_cons_zero, List.set_cons_succ]
    refine takeD (i := 3) (d := 18) (v := ?v3) rfl rfl (by kernel_rfl) (by kernel_rfl) (by kernel_rfl) (fun _ _ _ h => h) rfl ?h3 (by assumption) ?r3
    case h3 =>
      intro w hSw
      try dsimp only at hSw
      go_simp
      try with_reducible rfl
    simp only [List.setIfInBounds_toArray, List.set_cons_zero, List.set_cons_succ]
    refine takeD (i := 4) (d := 19) (v := ?v4) rfl rfl (by kernel_rfl) (by kernel_rfl) (by kernel_rfl) (fun _ _ _ h => h) rfl ?h4 (by assumption) ?r4
    case h4 =>
      intro w hSw
      try dsimp only at hSw
      go_simp
      try with_reducible rfl
    simp only [List.setIfInBounds_toArray, List.set_cons_zero, List.set_cons_succ]
    refine takeG (i := 5) (d := 20) (v := ?v5) rfl rfl (by kernel_rfl) (by kernel_rfl) (by kernel_rfl) (fun _ _ _ h => h) (by rfl) ?h5 (by assumption) ?r5
    case h5 =>
      intro w hSw
      try dsimp only at hSw
      go_simp
      try with_reducible rfl
    simp only [List.setIfInBounds_toArray, List.set_cons_zero, List.set_cons_succ]
    refine takeG (i := 6) (d := 21) (v := ?v6) rfl rfl (by kernel_rfl) (by kernel_rfl) (by kernel_rfl) (fun _ _ _ h => h) (by rfl) ?h6 (by assumption) ?r6
    case h6 =>
      intro w hSw
      try dsimp only at hSw
      go_simp
      try with_reducible rfl
    simp only [List.setIfInBounds_toArray, List.set_cons_zero, List.set_cons_succ]
    refine takeG (i := 7) (d := 22) (v := ?v7) rfl rfl (by kernel_rfl) (by kernel_rfl) (by kernel_rfl) (fun _ _ _ h => h) (by rfl) ?h7 (by assumption) ?r7
    case h7 =>
      intro w hSw
      try dsimp only at hSw
      go_simp
      try with_reducible rfl
    simp only [List.setIfInBounds_toArray, List.set_cons_zero, List.set_cons_succ]
    refine takeG (i := 8) (d := 23) (v := ?v8) rfl rfl (by kernel_rfl) (by kernel_rfl) (by kernel_rfl) (fun _ _ _ h => h) (by rfl) ?h8 (by assumption) ?r8
    case h8 =>
      intro w hSw
      try dsimp only at hSw
      go_simp
      try with_reducible rfl
    simp only [List.setIfInBounds_toArray, List.set_cons_zero, List.set_cons_succ]
    refine takeD (i := 9) (d := 24) (v := ?v9) rfl rfl (by kernel_rfl) (by kernel_rfl) (by kernel_rfl) (fun _ _ _ h => h) rfl ?h9 (by assumption) ?r9
    case h9 =>
      intro w hSw
      try dsimp only at hSw
      go_simp
      try with_reducible rfl
    simp only [List.setIfInBounds_toArray, List.set_cons_zero, List.set_cons_succ]
    refine wpAnyH_ready (rs := [0]) (by kernel_rfl) (by simp) ?_
    refine AllReadyH.cons rfl (fun K hK => ?_) AllReadyH.nil
    refine stepLoad 15 rfl 34 (.tmp 6) rfl (by rfl) _ _ rfl _ _ RG.out Tryd.underlying34 rfl (by kernel_rfl) ?_
    simp only [List.setIfInBounds_toArray, List.set_cons_zero, List.set_cons_succ]
    refine hK.out _ _ (by assumption) (fun hHeld => ?_)
    clear hK K
    have HTH := Lib.hid (there_of (W := w1.drew) (n := 32) K0.out (Nat.le_refl _))
    refine wpAnyH_ready (rs := [10]) (by kernel_rfl) (by simp) ?_
    refine AllReadyH.cons rfl (fun K hK => ?_) AllReadyH.nil
    rw [if_pos (by rfl)]
    refine wp_store_mid 34 (.tmp 2) (.tmp 15) rfl w.heap.size 0 #[.int .i64 q.kind, .int .i64 q.lie.node, .int .i64 q.lie.level, .int .i64 q.lie.pod, .int .i64 q.lie.mtu, .int .i64 q.lie.link, .int .i64 q.lie.nonce, .int .i64 q.lie.seen, .int .i64 q.lie.seenLink, .int .i64 q.lie.seenNonce, .int .i64 q.lie.hold, .bool q.lie.rep, .bool q.lie.noOffer, .int .i64 q.tie.head.id.dir, .int .i64 q.tie.head.id.orig, .int .i64 q.tie.head.id.kind, .int .i64 q.tie.head.id.nr, .int .i64 q.tie.head.seq, .int .i64 q.tie.head.life, .int .i64 q.tie.level, .bool q.tie.over, .slice Ae q.tie.edges.length Ce, .slice Ar q.tie.reaches.length Cr, .int .i64 q.frm.dir, .int .i64 q.frm.orig, .int .i64 q.frm.kind, .int .i64 q.frm.nr, .int .i64 q.to.dir, .int .i64 q.to.orig, .int .i64 q.to.kind, .int .i64 q.to.nr, .slice Ah q.heads.length Ch] rfl rfl HTH.out (by kernel_rfl) (by simp [Value.oneCell']) ?_
    refine hK.out _ _ ⟨(World.cell?_setCells_out _ _ _ _ _ (fun h1 _ => by simp at h1)).trans i0, (World.cell?_setCells_out _ _ _ _ _ (fun h1 _ => by simp at h1; omega)).trans t4⟩ (fun hHeld => ?_)
    clear hK K
    obtain ⟨W5, hW5⟩ : ∃ W5, w1.drew.setCells w.heap.size 0 [.int .i64 q.kind, .int .i64 q.lie.node, .int .i64 q.lie.level, .int .i64 q.lie.pod, .int .i64 q.lie.mtu, .int .i64 q.lie.link, .int .i64 q.lie.nonce, .int .i64 q.lie.seen, .int .i64 q.lie.seenLink, .int .i64 q.lie.seenNonce, .int .i64 q.lie.hold, .bool q.lie.rep, .bool q.lie.noOffer, .int .i64 q.tie.head.id.dir, .int .i64 q.tie.head.id.orig, .int .i64 q.tie.head.id.kind, .int .i64 q.tie.head.id.nr, .int .i64 q.tie.head.seq, .int .i64 q.tie.head.life, .int .i64 q.tie.level, .bool q.tie.over, .slice Ae q.tie.edges.length Ce, .slice Ar q.tie.reaches.length Cr, .int .i64 q.frm.dir, .int .i64 q.frm.orig, .int .i64 q.frm.kind, .int .i64 q.frm.nr, .int .i64 q.to.dir, .int .i64 q.to.orig, .int .i64 q.to.kind, .int .i64 q.to.nr, .slice Ah q.heads.length Ch] = W5 := ⟨_, rfl⟩
    have HW5 := Lib.hid hW5
    simp only [hW5] at hHeld ⊢
    clear hW5
    refine takeD (i := 11) (d := 3) (v := ?v11) rfl rfl (by kernel_rfl) (by kernel_rfl) (by kernel_rfl) (fun _ _ _ h => h) rfl ?h11 (by assumption) ?r11
    case h11 =>
      intro w hSw
      try dsimp only at hSw
      go_simp
      try with_reducible rfl
    simp only [List.setIfInBounds_toArray, List.set_cons_zero, List.set_cons_succ]
    refine wpAnyH_done (by kernel_rfl) ?_ _
    go_wp2
    refine bodyPost_ret (results_cell2 rfl rfl (b := w.heap.size) (o := 0) (cs := [.int .i64 q.kind, .int .i64 q.lie.node, .int .i64 q.lie.level, .int .i64 q.lie.pod, .int .i64 q.lie.mtu, .int .i64 q.lie.link, .int .i64 q.lie.nonce, .int .i64 q.lie.seen, .int .i64 q.lie.seenLink, .int .i64 q.lie.seenNonce, .int .i64 q.lie.hold, .bool q.lie.rep, .bool q.lie.noOffer, .int .i64 q.tie.head.id.dir, .int .i64 q.tie.head.id.orig, .int .i64 q.tie.head.id.kind, .int .i64 q.tie.head.id.nr, .int .i64 q.tie.head.seq, .int .i64 q.tie.head.life, .int .i64 q.tie.level, .bool q.tie.over, .slice Ae q.tie.edges.length Ce, .slice Ar q.tie.reaches.length Cr, .int .i64 q.frm.dir, .int .i64 q.frm.orig, .int .i64 q.frm.kind, .int .i64 q.frm.nr, .int .i64 q.to.dir, .int .i64 q.to.orig, .int .i64 q.to.kind, .int .i64 q.to.nr, .slice Ah q.heads.length Ch]) (by rw [← HW5.out]; exact World.rangeAt_setCells_same _ _ _ _ HTH.out) Tryd.underlying34 rfl (by kernel_rfl)) rfl ?_
    have hsz : W5.heap.size = w1.heap.size := by rw [← HW5.out, size_cells]; rfl
    obtain ⟨f1, f2, f3⟩ := HFA.out
    have hn4 : w.heap.size < ((((w.alloc (.cells #[.int .i64 0, .int .i64 0, .int .i64 0, .int .i64 0, .int .i64 0, .int .i64 0, .int .i64 0, .int .i64 0, .int .i64 0, .int .i64 0, .int .i64 0, .bool false, .bool false, .int .i64 0, .int .i64 0, .int .i64 0, .int .i64 0, .int .i64 0, .int .i64 0, .int .i64 0, .bool false, .slice none 0 0, .slice none 0 0, .int .i64 0, .int .i64 0, .int .i64 0, .int .i64 0, .int .i64 0, .int .i64 0, .int .i64 0, .int .i64 0, .slice none 0 0] 34)).alloc (.cells #[.slice a n c] 97)).alloc (.cells ((rEnv w.heap.size).cells false) 79)).alloc (.cells #[.int .i64 0, .int .i64 0, .int .i64 0, .int .i64 0, .int .i64 0, .int .i64 0, .int .i64 0, .int .i64 0, .int .i64 0, .int .i64 0, .int .i64 0, .bool false, .bool false, .int .i64 0, .int .i64 0, .int .i64 0, .int .i64 0, .int .i64 0, .int .i64 0, .int .i64 0, .bool false, .slice none 0 0, .slice none 0 0, .int .i64 0, .int .i64 0, .int .i64 0, .int .i64 0, .int .i64 0, .int .i64 0, .int .i64 0, .int .i64 0, .slice none 0 0] 34)).heap.size := by simp; omega
    refine ⟨Ae, Ar, Ah, Ce, Cr, Ch, ?_, ?_, ⟨f1.mono (by omega), f2.mono (by omega), f3.mono (by omega)⟩, ?_⟩
    · have hm0 := HML.out
      have hb0 := HBV.out
      subst hb0
      subst hm0
      refine congrArg (fun z => Ending.returned (.tuple #[.agg #[.int .i64 q.kind, .int .i64 q.lie.node, .int .i64 q.lie.level, .int .i64 q.lie.pod, .int .i64 q.lie.mtu, .int .i64 q.lie.link, .int .i64 q.lie.nonce, .int .i64 q.lie.seen, .int .i64 q.lie.seenLink, .int .i64 q.lie.seenNonce, .int .i64 q.lie.hold, .bool q.lie.rep, .bool q.lie.noOffer, .int .i64 q.tie.head.id.dir, .int .i64 q.tie.head.id.orig, .int .i64 q.tie.head.id.kind, .int .i64 q.tie.head.id.nr, .int .i64 q.tie.head.seq, .int .i64 q.tie.head.life, .int .i64 q.tie.level, .bool q.tie.over, .slice Ae q.tie.edges.length Ce, .slice Ar q.tie.reaches.length Cr, .int .i64 q.frm.dir, .int .i64 q.frm.orig, .int .i64 q.frm.kind, .int .i64 q.frm.nr, .int .i64 q.to.dir, .int .i64 q.to.orig, .int .i64 q.to.kind, .int .i64 q.to.nr, .slice Ah q.heads.length Ch], .bool z])) (show (((s.length : Nat) : Int) == 0) = _ from ?_); rw [Bool.eq_iff_iff]; simp
    · have e1 := (HSE.out.below (Below.refl _ _).drew).apart f1 hn4 0 [.int .i64 q.kind, .int .i64 q.lie.node, .int .i64 q.lie.level, .int .i64 q.lie.pod, .int .i64 q.lie.mtu, .int .i64 q.lie.link, .int .i64 q.lie.nonce, .int .i64 q.lie.seen, .int .i64 q.lie.seenLink, .int .i64 q.lie.seenNonce, .int .i64 q.lie.hold, .bool q.lie.rep, .bool q.lie.noOffer, .int .i64 q.tie.head.id.dir, .int .i64 q.tie.head.id.orig, .int .i64 q.tie.head.id.kind, .int .i64 q.tie.head.id.nr, .int .i64 q.tie.head.seq, .int .i64 q.tie.head.life, .int .i64 q.tie.level, .bool q.tie.over, .slice Ae q.tie.edges.length Ce, .slice Ar q.tie.reaches.length Cr, .int .i64 q.frm.dir, .int .i64 q.frm.orig, .int .i64 q.frm.kind, .int .i64 q.frm.nr, .int .i64 q.to.dir, .int .i64 q.to.orig, .int .i64 q.to.kind, .int .i64 q.to.nr, .slice Ah q.heads.length Ch]
      have e2 := (HSR.out.below (Below.refl _ _).drew).apart f2 hn4 0 [.int .i64 q.kind, .int .i64 q.lie.node, .int .i64 q.lie.level, .int .i64 q.lie.pod, .int .i64 q.lie.mtu, .int .i64 q.lie.link, .int .i64 q.lie.nonce, .int .i64 q.lie.seen, .int .i64 q.lie.seenLink, .int .i64 q.lie.seenNonce, .int .i64 q.lie.hold, .bool q.lie.rep, .bool q.lie.noOffer, .int .i64 q.tie.head.id.dir, .int .i64 q.tie.head.id.orig, .int .i64 q.tie.head.id.kind, .int .i64 q.tie.head.id.nr, .int .i64 q.tie.head.seq, .int .i64 q.tie.head.life, .int .i64 q.tie.level, .bool q.tie.over, .slice Ae q.tie.edges.length Ce, .slice Ar q.tie.reaches.length Cr, .int .i64 q.frm.dir, .int .i64 q.frm.orig, .int .i64 q.frm.kind, .int .i64 q.frm.nr, .int .i64 q.to.dir, .int .i64 q.to.orig, .int .i64 q.to.kind, .int .i64 q.to.nr, .slice Ah q.heads.length Ch]
      have e3 := (HSH.out.below (Below.refl _ _).drew).apart f3 hn4 0 [.int .i64 q.kind, .int .i64 q.lie.node, .int .i64 q.lie.level, .int .i64 q.lie.pod, .int .i64 q.lie.mtu, .int .i64 q.lie.link, .int .i64 q.lie.nonce, .int .i64 q.lie.seen, .int .i64 q.lie.seenLink, .int .i64 q.lie.seenNonce, .int .i64 q.lie.hold, .bool q.lie.rep, .bool q.lie.noOffer, .int .i64 q.tie.head.id.dir, .int .i64 q.tie.head.id.orig, .int .i64 q.tie.head.id.kind, .int .i64 q.tie.head.id.nr, .int .i64 q.tie.head.seq, .int .i64 q.tie.head.life, .int .i64 q.tie.level, .bool q.tie.over, .slice Ae q.tie.edges.length Ce, .slice Ar q.tie.reaches.length Cr, .int .i64 q.frm.dir, .int .i64 q.frm.orig, .int .i64 q.frm.kind, .int .i64 q.frm.nr, .int .i64 q.to.dir, .int .i64 q.to.orig, .int .i64 q.to.kind, .int .i64 q.to.nr, .slice Ah q.heads.length Ch]
      rw [HW5.out] at e1 e2 e3
      rw [← hsz] at e1 e2 e3
      exact pk_sl e1 e2 e3 HS2.out
    · rw [← HW5.out]
      exact below_cells C1.out.drew (Nat.le_refl _) _ _
  · refine wp_region_held_drew (S := (fun w' => w'.cell? ⟨w.heap.size + 1, 0, none⟩ = some (.slice A m cc) ∧ w'.cell? ⟨w.heap.size + 1 + 1, 4, none⟩ = some (.bool true))) (by kernel_rfl) ⟨i0, t4⟩ (fun hHeld => ?_)
    refine takeD (i := 1) (d := 16) (v := ?v1b) rfl rfl (by kernel_rfl) (by kernel_rfl) (by kernel_rfl) (fun _ _ _ h => h) rfl ?h1b (by assumption) ?r1b
    case h1b =>
      intro w hSw
      try dsimp only at hSw
      go_simp
      try with_reducible rfl
    simp only [List.setIfInBounds_toArray, List.set_cons_zero, List.set_cons_succ]
    refine takeD (i := 2) (d := 17) (v := ?v2b) rfl rfl (by kernel_rfl) (by kernel_rfl) (by kernel_rfl) (fun _ _ _ h => h) rfl ?h2b (by assumption) ?r2b
    case h2b =>
      intro w hSw
      try dsimp only at hSw
      go_simp
      try with_reducible rfl
    simp only [List.setIfInBounds_toArray, List.set_cons_zero, List.set_cons_succ]
    refine takeD (i := 3) (d := 18) (v := ?v3b) rfl rfl (by kernel_rfl) (by kernel_rfl) (by kernel_rfl) (fun _ _ _ h => h) rfl ?h3b (by assumption) ?r3b
    case h3b =>
      intro w hSw
      try dsimp only at hSw
      go_simp
      try with_reducible rfl
    simp only [List.setIfInBounds_toArray, List.set_cons_zero, List.set_cons_succ]
    refine takeD (i := 4) (d := 19) (v := ?v4b) rfl rfl (by kernel_rfl) (by kernel_rfl) (by kernel_rfl) (fun _ _ _ h => h) rfl ?h4b (by assumption) ?r4b
    case h4b =>
      intro w hSw
      try dsimp only at hSw
      go_simp
      try with_reducible rfl
    simp only [List.setIfInBounds_toArray, List.set_cons_zero, List.set_cons_succ]
    refine takeN (i := 5) (d := 20) rfl rfl (by kernel_rfl) (by kernel_rfl) (by kernel_rfl) (fun _ _ _ h => h) (by rfl) (by assumption) ?r5b
    simp only [List.setIfInBounds_toArray, List.set_cons_zero, List.set_cons_succ]
    refine takeN (i := 6) (d := 21) rfl rfl (by kernel_rfl) (by kernel_rfl) (by kernel_rfl) (fun _ _ _ h => h) (by rfl) (by assumption) ?r6b
    simp only [List.setIfInBounds_toArray, List.set_cons_zero, List.set_cons_succ]
    refine takeN (i := 7) (d := 22) rfl rfl (by kernel_rfl) (by kernel_rfl) (by kernel_rfl) (fun _ _ _ h => h) (by rfl) (by assumption) ?r7b
    simp only [List.setIfInBounds_toArray, List.set_cons_zero, List.set_cons_succ]
    refine takeN (i := 8) (d := 23) rfl rfl (by kernel_rfl) (by kernel_rfl) (by kernel_rfl) (fun _ _ _ h => h) (by rfl) (by assumption) ?r8b
    simp only [List.setIfInBounds_toArray, List.set_cons_zero, List.set_cons_succ]
    refine takeD (i := 9) (d := 24) (v := ?v9b) rfl rfl (by kernel_rfl) (by kernel_rfl) (by kernel_rfl) (fun _ _ _ h => h) rfl ?h9b (by assumption) ?r9b
    case h9b =>
      intro w hSw
      try dsimp only at hSw
      go_simp
      try with_reducible rfl
    simp only [List.setIfInBounds_toArray, List.set_cons_zero, List.set_cons_succ]
    refine wpAnyH_ready (rs := [0]) (by kernel_rfl) (by simp) ?_
    refine AllReadyH.cons rfl (fun K hK => ?_) AllReadyH.nil
    refine stepLoad 15 rfl 34 (.tmp 6) rfl (by rfl) _ _ rfl _ _ RG.out Tryd.underlying34 rfl (by kernel_rfl) ?_
    simp only [List.setIfInBounds_toArray, List.set_cons_zero, List.set_cons_succ]
    refine hK.out _ _ (by assumption) (fun hHeld => ?_)
    clear hK K
    have HTH := Lib.hid (there_of (W := w1.drew) (n := 32) K0.out (Nat.le_refl _))
    refine wpAnyH_ready (rs := [10]) (by kernel_rfl) (by simp) ?_
    refine AllReadyH.cons rfl (fun K hK => ?_) AllReadyH.nil
    rw [if_pos (by rfl)]
    refine wp_store_mid 34 (.tmp 2) (.tmp 15) rfl w.heap.size 0 #[.int .i64 q.kind, .int .i64 q.lie.node, .int .i64 q.lie.level, .int .i64 q.lie.pod, .int .i64 q.lie.mtu, .int .i64 q.lie.link, .int .i64 q.lie.nonce, .int .i64 q.lie.seen, .int .i64 q.lie.seenLink, .int .i64 q.lie.seenNonce, .int .i64 q.lie.hold, .bool q.lie.rep, .bool q.lie.noOffer, .int .i64 q.tie.head.id.dir, .int .i64 q.tie.head.id.orig, .int .i64 q.tie.head.id.kind, .int .i64 q.tie.head.id.nr, .int .i64 q.tie.head.seq, .int .i64 q.tie.head.life, .int .i64 q.tie.level, .bool q.tie.over, .slice Ae q.tie.edges.length Ce, .slice Ar q.tie.reaches.length Cr, .int .i64 q.frm.dir, .int .i64 q.frm.orig, .int .i64 q.frm.kind, .int .i64 q.frm.nr, .int .i64 q.to.dir, .int .i64 q.to.orig, .int .i64 q.to.kind, .int .i64 q.to.nr, .slice Ah q.heads.length Ch] rfl rfl HTH.out (by kernel_rfl) (by simp [Value.oneCell']) ?_
    refine hK.out _ _ ⟨(World.cell?_setCells_out _ _ _ _ _ (fun h1 _ => by simp at h1)).trans i0, (World.cell?_setCells_out _ _ _ _ _ (fun h1 _ => by simp at h1; omega)).trans t4⟩ (fun hHeld => ?_)
    clear hK K
    obtain ⟨W5, hW5⟩ : ∃ W5, w1.drew.setCells w.heap.size 0 [.int .i64 q.kind, .int .i64 q.lie.node, .int .i64 q.lie.level, .int .i64 q.lie.pod, .int .i64 q.lie.mtu, .int .i64 q.lie.link, .int .i64 q.lie.nonce, .int .i64 q.lie.seen, .int .i64 q.lie.seenLink, .int .i64 q.lie.seenNonce, .int .i64 q.lie.hold, .bool q.lie.rep, .bool q.lie.noOffer, .int .i64 q.tie.head.id.dir, .int .i64 q.tie.head.id.orig, .int .i64 q.tie.head.id.kind, .int .i64 q.tie.head.id.nr, .int .i64 q.tie.head.seq, .int .i64 q.tie.head.life, .int .i64 q.tie.level, .bool q.tie.over, .slice Ae q.tie.edges.length Ce, .slice Ar q.tie.reaches.length Cr, .int .i64 q.frm.dir, .int .i64 q.frm.orig, .int .i64 q.frm.kind, .int .i64 q.frm.nr, .int .i64 q.to.dir, .int .i64 q.to.orig, .int .i64 q.to.kind, .int .i64 q.to.nr, .slice Ah q.heads.length Ch] = W5 := ⟨_, rfl⟩
    have HW5 := Lib.hid hW5
    simp only [hW5] at hHeld ⊢
    clear hW5
    refine takeD (i := 11) (d := 3) (v := ?v11b) rfl rfl (by kernel_rfl) (by kernel_rfl) (by kernel_rfl) (fun _ _ _ h => h) rfl ?h11b (by assumption) ?r11b
    case h11b =>
      intro w hSw
      try dsimp only at hSw
      go_simp
      try with_reducible rfl
    simp only [List.setIfInBounds_toArray, List.set_cons_zero, List.set_cons_succ]
    refine wpAnyH_done (by kernel_rfl) ?_ _
    go_wp2
    refine bodyPost_ret (results_cell2 rfl rfl (b := w.heap.size) (o := 0) (cs := [.int .i64 q.kind, .int .i64 q.lie.node, .int .i64 q.lie.level, .int .i64 q.lie.pod, .int .i64 q.lie.mtu, .int .i64 q.lie.link, .int .i64 q.lie.nonce, .int .i64 q.lie.seen, .int .i64 q.lie.seenLink, .int .i64 q.lie.seenNonce, .int .i64 q.lie.hold, .bool q.lie.rep, .bool q.lie.noOffer, .int .i64 q.tie.head.id.dir, .int .i64 q.tie.head.id.orig, .int .i64 q.tie.head.id.kind, .int .i64 q.tie.head.id.nr, .int .i64 q.tie.head.seq, .int .i64 q.tie.head.life, .int .i64 q.tie.level, .bool q.tie.over, .slice Ae q.tie.edges.length Ce, .slice Ar q.tie.reaches.length Cr, .int .i64 q.frm.dir, .int .i64 q.frm.orig, .int .i64 q.frm.kind, .int .i64 q.frm.nr, .int .i64 q.to.dir, .int .i64 q.to.orig, .int .i64 q.to.kind, .int .i64 q.to.nr, .slice Ah q.heads.length Ch]) (by rw [← HW5.out]; exact World.rangeAt_setCells_same _ _ _ _ HTH.out) Tryd.underlying34 rfl (by kernel_rfl)) rfl ?_
    have hsz : W5.heap.size = w1.heap.size := by rw [← HW5.out, size_cells]; rfl
    obtain ⟨f1, f2, f3⟩ := HFA.out
    have hn4 : w.heap.size < ((((w.alloc (.cells #[.int .i64 0, .int .i64 0, .int .i64 0, .int .i64 0, .int .i64 0, .int .i64 0, .int .i64 0, .int .i64 0, .int .i64 0, .int .i64 0, .int .i64 0, .bool false, .bool false, .int .i64 0, .int .i64 0, .int .i64 0, .int .i64 0, .int .i64 0, .int .i64 0, .int .i64 0, .bool false, .slice none 0 0, .slice none 0 0, .int .i64 0, .int .i64 0, .int .i64 0, .int .i64 0, .int .i64 0, .int .i64 0, .int .i64 0, .int .i64 0, .slice none 0 0] 34)).alloc (.cells #[.slice a n c] 97)).alloc (.cells ((rEnv w.heap.size).cells false) 79)).alloc (.cells #[.int .i64 0, .int .i64 0, .int .i64 0, .int .i64 0, .int .i64 0, .int .i64 0, .int .i64 0, .int .i64 0, .int .i64 0, .int .i64 0, .int .i64 0, .bool false, .bool false, .int .i64 0, .int .i64 0, .int .i64 0, .int .i64 0, .int .i64 0, .int .i64 0, .int .i64 0, .bool false, .slice none 0 0, .slice none 0 0, .int .i64 0, .int .i64 0, .int .i64 0, .int .i64 0, .int .i64 0, .int .i64 0, .int .i64 0, .int .i64 0, .slice none 0 0] 34)).heap.size := by simp; omega
    refine ⟨Ae, Ar, Ah, Ce, Cr, Ch, ?_, ?_, ⟨f1.mono (by omega), f2.mono (by omega), f3.mono (by omega)⟩, ?_⟩
    · have hm0 := HML.out
      have hb0 := HBV.out
      subst hb0
      subst hm0
      exact congrArg (fun z => Ending.returned (.tuple #[.agg #[.int .i64 q.kind, .int .i64 q.lie.node, .int .i64 q.lie.level, .int .i64 q.lie.pod, .int .i64 q.lie.mtu, .int .i64 q.lie.link, .int .i64 q.lie.nonce, .int .i64 q.lie.seen, .int .i64 q.lie.seenLink, .int .i64 q.lie.seenNonce, .int .i64 q.lie.hold, .bool q.lie.rep, .bool q.lie.noOffer, .int .i64 q.tie.head.id.dir, .int .i64 q.tie.head.id.orig, .int .i64 q.tie.head.id.kind, .int .i64 q.tie.head.id.nr, .int .i64 q.tie.head.seq, .int .i64 q.tie.head.life, .int .i64 q.tie.level, .bool q.tie.over, .slice Ae q.tie.edges.length Ce, .slice Ar q.tie.reaches.length Cr, .int .i64 q.frm.dir, .int .i64 q.frm.orig, .int .i64 q.frm.kind, .int .i64 q.frm.nr, .int .i64 q.to.dir, .int .i64 q.to.orig, .int .i64 q.to.kind, .int .i64 q.to.nr, .slice Ah q.heads.length Ch], .bool z])) (show false = _ by simp)
    · have e1 := (HSE.out.below (Below.refl _ _).drew).apart f1 hn4 0 [.int .i64 q.kind, .int .i64 q.lie.node, .int .i64 q.lie.level, .int .i64 q.lie.pod, .int .i64 q.lie.mtu, .int .i64 q.lie.link, .int .i64 q.lie.nonce, .int .i64 q.lie.seen, .int .i64 q.lie.seenLink, .int .i64 q.lie.seenNonce, .int .i64 q.lie.hold, .bool q.lie.rep, .bool q.lie.noOffer, .int .i64 q.tie.head.id.dir, .int .i64 q.tie.head.id.orig, .int .i64 q.tie.head.id.kind, .int .i64 q.tie.head.id.nr, .int .i64 q.tie.head.seq, .int .i64 q.tie.head.life, .int .i64 q.tie.level, .bool q.tie.over, .slice Ae q.tie.edges.length Ce, .slice Ar q.tie.reaches.length Cr, .int .i64 q.frm.dir, .int .i64 q.frm.orig, .int .i64 q.frm.kind, .int .i64 q.frm.nr, .int .i64 q.to.dir, .int .i64 q.to.orig, .int .i64 q.to.kind, .int .i64 q.to.nr, .slice Ah q.heads.length Ch]
      have e2 := (HSR.out.below (Below.refl _ _).drew).apart f2 hn4 0 [.int .i64 q.kind, .int .i64 q.lie.node, .int .i64 q.lie.level, .int .i64 q.lie.pod, .int .i64 q.lie.mtu, .int .i64 q.lie.link, .int .i64 q.lie.nonce, .int .i64 q.lie.seen, .int .i64 q.lie.seenLink, .int .i64 q.lie.seenNonce, .int .i64 q.lie.hold, .bool q.lie.rep, .bool q.lie.noOffer, .int .i64 q.tie.head.id.dir, .int .i64 q.tie.head.id.orig, .int .i64 q.tie.head.id.kind, .int .i64 q.tie.head.id.nr, .int .i64 q.tie.head.seq, .int .i64 q.tie.head.life, .int .i64 q.tie.level, .bool q.tie.over, .slice Ae q.tie.edges.length Ce, .slice Ar q.tie.reaches.length Cr, .int .i64 q.frm.dir, .int .i64 q.frm.orig, .int .i64 q.frm.kind, .int .i64 q.frm.nr, .int .i64 q.to.dir, .int .i64 q.to.orig, .int .i64 q.to.kind, .int .i64 q.to.nr, .slice Ah q.heads.length Ch]
      have e3 := (HSH.out.below (Below.refl _ _).drew).apart f3 hn4 0 [.int .i64 q.kind, .int .i64 q.lie.node, .int .i64 q.lie.level, .int .i64 q.lie.pod, .int .i64 q.lie.mtu, .int .i64 q.lie.link, .int .i64 q.lie.nonce, .int .i64 q.lie.seen, .int .i64 q.lie.seenLink, .int .i64 q.lie.seenNonce, .int .i64 q.lie.hold, .bool q.lie.rep, .bool q.lie.noOffer, .int .i64 q.tie.head.id.dir, .int .i64 q.tie.head.id.orig, .int .i64 q.tie.head.id.kind, .int .i64 q.tie.head.id.nr, .int .i64 q.tie.head.seq, .int .i64 q.tie.head.life, .int .i64 q.tie.level, .bool q.tie.over, .slice Ae q.tie.edges.length Ce, .slice Ar q.tie.reaches.length Cr, .int .i64 q.frm.dir, .int .i64 q.frm.orig, .int .i64 q.frm.kind, .int .i64 q.frm.nr, .int .i64 q.to.dir, .int .i64 q.to.orig, .int .i64 q.to.kind, .int .i64 q.to.nr, .slice Ah q.heads.length Ch]
      rw [HW5.out] at e1 e2 e3
      rw [← hsz] at e1 e2 e3
      exact pk_sl e1 e2 e3 HS2.out
    · rw [← HW5.out]
      exact below_cells C1.out.drew (Nat.le_refl _) _ _
end Go.Proofs.YthdlcpnmldhllaaDoor
