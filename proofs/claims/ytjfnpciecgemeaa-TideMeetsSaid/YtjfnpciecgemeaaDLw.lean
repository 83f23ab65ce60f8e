/-
  WHAT THE LAWS SAY, as data: the answers to one's own description, by oneself, by nobody.
-/
import Derived.Test.YtjfnpciecgemeaaDReg
import Derived.Test.YtjfnpciecgemeaaTSort
import Derived.Test.YtjfnpciecgemeaaTPAft
import Derived.Test.YtjfnpciecgemeaaTPRight
import Derived.Test.YtjfnpciecgemeaaDIn
import Derived.Test.YtjfnpciecgemeaaDAns

/-
  THE PROGRAM'S Describe.
-/
namespace Go.Proofs.Ytjfnpciecgemeaa.ti
set_option linter.unusedSimpArgs false
set_option linter.unusedVariables false
open Go.RowKit Go.Shelf
attribute [local go_sem] Oper.semAt_some
theorem OwnH.formG {T : TypeId} {W : World} {base : Nat} {v : Value} {l : List THd} (h : OwnH T W base v l) : ∃ (rb : Option Nat) (cap : Nat), v = .slice (addrG rb 0) l.length cap ∧ (rb = none → l.length = 0 ∧ cap = 0) ∧ l.length ≤ cap ∧ cap ≤ maxLen := by
  rcases h.form with ⟨e, hs⟩ | ⟨g, cap, e, _, _, h1, h2⟩
  · exact ⟨none, 0, by rw [e, hs]; rfl, fun _ => by rw [hs]; simp, by rw [hs]; simp, by unfold maxLen; omega⟩
  · exact ⟨some g, cap, by rw [e]; unfold addrG; simp, fun q => (by cases q), h1, h2⟩
/-! What was told so far. -/
def stG (per : Nat) (all : List THd) {c : Nat} (xs : List (Fin c)) : List Dp × TId := xs.foldl (fun s x => (s.1 ++ [⟨s.2, toT per all x.val, grpT per all x.val⟩], (afterT (toT per all x.val)).1)) ([], firstT)
theorem stG_snoc (per : Nat) (all : List THd) {c : Nat} (xs : List (Fin c)) (x : Fin c) : stG per all (xs ++ [x]) = ((stG per all xs).1 ++ [⟨(stG per all xs).2, toT per all x.val, grpT per all x.val⟩], (afterT (toT per all x.val)).1) := by
  unfold stG
  rw [List.foldl_append]
  rfl
theorem stG_all (per : Nat) (all : List THd) {c : Nat} : ∀ (k : Nat) (xs : List (Fin c)), xs.map Fin.val = List.range k → stG per all xs = ((List.range k).map (dpT per all), frmT per all k)
  | 0, xs, h => by
    have : xs = [] := by simpa using h
    subst this
    rfl
  | k + 1, xs, h => by
    rw [List.range_succ] at h
    obtain ⟨ys, zs, rfl, h1, h2⟩ := List.map_eq_append_iff.1 h
    match zs, h2 with
    | [z], h2 =>
      simp at h2
      rw [stG_snoc, stG_all per all k ys h1, List.range_succ, List.map_append, h2]
      rfl
theorem stG_len (per : Nat) (all : List THd) {c : Nat} (xs : List (Fin c)) : (stG per all xs).1.length = xs.length := by
  suffices h : ∀ (xs : List (Fin c)) (s : List Dp × TId), (xs.foldl (fun s x => (s.1 ++ [⟨s.2, toT per all x.val, grpT per all x.val⟩], (afterT (toT per all x.val)).1)) s).1.length = s.1.length + xs.length by
    have := h xs ([], firstT)
    simpa [stG] using this
  intro xs
  induction xs with
  | nil => intro s; rfl
  | cons x xs ih => intro s; rw [List.foldl_cons, ih]; simp; omega
theorem PkS.keep {n0 pb : Nat} {ps : List Dp} {W W' : World} (h : PkS n0 pb ps W) (k : ∀ (j : Nat) (cs : Array Value) (T : TypeId) (fr : Nat × Nat), W.heap[j]? = some (.cells cs T fr) → T ≠ 24 → W'.heap[j]? = some (.cells cs T fr)) : PkS n0 pb ps W' := by
  obtain ⟨v, ss, h1, h2, h3, h4⟩ := h
  refine ⟨v, ss, k _ _ _ _ h1 (by decide), h2, h3.same fun g hg => ?_, fun s hs => (h4 s hs).same fun g hg => ?_⟩
  · obtain ⟨cur, hc⟩ := h3.block hg
    exact (k _ _ _ _ hc (by decide)).trans hc.symm
  · obtain ⟨cur, hc⟩ := (h4 s hs).toE.block hg
    exact (k _ _ _ _ hc (by decide)).trans hc.symm
/-- Ahead of a round. -/
structure InvG (n0 pb fb n5 per : Nat) (all : List THd) (rb : Option Nat) (cap : Nat) (w : World) {c : Nat} (pre : List (Fin c)) (W : World) : Prop where
  pk : PkS n0 pb (stG per all pre).1 W
  fr : Arr W fb 24 (cellsI (stG per all pre).2)
  src : OwnH 34 W n0 (.slice (addrG rb 0) all.length cap) all
  bel : Below n0 w W
  size : n5 ≤ W.heap.size
theorem InvG.keep {n0 pb fb n5 per : Nat} {all : List THd} {rb : Option Nat} {cap : Nat} {w : World} {c : Nat} {pre : List (Fin c)} {W W' : World} (h : InvG n0 pb fb n5 per all rb cap w pre W) (k : ∀ (j : Nat) (cs : Array Value) (T : TypeId) (fr : Nat × Nat), W.heap[j]? = some (.cells cs T fr) → W'.heap[j]? = some (.cells cs T fr)) (hb : Below n0 w W') (hs : W.heap.size ≤ W'.heap.size) : InvG n0 pb fb n5 per all rb cap w pre W' :=
  ⟨h.pk.keep fun j cs T fr hj _ => k j cs T fr hj, k _ _ _ _ h.fr, h.src.same fun g hg => by
    obtain ⟨cur, hc⟩ := h.src.toE.block hg
    exact (k _ _ _ _ hc).trans hc.symm, hb, Nat.le_trans h.size hs⟩
theorem InvG.own {n0 pb fb n5 per : Nat} {all : List THd} {rb : Option Nat} {cap : Nat} {w : World} {c : Nat} {pre : List (Fin c)} {W W' : World} {row : Option Nat} (h : InvG n0 pb fb n5 per all rb cap w pre W) (hg : W.grownBy W' row) (hr : ∀ r, row = some r → n5 ≤ r ∧ ∃ o : Obj, W.heap[r]? = some o ∧ o.isCells = false) (hn : n0 ≤ n5) : InvG n0 pb fb n5 per all rb cap w pre W' :=
  h.keep (fun j cs T fr hj => block_own hj hg fun r e => (hr r e).2) (h.bel.grown hg (Nat.le_trans hn h.size) fun j hj => by have := (hr j hj).1; omega) hg.size
/-- The heads of a group, read. -/
theorem grp_rd {W : World} {per : Nat} {all : List THd} {rb : Option Nat} (h : RdT W (addrG rb 0) all) (k : Nat) : RdT W (addrG rb (k * per)) (grpT per all k) := by
  cases rb with
  | none =>
    have : all = [] := by
      cases all with
      | nil => rfl
      | cons x l => obtain ⟨g, o, e, _⟩ := h 0 x rfl; cases e
    subst this
    intro j p hj
    simp [grpT] at hj
  | some g =>
    have h0 : RdE 6 cellsT W (some ⟨g, 0, none⟩) all := by have := h.toE; unfold addrG at this; simpa using this
    have := (h0.drop (k * per)).take per
    rw [Nat.zero_add] at this
    exact this
theorem grp_length (per : Nat) (all : List THd) (k : Nat) : (grpT per all k).length = min per (all.length - k * per) := by unfold grpT; simp
theorem grp_last {per m : Nat} {all : List THd} {k : Nat} (hm : m + 1 = per) (h : (k + 1) * per < all.length) : ∃ x, (grpT per all k)[m]? = some x ∧ toT per all k = x.id := by
  have h1 : (k + 1) * per = k * per + per := by rw [Nat.add_mul, Nat.one_mul]
  obtain ⟨x, hx, e⟩ := to_at (by omega : 0 < per) h
  refine ⟨x, ?_, e⟩
  unfold grpT
  rw [List.getElem?_take, if_pos (by omega), List.getElem?_drop, show k * per + m = (k + 1) * per - 1 by omega]
  exact hx
end Go.Proofs.Ytjfnpciecgemeaa.ti

/-
  THE PROGRAM'S Describe: its walk.
-/
namespace Go.Proofs.Ytjfnpciecgemeaa.ti
set_option linter.unusedSimpArgs false
set_option linter.unusedVariables false
open Go.RowKit Go.Shelf
attribute [local go_sem] Oper.semAt_some
/-- A description that lies in memory. -/
def OwnDs (W : World) (n0 : Nat) (v : Value) (ps : List Dp) : Prop := ∃ ss : List DpS, ss.map DpS.p = ps ∧ OwnE 40 32 encD W n0 v ss ∧ ∀ s ∈ ss, OwnH 34 W n0 (.slice s.a s.p.hs.length s.c) s.p.hs
theorem rise_len (f : THd → Nat) (M : Nat) : ∀ (L : List THd) (lo : Nat), (∀ x ∈ L, lo ≤ f x ∧ f x < M) → L.Pairwise (fun a b => f a < f b) → L.length ≤ M - lo
  | [], _, _, _ => by simp
  | x :: r, lo, h, hp => by
    obtain ⟨h1, h2⟩ := List.pairwise_cons.1 hp
    have hx := h x (by simp)
    have := rise_len f M r (f x + 1) (fun y hy => ⟨h1 y hy, (h y (by simp [hy])).2⟩) h2
    simp only [List.length_cons]
    omega
theorem right_len {L : List THd} (H : AllR L) : L.length ≤ 524288000 := by
  have := rise_len (fun x => (((((x.id.d - 1) * 1000 + (x.id.o - 1)) * 4 + (x.id.k - 1)) * 65536 + x.id.n).toNat)) 524288000 L 0 (fun x hx => by
    obtain ⟨h1, h2, h3, h4, h5, h6, h7, h8⟩ := H.2 x hx
    omega) (List.Pairwise.imp_of_mem (fun {a b} ha hb hab => by
    obtain ⟨h1, h2, h3, h4, h5, h6, h7, h8⟩ := H.2 a ha
    obtain ⟨g1, g2, g3, g4, g5, g6, g7, g8⟩ := H.2 b hb
    unfold lexT at hab
    omega) H.1)
  omega
set_option maxRecDepth 100000 in
set_option maxHeartbeats 16000000 in
theorem describe_yes (l : List THd) (a : Option Addr) (ca per : Nat) (w : World) (ha : RdT w a l) (hl : l.length ≤ 9223372036854775807) (hca : l.length ≤ ca) (h1p : 1 ≤ per) (h64 : per ≤ 64) (hall : l.all rgtH = true) (hok : ∀ x ∈ l, okH x) :
    Calls Try.prog 8 #[.slice a l.length ca, .int .i64 per] w fun e w' => (∃ v, e = .returned (.tuple #[v, .int .i64 0]) ∧ OwnDs w' w.heap.size v (descT per (mergeT l []))) ∧ Below w.heap.size w w' := by
  have HR : AllR (mergeT l []) := ⟨merge_asc _ _, fun x hx => by
    refine fold_all (P := fun x => rightT x.id) (l ++ []) (l := []) (by simp) (fun y hy => ?_) x hx
    rw [List.append_nil] at hy
    exact rgtH_id (List.all_eq_true.1 hall y hy)⟩
  have hM := right_len HR
  have hc := contains_any l a ca w ha hl hca
  rw [hall] at hc
  have hm := fun W (hb : Below w.heap.size w W) => pmergeB_any l [] a none ca 0 W (ha.below hb) (fun j p h => by simp at h) (by simpa using hl) (by omega) hca (Nat.le_refl _) (by simpa using hok)
  obtain ⟨nl, hnl⟩ : ∃ nl, l.length = nl := ⟨_, rfl⟩
  rw [hnl] at hl hca hc hm ⊢
  simp only [List.length_nil] at hm
  obtain ⟨all, hal⟩ : ∃ all, mergeT l [] = all := ⟨_, rfl⟩
  rw [hal] at hm hM HR ⊢
  have HM := Lib.hid hm
  have HC := Lib.hid hc
  clear hm hc ha
  have d1 : decide ((per : Int) < 1) = false := decide_eq_false (by omega)
  have d2 : decide (64 < (per : Int)) = false := decide_eq_false (by omega)
  refine (callsIn_wide (n := 3)).1 ?_
  have h1 : 1 ≤ 3 := by decide
  have hdd : ∀ k : Nat, (Fence.wide.depth.isSome = true → 1 ≤ k) := fun k h => by cases h
  refine callsIn_of_wp_marks Try.func8 rfl trivial ?_ rfl
  simp only [Try.ntmps8, List.size_toArray, List.length_cons, List.length_nil, Nat.reduceAdd, Nat.reduceSub, Array.replicate_succ, Array.replicate_zero, List.push_toArray, List.append_toArray, List.nil_append, List.cons_append]
  gi_wp2_with (first
    | ((first | refine ⟨trivial, hdd _, ?_⟩ | refine ⟨trivial, ?_⟩); gi_at_call 19; refine (callsIn_wide.2 HC.out).mono ?_; rintro e w1 ⟨rfl, hb⟩; have B1 := Lib.hid hb; clear hb)
    | ((first | refine ⟨trivial, hdd _, ?_⟩ | refine ⟨trivial, ?_⟩); gi_at_call 17; refine (callsIn_wide.2 (pfirst_any _)).mono ?_; rintro e w2 ⟨rfl, hb⟩; have B2 := Lib.hid hb; have BW := Lib.hid ((B1.out.alloc B1.out.size _).trans (hb.mono (by have := B1.out.size; simp; omega)) |>.alloc (by have := B1.out.size; have := hb.size; simp at this; omega) (.cells #[.int .i64 1, .int .i64 1, .int .i64 1, .int .i64 0] 24)); clear hb)
    | ((first | refine ⟨trivial, hdd _, ?_⟩ | refine ⟨trivial, ?_⟩); gi_at_call 12; refine (callsIn_wide.2 (HM.out _ BW.out)).mono ?_; rintro e w3 ⟨v3, rfl, ho, hb⟩; obtain ⟨rb, cap, rfl, f1, f2, f3⟩ := ho.formG; have F1 := Lib.hid f1; have F2 := Lib.hid f2; have F3 := Lib.hid f3; clear f1 f2 f3; have B3 := Lib.hid hb; have O3 := Lib.hid ho; clear hb ho)
    | ((first | refine ⟨trivial, hdd _, ?_⟩ | refine ⟨trivial, ?_⟩); gi_at_call 21; refine (callsIn_wide.2 (pgroups_any _ _ _ _ _)).mono ?_; rintro e w4 ⟨rfl, hb⟩; have B4 := Lib.hid hb; clear hb))
  have s1 := B1.out.size
  have s2 := B2.out.size
  have s3 := B3.out.size
  simp only [World.size_alloc] at s2 s3
  have b4 := B4.out
  have s4 : w4.heap.size = w3.heap.size + 1 + 1 := by rw [← b4]; simp
  have bw3 : Below w.heap.size w w3 := BW.out.trans (B3.out.mono (by simp; omega))
  have bw4 : Below w.heap.size w w4 := by rw [← b4]; exact (bw3.alloc (by omega) _).alloc (by simp; omega) _
  have hb1 : w4.heap[w3.heap.size]? = some (.cells #[.slice (addrG rb 0) all.length cap] 22 (0, 0)) := by
    rw [← b4, Below.heap_alloc _ _ _ (by simp)]; exact heap_alloc_new _ _
  have hb2 : w4.heap[w3.heap.size + 1]? = some (.cells #[.int .i64 per] 3 (0, 0)) := by
    rw [← b4]
    have := heap_alloc_new (w3.alloc (.cells #[.slice (addrG rb 0) all.length cap] 22)) (.cells #[.int .i64 per] 3)
    rwa [show (w3.alloc (.cells #[.slice (addrG rb 0) all.length cap] 22)).heap.size = w3.heap.size + 1 by simp] at this
  obtain ⟨c, hcc⟩ : ∃ c, c = cntT per all.length := ⟨_, rfl⟩
  have hst := groups_stops 2 w3.heap.size (w3.heap.size + 1) rb per all.length cap c (by omega) h64 hcc F2.out F3.out F1.out w4 hb1 hb2
  have hinv : InvG w.heap.size w1.heap.size w2.heap.size w4.heap.size per all rb cap w ([] : List (Fin c)) w4 := by
    have x4 : ∀ (j : Nat) (cs : Array Value) (T : TypeId) (fr : Nat × Nat), w3.heap[j]? = some (.cells cs T fr) → w4.heap[j]? = some (.cells cs T fr) := fun j cs T fr h => by
      have := (Array.getElem?_eq_some_iff.1 h).1
      rw [← b4, Below.heap_alloc _ _ _ (by simp; omega), Below.heap_alloc _ _ _ (by omega)]
      exact h
    have x3 : ∀ (j : Nat) (cs : Array Value) (T : TypeId) (fr : Nat × Nat), w2.heap[j]? = some (.cells cs T fr) → w3.heap[j]? = some (.cells cs T fr) := fun j cs T fr h => by
      have := (Array.getElem?_eq_some_iff.1 h).1
      rw [B3.out.block j (by simp; omega), Below.heap_alloc _ _ _ (by omega)]
      exact h
    refine ⟨⟨.slice none 0 0, [], ?_, rfl, OwnE.nil _ _, by simp⟩, ?_, (O3.out.mono (by simp; omega)).same fun g hg => ?_, bw4, Nat.le_refl _⟩
    · refine x4 _ _ _ _ (x3 _ _ _ _ ?_)
      rw [B2.out.block _ (by simp)]
      exact heap_alloc_new _ _
    · refine x4 _ _ _ _ ?_
      rw [B3.out.block _ (by simp)]
      exact heap_alloc_new _ _
    · obtain ⟨cur, hcu⟩ := O3.out.toE.block hg
      exact (x4 _ _ _ _ hcu).trans hcu.symm
  have F1o := F1.out
  have F2o := F2.out
  have F3o := F3.out
  clear b4 B4 HM HC B2 BW O3 B3 F1 F2 F3 bw3 hb1 hb2
  have q1 : w.heap.size ≤ w1.heap.size := s1
  have q2 : w1.heap.size < w2.heap.size := by omega
  have q3 : w2.heap.size < w3.heap.size := by omega
  have q4 : w4.heap.size = w3.heap.size + 1 + 1 := s4
  clear s1 s2 s3 s4 B1
  generalize w1.heap.size = pb at *
  generalize w2.heap.size = fb at *
  generalize w3.heap.size = B1 at *
  obtain ⟨len, hlen⟩ : ∃ len, all.length = len := ⟨_, rfl⟩
  rw [hlen] at hst ⊢
  refine wpIn_rangeFunc_ownH rfl h1 (gf := 35) (lb := #[.pointer (some ⟨B1, 0, none⟩), .pointer (some ⟨B1 + 1, 0, none⟩)]) rfl trivial (enters_of Try.func35 (by kernel_rfl) rfl)
    hst KeepG.trans (fun W l o o' hl h hc hw => KeepG.putObj W l o o' h hc) (Below.refl _ _) (fun _ => rfl)
    (fun pre W => InvG w.heap.size pb fb w4.heap.size per all rb cap w pre W)
    (fun _ _ _ => False)
    (fun s W W' row hs hg hr => hs.own hg (fun r e => hr r e) (by omega))
    (fun c s W W' row hs hg hr => hs)
    hinv
    (fun x a' W => a' = { tmps := #[.slice a nl ca, .int .i64 per, undef, undef, .slice none 0 0, .int .i64 0, .pointer (some ⟨pb, 0, none⟩), .pointer (some ⟨fb, 0, none⟩), .slice (addrG rb (x.val * per)) (min per (len - x.val * per) : Nat) (cap - x.val * per), .bool (decide (len ≤ (x.val + 1) * per)), undef, .int .i64 per, .bool false, .bool false, .int .i64 per, .bool false, .bool false, .bool false, .slice a nl ca, .bool false, .bool false, .agg #[.int .i64 1, .int .i64 1, .int .i64 1, .int .i64 0], .slice a nl ca, .slice (addrG rb 0) len cap, .int .i64 per, .func (.func 35) #[] #[.pointer (some ⟨B1, 0, none⟩), .pointer (some ⟨B1 + 1, 0, none⟩)], .slice (addrG rb (x.val * per)) (min per (len - x.val * per) : Nat) (cap - x.val * per), .bool (decide (len ≤ (x.val + 1) * per)), undef, undef, undef, undef, undef, undef, undef, undef, undef, undef, undef, undef, undef, undef, undef, undef, undef, undef, undef, undef, undef, undef, undef, undef], defers := [] })
    (fun x a' s W W' row hs hg hr => hs) ?assign ?body ?done ?stop
  case assign =>
    rintro l pre x W K hG hK
    simp only [encG]
    gi_wp2
    exact hK _ _ ((KeepsOthers.refl _).from _) (KeepG.refl _ _ _) hG rfl
  case body =>
    rintro l pre x a' W hl _ hG rfl hpl
    have hk := x.isLt
    obtain ⟨k, hkx⟩ : ∃ k, x.val = k := ⟨_, rfl⟩
    have hsnoc := stG_snoc per all pre x
    rw [hkx] at hsnoc hk ⊢
    have hz := cntz (len := len) (k := k) (per := per) (by omega) (by rw [← hlen, ← hcc]; exact hk)
    have hs1 : (k + 1) * per = k * per + per := by rw [Nat.add_mul, Nat.one_mul]
    have hgl := grp_length per all k
    rw [hlen] at hgl
    have hrd := grp_rd (per := per) hG.src.rd k
    have hgm : (grpT per all k).length ≤ 64 := by omega
    obtain ⟨g, hgg⟩ : ∃ g, grpT per all k = g := ⟨_, rfl⟩
    rw [hgg] at hgl hrd hgm hsnoc
    rw [← hgl]
    obtain ⟨to, htt⟩ : ∃ to, toT per all k = to := ⟨_, rfl⟩
    rw [htt] at hsnoc
    obtain ⟨ps, fm, hst2⟩ : ∃ ps fm, stG per all pre = (ps, fm) := ⟨_, _, rfl⟩
    have hpl2 := stG_len per all pre
    have hpk := hG.pk
    have hfr := hG.fr
    rw [hst2] at hsnoc hpl2 hpk hfr
    simp only [] at hsnoc hpl2 hpk hfr
    have hcl := cnt_le (per := per) (by omega) all.length
    have lpb : pb < W.heap.size := by obtain ⟨v, ss, hbx, _⟩ := hpk; exact hbx.lt
    have lfb : fb < W.heap.size := hfr.lt
    have lps : ps.length ≤ 100000000000 := by omega
    have HTAIL : Hid (∀ (W3 : World) (tb : Nat), Below W.heap.size W W3 → W.heap.size ≤ tb → Arr W3 tb 24 (cellsI to) → PkS w.heap.size pb ps W3 ∧ Arr W3 fb 24 (cellsI fm) ∧ RdT W3 (addrG rb (k * per)) g ∧ w.heap.size ≤ W3.heap.size) := fun W3 tb hb ht1 ht2 => by
      refine ⟨hpk.keep fun j cs T fr hj _ => ?_, hfr.below (n₀ := W.heap.size) hb hfr.lt, hrd.below hb, ?_⟩
      · exact (hb.block j (Array.getElem?_eq_some_iff.1 hj).1).trans hj
      · have := hb.size; have := hG.bel.size; omega
    have HEND : Hid (∀ (W3 W4 W5 : World) (tb : Nat) (X : TId), Below W.heap.size W W3 → PkS w.heap.size pb (ps ++ [⟨fm, to, g⟩]) W4 → KeepN pb W3 W4 → Below w.heap.size W3 W4 → KeepsOthers W3 W4 → Below W4.heap.size W4 W5 → X = (afterT to).1 →
        KeepsFrom w4.heap.size W ((((W5.setCell ⟨fb, 0, none⟩ (.int .i64 X.d)).setCell ⟨fb, 1, none⟩ (.int .i64 X.o)).setCell ⟨fb, 2, none⟩ (.int .i64 X.k)).setCell ⟨fb, 3, none⟩ (.int .i64 X.n)) ∧
        KeepG B1 (B1 + 1) W ((((W5.setCell ⟨fb, 0, none⟩ (.int .i64 X.d)).setCell ⟨fb, 1, none⟩ (.int .i64 X.o)).setCell ⟨fb, 2, none⟩ (.int .i64 X.k)).setCell ⟨fb, 3, none⟩ (.int .i64 X.n)) ∧
        InvG w.heap.size pb fb w4.heap.size per all rb cap w (pre ++ [x]) ((((W5.setCell ⟨fb, 0, none⟩ (.int .i64 X.d)).setCell ⟨fb, 1, none⟩ (.int .i64 X.o)).setCell ⟨fb, 2, none⟩ (.int .i64 X.k)).setCell ⟨fb, 3, none⟩ (.int .i64 X.n))) := fun W3 W4 W5 tb X hb3 hp4 hk4 hb4 ho4 hb5 hX => by
      have f3 : Arr W3 fb 24 (cellsI fm) := hfr.below (n₀ := W.heap.size) hb3 hfr.lt
      have f4 : Arr W4 fb 24 (cellsI fm) := hk4 _ _ _ _ (by omega) (by decide) f3
      have f5 : Arr W5 fb 24 (cellsI fm) := f4.below (n₀ := W4.heap.size) hb5 f4.lt
      have f6 := (((f5.set 0 (.int .i64 X.d)).set 1 (.int .i64 X.o)).set 2 (.int .i64 X.k)).set 3 (.int .i64 X.n)
      have other : ∀ j, j ≠ fb → ((((W5.setCell ⟨fb, 0, none⟩ (.int .i64 X.d)).setCell ⟨fb, 1, none⟩ (.int .i64 X.o)).setCell ⟨fb, 2, none⟩ (.int .i64 X.k)).setCell ⟨fb, 3, none⟩ (.int .i64 X.n)).heap[j]? = W5.heap[j]? := fun j hj => by
        rw [Below.heap_setCell _ _ _ _ hj, Below.heap_setCell _ _ _ _ hj, Below.heap_setCell _ _ _ _ hj, Below.heap_setCell _ _ _ _ hj]
      have z3 := hb3.size
      have z4 := hb4.size
      have z5 := hb5.size
      have zw := hG.bel.size
      have bz : Below w.heap.size w ((((W5.setCell ⟨fb, 0, none⟩ (.int .i64 X.d)).setCell ⟨fb, 1, none⟩ (.int .i64 X.o)).setCell ⟨fb, 2, none⟩ (.int .i64 X.k)).setCell ⟨fb, 3, none⟩ (.int .i64 X.n)) := (((((hG.bel.trans (hb3.mono zw)).trans hb4).trans (hb5.mono (by omega))).setCell (p := ⟨fb, 0, none⟩) (by show _ ≤ fb; omega) _).setCell (p := ⟨fb, 1, none⟩) (by show _ ≤ fb; omega) _).setCell (p := ⟨fb, 2, none⟩) (by show _ ≤ fb; omega) _ |>.setCell (p := ⟨fb, 3, none⟩) (by show _ ≤ fb; omega) _
      refine ⟨((keeps_below hb3).trans (ho4.trans ((keeps_below hb5).trans ((KeepsOthers.setCell _ _ _).trans ((KeepsOthers.setCell _ _ _).trans ((KeepsOthers.setCell _ _ _).trans (KeepsOthers.setCell _ _ _))))))).from _, ?_, ?_⟩
      · intro j cs T fr hj hT hh
        have h3 := (hb3.block j (Array.getElem?_eq_some_iff.1 hh).1).trans hh
        have h4 := hk4 j cs T fr (by omega) hT h3
        have h5 := (hb5.block j (Array.getElem?_eq_some_iff.1 h4).1).trans h4
        exact (other j (by omega)).trans h5
      · refine ⟨?_, ?_, ?_, bz, ?_⟩
        · rw [hsnoc]
          refine hp4.keep fun j cs T fr hj hT => ?_
          have h5 := (hb5.block j (Array.getElem?_eq_some_iff.1 hj).1).trans hj
          refine (other j (fun e => ?_)).trans h5
          rw [e, show W5.heap[fb]? = _ from f5] at h5
          cases h5
          exact hT rfl
        · rw [hsnoc]
          show Arr _ fb _ (cellsI (afterT to).1)
          rw [← hX]
          exact f6
        · refine hG.src.same fun g hg => ?_
          obtain ⟨cur, hc⟩ := hG.src.toE.block hg
          have h3 := (hb3.block g (Array.getElem?_eq_some_iff.1 hc).1).trans hc
          have h4 := hk4 g _ _ _ (fun e => by
            obtain ⟨v, ss, hbx, _⟩ := hpk
            rw [e, show W.heap[pb]? = _ from hbx] at hc
            cases hc) (by decide) h3
          have h5 := (hb5.block g (Array.getElem?_eq_some_iff.1 h4).1).trans h4
          refine ((other g (fun e => ?_)).trans h5).trans hc.symm
          rw [e, show W5.heap[fb]? = _ from f5] at h5
          cases h5
        · have := hG.size
          show w4.heap.size ≤ _
          exact Nat.le_trans (by omega) ((KeepsOthers.setCell W5 _ _).trans ((KeepsOthers.setCell _ _ _).trans ((KeepsOthers.setCell _ _ _).trans (KeepsOthers.setCell _ _ _)))).size
    have hgc : addrG rb (k * per) = none → cap - k * per = 0 := fun e => by
      cases rb with
      | none => have := (F1o rfl).2; omega
      | some g => cases e
    by_cases hm : len ≤ (k + 1) * per
    · have e2 : decide (len ≤ (k + 1) * per) = true := decide_eq_true hm
      rw [e2]
      have eto : to = lastT := by rw [← htt]; unfold toT; rw [if_neg (by rw [hlen]; omega)]
      obtain ⟨gA, hgA⟩ : ∃ gA, addrG rb (k * per) = gA := ⟨_, rfl⟩
      obtain ⟨gc, hgcc⟩ : ∃ gc, cap - k * per = gc := ⟨_, rfl⟩
      obtain ⟨gn, hgn⟩ : ∃ gn, g.length = gn := ⟨_, rfl⟩
      rw [hgA] at HTAIL hgc ⊢
      rw [hgcc] at hgc ⊢
      rw [hgn]
      have HGC := Lib.hid hgc
      have HGN := Lib.hid hgn
      have HE := Lib.hid eto
      clear e2 hm hs1 hz hsnoc hrd hpk hfr hG hgc hgn eto
      gi_wp2_with (first
        | ((first | refine ⟨trivial, hdd _, ?_⟩ | refine ⟨trivial, ?_⟩); gi_at_call 18; refine (callsIn_wide.2 (plast_any _)).mono ?_; rintro e w5 ⟨rfl, hb⟩; have BL := Lib.hid hb; clear hb))
      obtain ⟨tb, htb⟩ : ∃ tb, w5.heap.size = tb := ⟨_, rfl⟩
      have hbw : Below W.heap.size W (w5.alloc (.cells #[.int .i64 2, .int .i64 1000, .int .i64 4, .int .i64 65535] 24)) := BL.out.alloc BL.out.size _
      have hat : Arr (w5.alloc (.cells #[.int .i64 2, .int .i64 1000, .int .i64 4, .int .i64 65535] 24)) tb 24 (cellsI to) := by rw [← htb, HE.out]; exact Arr.new w5 24 _
      obtain ⟨W3, hW3⟩ : ∃ W3, w5.alloc (.cells #[.int .i64 2, .int .i64 1000, .int .i64 4, .int .i64 65535] 24) = W3 := ⟨_, rfl⟩
      rw [hW3] at hbw hat ⊢
      rw [htb]
      obtain ⟨t1, t2, t3, t4⟩ := HTAIL.out W3 tb hbw (by rw [← htb]; exact BL.out.size) hat
      have tpb : pb ≠ tb := by
        have := BL.out.size
        omega
      have HBW := Lib.hid hbw
      have HAT := Lib.hid hat
      have HT2 := Lib.hid t2
      clear hbw hat htb hW3 BL
      refine region11_any w.heap.size pb fb tb ps fm to g gA gn gc W3 _ _ _ _ _ _ _ _ _ _ _ _ _ _ _ _ _ _ _ _ _ _ _ _ _ _ _ _ _ _ _ _ _ _ _ _ _ _ _ _ _ _ _ _ _ _ _ _ t1 (by omega) t4 q1 HT2.out HAT.out t3 HGN.out.symm (by omega) HGC.out ?_
      intro x38 x39 x40 x41 x42 x43 x44 x45 W4 hpost
      obtain ⟨p1, p2, p3, p4⟩ := hpost
      have at4 : Arr W4 tb 24 (cellsI to) := p2 _ _ _ _ (Ne.symm tpb) (by decide) HAT.out
      have af4 : Arr W4 fb 24 (cellsI fm) := p2 _ _ _ _ (by omega) (by decide) HT2.out
      have y0 := at4.cell 0
      have y1 := at4.cell 1
      have y2 := at4.cell 2
      have y3 := at4.cell 3
      have P1 := Lib.hid p1
      have P2 := Lib.hid p2
      have P3 := Lib.hid p3
      have P4 := Lib.hid p4
      have AF4 := Lib.hid af4
      obtain ⟨X, hX⟩ : ∃ X, (afterT to).1 = X := ⟨_, rfl⟩
      have haft := pafter_any to
      unfold AftE at haft
      rw [hX] at haft
      have HX := Lib.hid hX
      have HAFT := Lib.hid haft
      clear p1 p2 p3 p4 at4 af4 hX haft t1 t3
      simp only [cellsI, List.getElem?_cons_zero, List.getElem?_cons_succ] at y0 y1 y2 y3
      gi_wp2_with (first
        | ((first | refine ⟨trivial, hdd _, ?_⟩ | refine ⟨trivial, ?_⟩); gi_at_call 23; refine (callsIn_wide.2 (HAFT.out _)).mono ?_; rintro e w6 ⟨rfl, hb⟩; have B6 := Lib.hid hb; have AF6 := Lib.hid (AF4.out.below (n₀ := W4.heap.size) hb AF4.out.lt); have z0 := AF6.out.cell 0; have z1 := AF6.out.cell 1; have z2 := AF6.out.cell 2; have z3 := AF6.out.cell 3; have zf := fun j => AF6.out.frozen j; simp only [cellsI, List.getElem?_cons_zero, List.getElem?_cons_succ] at z0 z1 z2 z3; clear hb))
      exact HEND.out W3 W4 w6 tb X HBW.out P1.out P2.out P3.out P4.out B6.out HX.out.symm
    · have e2 : decide (len ≤ (k + 1) * per) = false := decide_eq_false hm
      rw [e2]
      obtain ⟨m, hmp⟩ : ∃ m, m + 1 = per := ⟨per - 1, by omega⟩
      obtain ⟨xh, hxh, exh⟩ := grp_last (all := all) (k := k) hmp (by rw [hlen]; omega)
      rw [hgg] at hxh
      rw [htt] at exh
      obtain ⟨gA, hgA⟩ : ∃ gA, addrG rb (k * per) = gA := ⟨_, rfl⟩
      obtain ⟨gc, hgcc⟩ : ∃ gc, cap - k * per = gc := ⟨_, rfl⟩
      have hgn : g.length = m + 1 := by omega
      rw [hgA] at HTAIL hgc hrd ⊢
      rw [hgcc] at hgc ⊢
      rw [hgn]
      have HY : Hid (∀ W', Below W.heap.size W W' → ∃ gb o, gA = some ⟨gb, o, none⟩ ∧ W'.cell? ⟨gb, o + m * 6, none⟩ = some (.int .i64 xh.id.d) ∧ W'.cell? ⟨gb, o + m * 6 + 1, none⟩ = some (.int .i64 xh.id.o) ∧ W'.cell? ⟨gb, o + m * 6 + 2, none⟩ = some (.int .i64 xh.id.k) ∧ W'.cell? ⟨gb, o + m * 6 + 3, none⟩ = some (.int .i64 xh.id.n)) := fun W' hb => by
        obtain ⟨gb, o, e, hlt, hr, -⟩ := (hrd.below hb).at hxh
        exact ⟨gb, o, e, mid_cell0 hr rfl, mid_cell hr 1 rfl, mid_cell hr 2 rfl, mid_cell hr 3 rfl⟩
      obtain ⟨gb, o, rfl, -⟩ := HY.out W (Below.refl _ _)
      have HY2 : Hid (∀ W', Below W.heap.size W W' → W'.cell? ⟨gb, o + m * 6, none⟩ = some (.int .i64 xh.id.d) ∧ W'.cell? ⟨gb, o + m * 6 + 1, none⟩ = some (.int .i64 xh.id.o) ∧ W'.cell? ⟨gb, o + m * 6 + 2, none⟩ = some (.int .i64 xh.id.k) ∧ W'.cell? ⟨gb, o + m * 6 + 3, none⟩ = some (.int .i64 xh.id.n)) := fun W' hb => by
        obtain ⟨gb', o', e, h⟩ := HY.out W' hb
        cases e
        exact h
      have HGC := Lib.hid hgc
      have HGN := Lib.hid hgn
      have HE := Lib.hid exh
      have hm63 : m ≤ 63 := by omega
      have hgcl : m + 1 ≤ gc := by omega
      clear e2 hm hs1 hz hsnoc hrd hpk hfr hG hgc hgn exh HY hxh hgA hgcc hmp
      gi_wp2_with (first
        | ((first | refine ⟨trivial, hdd _, ?_⟩ | refine ⟨trivial, ?_⟩); gi_at_call 18; refine (callsIn_wide.2 (plast_any _)).mono ?_; rintro e w5 ⟨rfl, hb⟩; have BL := Lib.hid hb; obtain ⟨h0, h1', h2, h3⟩ := HY2.out _ (hb.alloc hb.size (.cells #[.int .i64 2, .int .i64 1000, .int .i64 4, .int .i64 65535] 24)); clear hb))
      obtain ⟨tb, htb⟩ : ∃ tb, w5.heap.size = tb := ⟨_, rfl⟩
      have hbw : Below W.heap.size W (w5.alloc (.cells #[.int .i64 xh.id.d, .int .i64 xh.id.o, .int .i64 xh.id.k, .int .i64 xh.id.n] 24)) := BL.out.alloc BL.out.size _
      have hat : Arr (w5.alloc (.cells #[.int .i64 xh.id.d, .int .i64 xh.id.o, .int .i64 xh.id.k, .int .i64 xh.id.n] 24)) tb 24 (cellsI to) := by rw [← htb, HE.out]; exact Arr.new w5 24 _
      obtain ⟨W3, hW3⟩ : ∃ W3, w5.alloc (.cells #[.int .i64 xh.id.d, .int .i64 xh.id.o, .int .i64 xh.id.k, .int .i64 xh.id.n] 24) = W3 := ⟨_, rfl⟩
      rw [hW3] at hbw hat ⊢
      rw [htb]
      obtain ⟨t1, t2, t3, t4⟩ := HTAIL.out W3 tb hbw (by rw [← htb]; exact BL.out.size) hat
      have tpb : pb ≠ tb := by
        have := BL.out.size
        omega
      have HBW := Lib.hid hbw
      have HAT := Lib.hid hat
      have HT2 := Lib.hid t2
      clear hbw hat htb hW3 BL
      refine region11_any w.heap.size pb fb tb ps fm to g (some ⟨gb, o, none⟩) (m + 1) gc W3 _ _ _ _ _ _ _ _ _ _ _ _ _ _ _ _ _ _ _ _ _ _ _ _ _ _ _ _ _ _ _ _ _ _ _ _ _ _ _ _ _ _ _ _ _ _ _ _ t1 (by omega) t4 q1 HT2.out HAT.out t3 HGN.out.symm (by omega) HGC.out ?_
      intro x38 x39 x40 x41 x42 x43 x44 x45 W4 hpost
      obtain ⟨p1, p2, p3, p4⟩ := hpost
      have at4 : Arr W4 tb 24 (cellsI to) := p2 _ _ _ _ (Ne.symm tpb) (by decide) HAT.out
      have af4 : Arr W4 fb 24 (cellsI fm) := p2 _ _ _ _ (by omega) (by decide) HT2.out
      have y0 := at4.cell 0
      have y1 := at4.cell 1
      have y2 := at4.cell 2
      have y3 := at4.cell 3
      have P1 := Lib.hid p1
      have P2 := Lib.hid p2
      have P3 := Lib.hid p3
      have P4 := Lib.hid p4
      have AF4 := Lib.hid af4
      obtain ⟨X, hX⟩ : ∃ X, (afterT to).1 = X := ⟨_, rfl⟩
      have haft := pafter_any to
      unfold AftE at haft
      rw [hX] at haft
      have HX := Lib.hid hX
      have HAFT := Lib.hid haft
      clear p1 p2 p3 p4 at4 af4 hX haft t1 t3
      simp only [cellsI, List.getElem?_cons_zero, List.getElem?_cons_succ] at y0 y1 y2 y3
      gi_wp2_with (first
        | ((first | refine ⟨trivial, hdd _, ?_⟩ | refine ⟨trivial, ?_⟩); gi_at_call 23; refine (callsIn_wide.2 (HAFT.out _)).mono ?_; rintro e w6 ⟨rfl, hb⟩; have B6 := Lib.hid hb; have AF6 := Lib.hid (AF4.out.below (n₀ := W4.heap.size) hb AF4.out.lt); have z0 := AF6.out.cell 0; have z1 := AF6.out.cell 1; have z2 := AF6.out.cell 2; have z3 := AF6.out.cell 3; have zf := fun j => AF6.out.frozen j; simp only [cellsI, List.getElem?_cons_zero, List.getElem?_cons_succ] at z0 z1 z2 z3; clear hb))
      exact HEND.out W3 W4 w6 tb X HBW.out P1.out P2.out P3.out P4.out B6.out HX.out.symm
  case done =>
    rintro D ys W hD hS hF hK
    obtain ⟨v, ss, p1, p2, p3, p4⟩ := hF.pk
    rw [stG_all per all c ys hS, hcc] at p2
    have q0 := p1.cell
    have HF := Lib.hid hF
    have P2 := Lib.hid p2
    have P3 := Lib.hid p3
    have P4 := Lib.hid p4
    clear hF p1 p2 p3 p4
    gi_wp2
    refine ⟨by simp, .inl ⟨_, _, rfl, run_takeDeferred hK, ?_⟩⟩
    have hg2 := grownBy_putObj' W D (.deferred none)
    have hr2 : ∀ r, some D = some r → ∃ o : Obj, W.heap[r]? = some o ∧ o.isCells = false := fun r e => by cases e; exact ⟨_, hK, rfl⟩
    have hf2 := HF.out.own hg2 (fun r e => by cases e; exact ⟨hD, _, hK, rfl⟩) (by omega)
    refine ⟨_, results_tmp2 rfl _ _ _, ⟨v, rfl, ss, P2.out, ?_, ?_⟩, hf2.bel⟩
    · refine P3.out.same fun g hg => ?_
      obtain ⟨cur, hc⟩ := P3.out.block hg
      exact (block_own hc hg2 hr2).trans hc.symm
    · intro s hs
      refine (P4.out s hs).same fun g hg => ?_
      obtain ⟨cur, hc⟩ := (P4.out s hs).toE.block hg
      exact (block_own hc hg2 hr2).trans hc.symm
  case stop =>
    rintro D c pre W hD hpre h _
    exact h.elim
end Go.Proofs.Ytjfnpciecgemeaa.ti

/-
  THE PROGRAM'S Describe, where it refuses.
-/
namespace Go.Proofs.Ytjfnpciecgemeaa.ti
set_option linter.unusedSimpArgs false
set_option linter.unusedVariables false
open Go.RowKit
/-- May heads be described, so many of them each? -/
def mayD (l : List THd) (per : Int) : Prop := (1 ≤ per ∧ per ≤ 64) ∧ l.all rgtH = true
set_option maxRecDepth 100000 in
set_option maxHeartbeats 1600000 in
theorem describe_no (l : List THd) (a : Option Addr) (ca : Nat) (per : Int) (w : World) (ha : RdT w a l) (hl : l.length ≤ 9223372036854775807) (hca : l.length ≤ ca) (h : ¬ mayD l per) :
    Calls Try.prog 8 #[.slice a l.length ca, .int .i64 per] w fun e w' => e = .returned (.tuple #[.slice none 0 0, .int .i64 1]) ∧ Below w.heap.size w w' := by
  have hc := contains_any l a ca w ha hl hca
  generalize hnl : l.length = nl at *
  have B0 := Lib.hid (Below.refl w.heap.size w)
  by_cases h1 : per < 1
  · have d1 : decide (per < 1) = true := decide_eq_true h1
    clear hc ha h
    go_enter Try.func8, Try.ntmps8
    go_wp2
    refine bodyPost_ret (results_tmp2 rfl _ _ _) rfl ?_
    exact ⟨rfl, B0.out⟩
  · have d1 : decide (per < 1) = false := decide_eq_false h1
    by_cases h2 : 64 < per
    · have d2 : decide (64 < per) = true := decide_eq_true h2
      clear hc ha h
      go_enter Try.func8, Try.ntmps8
      go_wp2
      refine bodyPost_ret (results_tmp2 rfl _ _ _) rfl ?_
      exact ⟨rfl, B0.out⟩
    · have d2 : decide (64 < per) = false := decide_eq_false h2
      have h3 : l.all rgtH = false := by
        cases q : l.all rgtH with
        | false => rfl
        | true => exact absurd ⟨⟨by omega, by omega⟩, q⟩ h
      rw [h3] at hc
      have HC := Lib.hid hc
      clear hc ha h
      go_enter Try.func8, Try.ntmps8
      go_wp2_with (go_at_call 19; refine HC.out.mono ?_; rintro e w1 ⟨rfl, hb⟩; have HB := Lib.hid hb; clear hb)
      refine bodyPost_ret (results_tmp2 rfl _ _ _) rfl ?_
      exact ⟨rfl, HB.out⟩
end Go.Proofs.Ytjfnpciecgemeaa.ti

/-
  AWAKE: two heads, of which one is known.
-/
namespace Go.Proofs.Ytjfnpciecgemeaa.ti
set_option linter.unusedSimpArgs false
set_option linter.unusedVariables false
open Go.RowKit
def hdA (o s : Int) : THd := ⟨⟨1, o, 1, 0⟩, s, 9⟩
set_option maxHeartbeats 1600000 in
set_option maxRecDepth 100000 in
theorem head_any (o s : Int) (w : World) : Calls Try.prog 16 #[.int .i64 o, .int .i64 s] w fun e w' => e = .returned (.agg #[.int .i64 1, .int .i64 o, .int .i64 1, .int .i64 0, .int .i64 s, .int .i64 9]) ∧ Below w.heap.size w w' := by
  have HB : Hid (∀ A : Obj, Below w.heap.size w (w.alloc A)) := fun A => (Below.refl _ _).alloc (Nat.le_refl _) _
  go_enter Try.func16, Try.ntmps16
  go_wp2
  refine bodyPost_ret (results_row1 (cs := [.int .i64 1, .int .i64 o, .int .i64 1, .int .i64 0, .int .i64 s, .int .i64 9]) rfl rfl (range_list (heap_alloc_new w _)) Try.underlying34 rfl (by kernel_rfl)) rfl ?_
  exact ⟨rfl, HB.out _⟩
theorem awk_desc : descT 1 (mergeT [hdA 1 1, hdA 2 1] []) = [⟨⟨1, 1, 1, 0⟩, ⟨1, 1, 1, 0⟩, [hdA 1 1]⟩, ⟨⟨1, 1, 1, 1⟩, ⟨2, 1000, 4, 65535⟩, [hdA 2 1]⟩] := by rfl
theorem awk_mine : mergeT ([hdA 1 1, hdA 1 2].filter fun x => cntB 3 ⟨1, 1, 1, 0⟩ ⟨1, 1, 1, 0⟩ x.id) [] = [hdA 1 2] := by rfl
theorem awk_told : mergeT ([hdA 1 1].filter fun x => cntB 3 ⟨1, 1, 1, 0⟩ ⟨1, 1, 1, 0⟩ x.id) [] = [hdA 1 1] := by rfl
theorem awk_both : mergeT [hdA 1 2] [hdA 1 1] = [hdA 1 2] := by rfl
theorem awk_ask : [hdA 1 2].flatMap (askF [hdA 1 2] [hdA 1 1]) = [] := by rfl
theorem awk_send : [hdA 1 2].flatMap (sendF true [hdA 1 2] [hdA 1 1]) = [⟨1, 1, 1, 0⟩] := by rfl
theorem awk_know : [hdA 1 2].flatMap (knowF [hdA 1 2] [hdA 1 1]) = [] := by rfl
/-- A description that may be read. -/
def RdDs (W : World) (A : Option Addr) (ps : List Dp) : Prop := ∀ (k : Nat) (p : Dp), ps[k]? = some p → ∃ g o a cc, A = some ⟨g, o, none⟩ ∧ g < W.heap.size ∧ W.rangeAt g (o + k * 32) (encD ⟨p, a, cc⟩) ∧ RdT W a p.hs ∧ p.hs.length ≤ cc ∧ cc ≤ maxLen
theorem RdDs.below {W W' : World} {A : Option Addr} {ps : List Dp} (h : RdDs W A ps) (k : Below W.heap.size W W') : RdDs W' A ps := fun j p hj => by
  obtain ⟨g, o, a, cc, e, hg, hc, hr, h1, h2⟩ := h j p hj
  exact ⟨g, o, a, cc, e, Nat.lt_of_lt_of_le hg k.size, fun i v hv => (k.cell (p := ⟨g, _, none⟩) hg).trans (hc i v hv), hr.below k, h1, h2⟩
theorem OwnDs.get {W : World} {n0 : Nat} {v : Value} {ps : List Dp} (h : OwnDs W n0 v ps) : ∃ (A : Option Addr) (n c : Nat), v = .slice A n c ∧ n = ps.length ∧ n ≤ c ∧ RdDs W A ps := by
  obtain ⟨ss, e, ho, hh⟩ := h
  obtain ⟨A, c, ev, h1, h2⟩ := ho.shape
  subst ev
  have hlen : ss.length = ps.length := by rw [← e, List.length_map]
  refine ⟨A, _, c, rfl, hlen, h1, fun k p hk => ?_⟩
  rw [← e, List.getElem?_map] at hk
  obtain ⟨s, hs, rfl⟩ := Option.map_eq_some_iff.1 hk
  obtain ⟨g, o, eA, hg, hc⟩ := kindP.rd ho k s hs
  have hs2 := hh s (List.mem_of_getElem? hs)
  refine ⟨g, o, s.a, s.c, eA, hg, hc, hs2.rd, ?_, ?_⟩
  · obtain ⟨A', c', e', h1', h2'⟩ := hs2.toE.shape
    cases e'
    exact h1'
  · obtain ⟨A', c', e', h1', h2'⟩ := hs2.toE.shape
    cases e'
    exact h2'
def ansM (own : List THd) (p : Dp) : List THd := mergeT (own.filter fun x => cntB 3 p.frm p.to x.id) []
def ansT (p : Dp) : List THd := mergeT (p.hs.filter fun x => cntB 3 p.frm p.to x.id) []
def ansA (own : List THd) (p : Dp) : List THd := (mergeT (ansM own p) (ansT p)).flatMap (askF (ansM own p) (ansT p))
def ansS (own : List THd) (p : Dp) : List TId := (mergeT (ansM own p) (ansT p)).flatMap (sendF true (ansM own p) (ansT p))
def ansK (own : List THd) (p : Dp) : List TId := (mergeT (ansM own p) (ansT p)).flatMap (knowF (ansM own p) (ansT p))
/-- May a packet of a description be? -/
structure OkDp (p : Dp) : Prop where
  frm : rightT p.frm
  to : rightT p.to
  hs : ∀ x ∈ p.hs, rgtH x = true
  len : p.hs.length ≤ 64
theorem rgtH_ok {h : THd} (k : rgtH h = true) : okH h := by
  have h1 := rgtH_id k
  have h2 := rgtH_num k
  unfold rightT at h1
  unfold okH okI In64
  omega
def AnsE (own : List THd) (p : Dp) (w : World) (e : Ending) (w' : World) : Prop := (∃ A1 n1 c1 A2 n2 c2 A3 n3 c3, e = .returned (.tuple #[.slice A1 n1 c1, .slice A2 n2 c2, .slice A3 n3 c3]) ∧ (n1 = (ansA own p).length ∧ n1 ≤ c1 ∧ RdT w' A1 (ansA own p)) ∧ (n2 = (ansS own p).length ∧ n2 ≤ c2 ∧ RdE 4 cellsI w' A2 (ansS own p)) ∧ n3 = (ansK own p).length) ∧ Below w.heap.size w w'
theorem answerD_any (own : List THd) (a : Option Addr) (ca lo : Nat) (p : Dp) (ah : Option Addr) (ch nh : Nat) (w : World) (hown : RdT w a own) (hol : own.length ≤ 4000) (hlo : lo = own.length) (hca : lo ≤ ca) (hokO : ∀ x ∈ own, okH x) (hp : OkDp p) (hhs : RdT w ah p.hs) (hnh : nh = p.hs.length) (hch : nh ≤ ch) (hcm : ch ≤ maxLen) :
    Calls Try.prog 13 #[.slice a lo ca, .agg #[.int .i64 3, .int .i64 0, .int .i64 0, .int .i64 0, .int .i64 0, .int .i64 0, .int .i64 0, .int .i64 0, .int .i64 0, .int .i64 0, .int .i64 0, .bool false, .bool false, .int .i64 0, .int .i64 0, .int .i64 0, .int .i64 0, .int .i64 0, .int .i64 0, .int .i64 0, .bool false, .slice none 0 0, .slice none 0 0, .int .i64 p.frm.d, .int .i64 p.frm.o, .int .i64 p.frm.k, .int .i64 p.frm.n, .int .i64 p.to.d, .int .i64 p.to.o, .int .i64 p.to.k, .int .i64 p.to.n, .slice ah nh ch]] w (AnsE own p w) := by
  subst hlo
  have h := answer_tide own a ca 3 LieT.zero TieT.zero p.frm p.to p.hs none none ah 0 0 ch nh w (by rw [hnh] at hch; exact pk_of_rd rfl rfl rfl hhs (by have := hp.len; omega) hch hcm) (tide_is hp.frm hp.to hp.hs hp.len) rfl hown hol hca hokO hhs hp.len hnh hch (fun x hx => rgtH_ok (hp.hs x hx)) _ _ _ rfl rfl rfl
  refine Calls.mono h ?_
  rintro e w' ⟨⟨v1, v2, v3, rfl, o1, o2, o3⟩, hb⟩
  obtain ⟨A1, c1, rfl, k1, _⟩ := o1.shape
  obtain ⟨A2, c2, rfl, k2, _⟩ := o2.shape
  obtain ⟨A3, c3, rfl, k3, _⟩ := o3.shape
  exact ⟨⟨A1, _, c1, A2, _, c2, A3, _, c3, rfl, ⟨rfl, k1, (OwnH.ofE o1).rd⟩, ⟨rfl, k2, kindI.rd o2⟩, rfl⟩, hb⟩
def DescE (l : List THd) (per : Int) (w : World) (e : Ending) (w' : World) : Prop :=
  (mayD l per → ∃ A n c, e = .returned (.tuple #[.slice A n c, .int .i64 0]) ∧ n = (descT per.toNat (mergeT l [])).length ∧ n ≤ c ∧ RdDs w' A (descT per.toNat (mergeT l []))) ∧
  (¬ mayD l per → e = .returned (.tuple #[.slice none 0 0, .int .i64 1])) ∧ Below w.heap.size w w'
open Classical in
theorem describe_any (l : List THd) (a : Option Addr) (ca lo : Nat) (per : Int) (w : World) (ha : RdT w a l) (hl : l.length ≤ 9223372036854775807) (hlo : lo = l.length) (hca : lo ≤ ca) (hok : ∀ x ∈ l, okH x) : Calls Try.prog 8 #[.slice a lo ca, .int .i64 per] w (DescE l per w) := by
  subst hlo
  by_cases hm : mayD l per
  · obtain ⟨n, hn⟩ : ∃ n : Nat, per = n := ⟨per.toNat, by have := hm.1.1; omega⟩
    subst hn
    refine (describe_yes l a ca n w ha hl hca (by have := hm.1.1; omega) (by have := hm.1.2; omega) hm.2 hok).mono ?_
    rintro e w' ⟨⟨v, rfl, ho⟩, hb⟩
    obtain ⟨A, k, c, rfl, h1, h2, h3⟩ := ho.get
    exact ⟨fun _ => ⟨A, k, c, rfl, h1, h2, h3⟩, fun q => absurd hm q, hb⟩
  · refine (describe_no l a ca per w ha hl hca hm).mono ?_
    rintro e w' ⟨rfl, hb⟩
    exact ⟨fun q => absurd q hm, fun _ => rfl, hb⟩
theorem desc_ok {l : List THd} {per : Int} (h : mayD l per) {k : Nat} {p : Dp} (hp : (descT per.toNat (mergeT l []))[k]? = some p) : OkDp p ∧ k < cntT per.toNat (mergeT l []).length ∧ p = dpT per.toNat (mergeT l []) k := by
  have hk : k < cntT per.toNat (mergeT l []).length := by have := (List.getElem?_eq_some_iff.1 hp).1; rwa [desc_len] at this
  have hr : ∀ x ∈ mergeT l [], rgtH x = true := fold_all (P := fun x => rgtH x = true) (l ++ []) (l := []) (by simp) (fun y hy => by rw [List.append_nil] at hy; exact List.all_eq_true.1 h.2 y hy)
  have HR : AllR (mergeT l []) := ⟨merge_asc _ _, fun x hx => rgtH_id (hr x hx)⟩
  rw [desc_at hk] at hp
  cases hp
  have h1 := h.1.1
  have h2 := h.1.2
  exact ⟨⟨frm_right (by omega) HR hk, to_right (by omega) HR k, fun x hx => hr x (grp_mem hx), by have := grp_len per.toNat (mergeT l []) k; show (grpT _ _ _).length ≤ 64; omega⟩, hk, rfl⟩
end Go.Proofs.Ytjfnpciecgemeaa.ti

/-
  AWAKE holds.
-/
namespace Go.Proofs.Ytjfnpciecgemeaa.ti
set_option linter.unusedSimpArgs false
set_option linter.unusedVariables false
open Go.RowKit
theorem takeLoad {P : Program} {ops : Array Oper} {Q : Exit → Act → World → Prop} {md : Region.Mode} {S : World → Prop} {i d : Nat} {oi : Oper} {fuel : Nat} {listed : Array Bool} {ts : Array Value} {df : List Deferred} {w : World} (hi : ops[i]? = some oi) (hd : oi.dst = some d)
    (hs : Region.noSelect ops = true) (hf : Region.free md ops listed i = true) (hr : (Region.ready md ops listed).contains i = true) (hw : Region.wanted oi (yielded ops ts) = true)
    (ty : TypeId) (x : Operand) (ho : oi.op = .load ty x) (b o : Nat) (hx : Act.eval { tmps := ts, defers := df } x = .pointer (some ⟨b, o, none⟩)) (cs : List Value) (dd : TypeDesc) (hS' : ∀ w, S w → w.rangeAt b o cs)
    (hu : P.underlying ty = some dd) (hdd : dd.isRow = true) (hsz : (P.info? ty).map (·.size) = some cs.length) (hQ : ∀ c a w, Q (.panic c) (a.put oi.dst (.agg cs.toArray)) w → Q (.panic c) a w) (hS : S w)
    (h : wpAnyH P md ops Q S fuel (listed.setIfInBounds i true) { tmps := ts.setIfInBounds d (.agg cs.toArray), defers := df } w) : wpAnyH P md ops Q S (fuel + 1) listed { tmps := ts, defers := df } w := by
  refine wpAnyH_take hi hs hf hr hQ (yieldsIf_load_mid (a := { tmps := ts, defers := df }) hw ty x ho b o hx cs dd hS' hu hdd hsz) hS ?_
  unfold Act.put
  rw [hd]
  exact h

theorem rd_two {W W' : World} (a b : THd) (hb : Below (W.heap.size + 1) (W.alloc (.cells (cellsT a ++ cellsT b).toArray 34)) W') : RdT W' (some ⟨W.heap.size, 0, none⟩) [a, b] := fun j p hj => by
  have h0 := range_list ((hb.block W.heap.size (by omega)).trans (heap_alloc_new W (.cells (cellsT a ++ cellsT b).toArray 34)))
  have hs : W.heap.size < W'.heap.size := by have := hb.size; simp at this; omega
  match j, hj with
  | 0, hj => cases hj; exact ⟨_, 0, rfl, hs, fun i v hv => by have := h0 i v (by rw [List.getElem?_append_left (List.getElem?_eq_some_iff.1 hv).1]; exact hv); simpa using this⟩
  | 1, hj =>
    cases hj
    refine ⟨_, 0, rfl, hs, fun i v hv => ?_⟩
    have hi : i < 6 := (List.getElem?_eq_some_iff.1 hv).1
    have := h0 (6 + i) v (by rw [List.getElem?_append_right (by show 6 ≤ 6 + i; omega)]; show (cellsT _)[6 + i - 6]? = _; rw [Nat.add_sub_cancel_left]; exact hv)
    simpa [Nat.add_assoc] using this
theorem awk_d (a : Option Addr) (w : World) (ha : RdT w a [hdA 1 1, hdA 2 1]) : Calls Try.prog 8 #[.slice a 2 2, .int .i64 1] w fun e w' => (∃ A c, e = .returned (.tuple #[.slice A 2 c, .int .i64 0]) ∧ RdDs w' A [⟨⟨1, 1, 1, 0⟩, ⟨1, 1, 1, 0⟩, [hdA 1 1]⟩, ⟨⟨1, 1, 1, 1⟩, ⟨2, 1000, 4, 65535⟩, [hdA 2 1]⟩]) ∧ Below w.heap.size w w' := by
  refine (describe_any [hdA 1 1, hdA 2 1] a 2 2 1 w ha (by simp) rfl (by simp) (by intro x hx; simp at hx; rcases hx with rfl | rfl <;> (unfold okH okI In64 hdA; simp))).mono ?_
  rintro e w' ⟨h1, _, hb⟩
  obtain ⟨A, n, c, rfl, hn, hc, hr⟩ := h1 ⟨by decide, by rfl⟩
  rw [show (1 : Int).toNat = 1 from rfl, awk_desc] at hn hr
  have hn2 : n = 2 := hn
  subst hn2
  exact ⟨⟨A, c, rfl, hr⟩, hb⟩
theorem awk_a (a ah : Option Addr) (ch : Nat) (w : World) (ha : RdT w a [hdA 1 1, hdA 1 2]) (hh : RdT w ah [hdA 1 1]) (hc : 1 ≤ ch) (hcm : ch ≤ maxLen) : Calls Try.prog 13 #[.slice a 2 2, .agg #[.int .i64 3, .int .i64 0, .int .i64 0, .int .i64 0, .int .i64 0, .int .i64 0, .int .i64 0, .int .i64 0, .int .i64 0, .int .i64 0, .int .i64 0, .bool false, .bool false, .int .i64 0, .int .i64 0, .int .i64 0, .int .i64 0, .int .i64 0, .int .i64 0, .int .i64 0, .bool false, .slice none 0 0, .slice none 0 0, .int .i64 1, .int .i64 1, .int .i64 1, .int .i64 0, .int .i64 1, .int .i64 1, .int .i64 1, .int .i64 0, .slice ah 1 ch]] w fun e w' => (∃ A1 c1 A2 c2 A3 c3, e = .returned (.tuple #[.slice A1 0 c1, .slice A2 1 c2, .slice A3 0 c3])) ∧ Below w.heap.size w w' := by
  refine Calls.mono (answerD_any [hdA 1 1, hdA 1 2] a 2 2 ⟨⟨1, 1, 1, 0⟩, ⟨1, 1, 1, 0⟩, [hdA 1 1]⟩ ah ch 1 w ha (by simp) rfl (by simp) (by intro x hx; simp at hx; rcases hx with rfl | rfl <;> (unfold okH okI In64 hdA; simp)) ⟨by unfold rightT; decide, by unfold rightT; decide, by intro x hx; simp at hx; subst hx; rfl, by simp⟩ hh rfl hc hcm) ?_
  rintro e w' ⟨⟨A1, n1, c1, A2, n2, c2, A3, n3, c3, rfl, ⟨h1, _, _⟩, ⟨h2, _, _⟩, h3⟩, hb⟩
  have e1 : n1 = 0 := h1.trans (by rfl)
  have e2 : n2 = 1 := h2.trans (by rfl)
  have e3 : n3 = 0 := h3.trans (by rfl)
  subst e1 e2 e3
  exact ⟨⟨A1, c1, A2, c2, A3, c3, rfl⟩, hb⟩
set_option maxHeartbeats 16000000 in
set_option maxRecDepth 100000 in
theorem awake_any (w : World) : Calls Try.prog 7 #[] w fun e w' => e = .returned (.bool true) ∧ Below w.heap.size w w' := by
  have HH := Lib.hid head_any
  have HD := Lib.hid awk_d
  have HA := Lib.hid awk_a
  have T1 : True := trivial
  go_enter Try.func7, Try.ntmps7
  go_wp2_with (first
    | (go_at_call 16; have _t := T1; clear T1 _t; refine (HH.out _ _ _).mono ?_; rintro e w1 ⟨rfl, hb⟩; have B1 := Lib.hid hb; clear hb)
    | (go_at_call 16; refine (HH.out _ _ _).mono ?_; rintro e w2 ⟨rfl, hb⟩; have B2 := Lib.hid (B1.out.trans (hb.mono B1.out.size)); clear hb)
    | (go_at_call 8; refine (HD.out _ _ (rd_two (hdA 1 1) (hdA 2 1) (Below.refl _ _))).mono ?_; rintro e w3 ⟨⟨A, c, rfl, hr⟩, hb⟩; have R3 := Lib.hid hr; have B3 := Lib.hid ((B2.out.alloc B2.out.size _).trans (hb.mono (by have := B2.out.size; simp; omega))); clear hr hb))
  obtain ⟨g, o, pa, pc, rfl, hg, hc0, hr0, hp1, hpm⟩ := R3.out 0 _ rfl
  have hp : w3.rangeAt g o [.int .i64 3, .int .i64 0, .int .i64 0, .int .i64 0, .int .i64 0, .int .i64 0, .int .i64 0, .int .i64 0, .int .i64 0, .int .i64 0, .int .i64 0, .bool false, .bool false, .int .i64 0, .int .i64 0, .int .i64 0, .int .i64 0, .int .i64 0, .int .i64 0, .int .i64 0, .bool false, .slice none 0 0, .slice none 0 0, .int .i64 1, .int .i64 1, .int .i64 1, .int .i64 0, .int .i64 1, .int .i64 1, .int .i64 1, .int .i64 0, .slice pa 1 pc] := by have := hc0; rw [Nat.zero_mul, Nat.add_zero] at this; exact this
  have HP := Lib.hid hp
  have HG := Lib.hid hg
  have HR0 := Lib.hid hr0
  have HP1 := Lib.hid hp1
  have HPM := Lib.hid hpm
  have BD : Hid (Below w3.heap.size w3 w3.drew) := (Below.refl _ _).drew
  have HPW : Hid (∀ W, Below w3.heap.size w3 W → W.rangeAt g o [.int .i64 3, .int .i64 0, .int .i64 0, .int .i64 0, .int .i64 0, .int .i64 0, .int .i64 0, .int .i64 0, .int .i64 0, .int .i64 0, .int .i64 0, .bool false, .bool false, .int .i64 0, .int .i64 0, .int .i64 0, .int .i64 0, .int .i64 0, .int .i64 0, .int .i64 0, .bool false, .slice none 0 0, .slice none 0 0, .int .i64 1, .int .i64 1, .int .i64 1, .int .i64 0, .int .i64 1, .int .i64 1, .int .i64 1, .int .i64 0, .slice pa 1 pc]) := fun W hb j v hv => (hb.cell (p := ⟨g, _, none⟩) HG.out).trans (HP.out j v hv)
  clear hc0 hr0 hp1 hpm hp hg
  refine wp_region_held_drew (S := (fun w' : World => w'.rangeAt g o [.int .i64 3, .int .i64 0, .int .i64 0, .int .i64 0, .int .i64 0, .int .i64 0, .int .i64 0, .int .i64 0, .int .i64 0, .int .i64 0, .int .i64 0, .bool false, .bool false, .int .i64 0, .int .i64 0, .int .i64 0, .int .i64 0, .int .i64 0, .int .i64 0, .int .i64 0, .bool false, .slice none 0 0, .slice none 0 0, .int .i64 1, .int .i64 1, .int .i64 1, .int .i64 0, .int .i64 1, .int .i64 1, .int .i64 1, .int .i64 0, .slice pa 1 pc])) (by kernel_rfl) (HPW.out _ BD.out) (fun hHeld => ?_)
  refine takeD (i := 3) (d := 24) (v := ?v3) rfl rfl (by kernel_rfl) (by kernel_rfl) (by kernel_rfl) (fun _ _ _ h => h) rfl ?h3 (by assumption) ?r3
  case h3 =>
    intro w hSw
    go_simp
    try with_reducible rfl
  simp only [List.setIfInBounds_toArray, List.set_cons_zero, List.set_cons_succ]
  refine takeD (i := 4) (d := 25) (v := ?v4) rfl rfl (by kernel_rfl) (by kernel_rfl) (by kernel_rfl) (fun _ _ _ h => h) rfl ?h4 (by assumption) ?r4
  case h4 =>
    intro w hSw
    go_simp
    try with_reducible rfl
  simp only [List.setIfInBounds_toArray, List.set_cons_zero, List.set_cons_succ]
  refine takeLoad (i := 5) (d := 26) rfl rfl (by kernel_rfl) (by kernel_rfl) (by kernel_rfl) (by rfl) 40 (.tmp 25) rfl g o rfl [.int .i64 3, .int .i64 0, .int .i64 0, .int .i64 0, .int .i64 0, .int .i64 0, .int .i64 0, .int .i64 0, .int .i64 0, .int .i64 0, .int .i64 0, .bool false, .bool false, .int .i64 0, .int .i64 0, .int .i64 0, .int .i64 0, .int .i64 0, .int .i64 0, .int .i64 0, .bool false, .slice none 0 0, .slice none 0 0, .int .i64 1, .int .i64 1, .int .i64 1, .int .i64 0, .int .i64 1, .int .i64 1, .int .i64 1, .int .i64 0, .slice pa 1 pc] _ (fun w h => h) Try.underlying40 rfl (by kernel_rfl) (fun _ _ _ h => h) (by assumption) ?_
  simp only [List.setIfInBounds_toArray, List.set_cons_zero, List.set_cons_succ]
  refine wpAnyH_ready (rs := [0]) (by kernel_rfl) (by simp) ?_
  refine AllReadyH.cons rfl (fun K hK => ?_) AllReadyH.nil
  go_simp
  go_wp2_with (first | (go_at_call 16; refine (HH.out _ _ _).mono ?_; rintro e w5 ⟨rfl, hb⟩; have B5 := Lib.hid (BD.out.trans (hb.mono BD.out.size)); clear hb))
  refine hK.out _ _ (HPW.out _ B5.out) (fun hHeld => ?_)
  clear hK K
  refine wpAnyH_ready (rs := [1]) (by kernel_rfl) (by simp) ?_
  refine AllReadyH.cons rfl (fun K hK => ?_) AllReadyH.nil
  go_simp
  go_wp2_with (first | (go_at_call 16; refine (HH.out _ _ _).mono ?_; rintro e w6 ⟨rfl, hb⟩; have B6 := Lib.hid (B5.out.trans (hb.mono B5.out.size)); clear hb))
  refine hK.out _ _ (HPW.out _ B6.out) (fun hHeld => ?_)
  clear hK K
  refine wpAnyH_ready (rs := [2]) (by kernel_rfl) (by simp) ?_
  refine AllReadyH.cons rfl (fun K hK => ?_) AllReadyH.nil
  go_simp
  refine hK.out _ _ (HPW.out _ (B6.out.alloc B6.out.size _)) (fun hHeld => ?_)
  clear hK K
  refine wpAnyH_ready (rs := [6]) (by kernel_rfl) (by simp) ?_
  refine AllReadyH.cons rfl (fun K hK => ?_) AllReadyH.nil
  go_simp
  go_wp2_with (first | (go_at_call 13; refine (HA.out _ _ _ _ (rd_two (hdA 1 1) (hdA 1 2) (Below.refl _ _)) (HR0.out.below (B6.out.alloc B6.out.size _)) HP1.out HPM.out).mono ?_; rintro e w7 ⟨⟨A1, c1, A2, c2, A3, c3, rfl⟩, hb⟩; have B7 := Lib.hid ((B6.out.alloc B6.out.size _).trans (hb.mono (by have := B6.out.size; simp; omega))); clear hb))
  refine hK.out _ _ (HPW.out _ B7.out) (fun hHeld => ?_)
  clear hK K
  refine takeD (i := 7) (d := 20) (v := ?v7) rfl rfl (by kernel_rfl) (by kernel_rfl) (by kernel_rfl) (fun _ _ _ h => h) rfl ?h7 (by assumption) ?r7
  case h7 =>
    intro w hSw
    go_simp
    try with_reducible rfl
  simp only [List.setIfInBounds_toArray, List.set_cons_zero, List.set_cons_succ]
  refine takeD (i := 8) (d := 28) (v := ?v8) rfl rfl (by kernel_rfl) (by kernel_rfl) (by kernel_rfl) (fun _ _ _ h => h) rfl ?h8 (by assumption) ?r8
  case h8 =>
    intro w hSw
    go_simp
    try with_reducible rfl
  simp only [List.setIfInBounds_toArray, List.set_cons_zero, List.set_cons_succ]
  refine takeD (i := 9) (d := 29) (v := ?v9) rfl rfl (by kernel_rfl) (by kernel_rfl) (by kernel_rfl) (fun _ _ _ h => h) rfl ?h9 (by assumption) ?r9
  case h9 =>
    intro w hSw
    go_simp
    try with_reducible rfl
  simp only [List.setIfInBounds_toArray, List.set_cons_zero, List.set_cons_succ]
  refine takeD (i := 10) (d := 30) (v := ?v10) rfl rfl (by kernel_rfl) (by kernel_rfl) (by kernel_rfl) (fun _ _ _ h => h) rfl ?h10 (by assumption) ?r10
  case h10 =>
    intro w hSw
    go_simp
    try with_reducible rfl
  simp only [List.setIfInBounds_toArray, List.set_cons_zero, List.set_cons_succ]
  refine takeD (i := 11) (d := 3) (v := ?v11) rfl rfl (by kernel_rfl) (by kernel_rfl) (by kernel_rfl) (fun _ _ _ h => h) rfl ?h11 (by assumption) ?r11
  case h11 =>
    intro w hSw
    go_simp
    try with_reducible rfl
  simp only [List.setIfInBounds_toArray, List.set_cons_zero, List.set_cons_succ]
  refine takeD (i := 12) (d := 4) (v := ?v12) rfl rfl (by kernel_rfl) (by kernel_rfl) (by kernel_rfl) (fun _ _ _ h => h) rfl ?h12 (by assumption) ?r12
  case h12 =>
    intro w hSw
    go_simp
    try with_reducible rfl
  simp only [List.setIfInBounds_toArray, List.set_cons_zero, List.set_cons_succ]
  refine takeD (i := 13) (d := 5) (v := ?v13) rfl rfl (by kernel_rfl) (by kernel_rfl) (by kernel_rfl) (fun _ _ _ h => h) rfl ?h13 (by assumption) ?r13
  case h13 =>
    intro w hSw
    go_simp
    try with_reducible rfl
  simp only [List.setIfInBounds_toArray, List.set_cons_zero, List.set_cons_succ]
  refine wpAnyH_done (by kernel_rfl) ?_ _
  clear hHeld
  obtain ⟨g', o', pa', pc', e1, hg', hc0', _⟩ := (R3.out.below B7.out) 0 _ rfl
  cases e1
  obtain ⟨g2, o2, pa2, pc2, e2, hg2, hc1, _⟩ := (R3.out.below B7.out) 1 _ rfl
  cases e2
  have a0 := hc0' 23 _ rfl
  have a1 := hc0' 24 _ rfl
  have a2 := hc0' 25 _ rfl
  have a3 := hc0' 26 _ rfl
  have t0 := hc1 27 _ rfl
  have t1 := hc1 28 _ rfl
  have t2 := hc1 29 _ rfl
  have t3 := hc1 30 _ rfl
  simp only [Nat.zero_mul, Nat.one_mul, Nat.add_zero] at a0 a1 a2 a3 t0 t1 t2 t3
  have L7 : Hid (g < w7.heap.size) := hg'
  clear hc0' hc1 hg2 hg'
  have HFI := Lib.hid pfirst_any
  have HLA := Lib.hid plast_any
  have BB := B3.out
  go_wp2
  go_region_held (fun W => W.cell? ⟨g, o + 23, none⟩ = some (.int .i64 1) ∧ W.cell? ⟨g, o + 24, none⟩ = some (.int .i64 1) ∧ W.cell? ⟨g, o + 25, none⟩ = some (.int .i64 1) ∧ W.cell? ⟨g, o + 26, none⟩ = some (.int .i64 0) ∧ W.cell? ⟨g, o + 32 + 27, none⟩ = some (.int .i64 2) ∧ W.cell? ⟨g, o + 32 + 28, none⟩ = some (.int .i64 1000) ∧ W.cell? ⟨g, o + 32 + 29, none⟩ = some (.int .i64 4) ∧ W.cell? ⟨g, o + 32 + 30, none⟩ = some (.int .i64 65535)) (first | exact ⟨a0, a1, a2, a3, t0, t1, t2, t3⟩ | exact ⟨by assumption, by assumption, by assumption, by assumption, by assumption, by assumption, by assumption, by assumption⟩) (first | (go_at_call 17; refine (HFI.out _).mono ?_; rintro e w8 ⟨rfl, hb8⟩; have c0 := (hb8.cell (p := ⟨g, o + 23, none⟩) L7).trans a0; have c1 := (hb8.cell (p := ⟨g, o + 24, none⟩) L7).trans a1; have c2 := (hb8.cell (p := ⟨g, o + 25, none⟩) L7).trans a2; have c3 := (hb8.cell (p := ⟨g, o + 26, none⟩) L7).trans a3; have c4 := (hb8.cell (p := ⟨g, o + 32 + 27, none⟩) L7).trans t0; have c5 := (hb8.cell (p := ⟨g, o + 32 + 28, none⟩) L7).trans t1; have c6 := (hb8.cell (p := ⟨g, o + 32 + 29, none⟩) L7).trans t2; have c7 := (hb8.cell (p := ⟨g, o + 32 + 30, none⟩) L7).trans t3; have L8 := Nat.lt_of_lt_of_le L7 hb8.size; have B8 := Lib.hid (B7.out.drew.trans (hb8.mono B7.out.size)); clear hb8) | (go_at_call 18; refine (HLA.out _).mono ?_; rintro e w9 ⟨rfl, hb9⟩; have d0 := (hb9.cell (p := ⟨g, o + 23, none⟩) L8).trans c0; have d1 := (hb9.cell (p := ⟨g, o + 24, none⟩) L8).trans c1; have d2 := (hb9.cell (p := ⟨g, o + 25, none⟩) L8).trans c2; have d3 := (hb9.cell (p := ⟨g, o + 26, none⟩) L8).trans c3; have d4 := (hb9.cell (p := ⟨g, o + 32 + 27, none⟩) L8).trans c4; have d5 := (hb9.cell (p := ⟨g, o + 32 + 28, none⟩) L8).trans c5; have d6 := (hb9.cell (p := ⟨g, o + 32 + 29, none⟩) L8).trans c6; have d7 := (hb9.cell (p := ⟨g, o + 32 + 30, none⟩) L8).trans c7; have B9 := Lib.hid (B8.out.trans (hb9.mono B8.out.size)); clear hb9))
  go_wp2
  go_ret
  exact ⟨rfl, BB.trans (B9.out.mono BB.size)⟩
end Go.Proofs.Ytjfnpciecgemeaa.ti

namespace Go.Proofs.Ytjfnpciecgemeaa.ti
set_option linter.unusedSimpArgs false
set_option linter.unusedVariables false
open Go.RowKit
theorem ansM_eq (own : List THd) (per : Nat) (all : List THd) (k : Nat) : ansM own (dpT per all k) = (mergeT own []).filter fun x => inB (frmT per all k) (toT per all k) x.id := by
  unfold ansM
  rw [← merge_filter (fun i => cntB 3 (dpT per all k).frm (dpT per all k).to i) own]
  congr 1
  funext x
  exact cnt_tide
theorem grp_asc {per : Nat} {all : List THd} (h : AscT all) (k : Nat) : AscT (grpT per all k) := List.Pairwise.sublist ((List.take_sublist _ _).trans (List.drop_sublist _ _)) h
theorem ansT_eq {per : Nat} (hp : 0 < per) {all : List THd} (H : AllR all) {k : Nat} (hk : k < cntT per all.length) : ansT (dpT per all k) = grpT per all k := by
  unfold ansT
  have : ((dpT per all k).hs.filter fun x => cntB 3 (dpT per all k).frm (dpT per all k).to x.id) = grpT per all k := List.filter_eq_self.2 fun x hx => by
    rw [cnt_tide, inB_is]
    exact grp_in hp H hk hx
  rw [this, merge_nil (grp_asc H.1 k)]
theorem may_all {l : List THd} {per : Int} (h : mayD l per) : AllR (mergeT l []) ∧ ∀ x ∈ mergeT l [], rgtH x = true := by
  have hr : ∀ x ∈ mergeT l [], rgtH x = true := fold_all (P := fun x => rgtH x = true) (l ++ []) (l := []) (by simp) (fun y hy => by rw [List.append_nil] at hy; exact List.all_eq_true.1 h.2 y hy)
  exact ⟨⟨merge_asc _ _, fun x hx => rgtH_id (hr x hx)⟩, hr⟩
theorem flat_congr {α β : Type} (l : List α) {f g : α → List β} (h : ∀ x ∈ l, f x = g x) : l.flatMap f = l.flatMap g := by
  induction l with
  | nil => rfl
  | cons x l ih => rw [List.flatMap_cons, List.flatMap_cons, h x (by simp), ih fun y hy => h y (by simp [hy])]
theorem self_find {g : List THd} (h : AscT g) : g.flatMap (askF g g) = [] ∧ g.flatMap (sendF true g g) = [] ∧ g.flatMap (knowF g g) = g.map THd.id := by
  have key : ∀ x ∈ g, askF g g x = [] ∧ sendF true g g x = [] ∧ knowF g g x = [x.id] := fun x hx => by
    unfold askF sendF knowF
    rw [findT_some h hx]
    simp [new_self]
  refine ⟨?_, ?_, ?_⟩
  · exact List.flatMap_eq_nil_iff.2 fun x hx => (key x hx).1
  · exact List.flatMap_eq_nil_iff.2 fun x hx => (key x hx).2.1
  · rw [List.map_eq_flatMap]
    exact flat_congr g (fun x hx => (key x hx).2.2)
theorem ans_same {l : List THd} {per : Nat} (hp : 0 < per) {all : List THd} (ha : mergeT l [] = all) (H : AllR all) {k : Nat} (hk : k < cntT per all.length) : ansA l (dpT per all k) = [] ∧ ansS l (dpT per all k) = [] ∧ (ansK l (dpT per all k)).length = (grpT per all k).length := by
  have e1 : ansM l (dpT per all k) = grpT per all k := by rw [ansM_eq, ha, span_grp hp H hk]
  have e2 := ansT_eq hp H hk
  have hg := grp_asc (per := per) H.1 k
  obtain ⟨h1, h2, h3⟩ := self_find hg
  unfold ansA ansS ansK
  rw [e1, e2, merge_self hg, h1, h2, h3]
  simp
end Go.Proofs.Ytjfnpciecgemeaa.ti
