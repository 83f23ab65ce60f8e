/-
  WRITE: a packet's fields, and whether it may be.
-/
import Derived.Test.YtpaooddmgcekhaaGreatWPack
import Derived.Test.YtpaooddmgcekhaaGreatWWriter
import Derived.Test.YtpaooddmgcekhaaGreatWUnused
import Derived.BigQuiet
import Derived.Deep.RegionHeld
import Derived.Deep.MidRow
namespace Go.Proofs.YtpaooddmgcekhaaGreat
open Go.RowKit Go.Shelf
set_option linter.unusedVariables false

/-- The writer's traversal, from block n on. -/
def wEnv (n : Nat) : Env (List It) := { M := wMac, g1 := 64, g2 := 65, g3 := 66, g4 := 67, bt := n + 1 + 1, bw := n + 1, base := n, inv := WInv n (n + 1), len := List.length }
theorem wEnv_ok (n : Nat) : (wEnv n).Ok where
  e1 := enters_of Tryz.func64 (by kernel_rfl) rfl
  e2 := enters_of Tryz.func65 (by kernel_rfl) rfl
  e3 := enters_of Tryz.func66 (by kernel_rfl) rfl
  e4 := enters_of Tryz.func67 (by kernel_rfl) rfl
  le := by show n ≤ n + 1 + 1; omega
  lnum := fun s id k => by show (s ++ [_]).length ≤ s.length + 1; simp
  lopn := fun s id => by show (s ++ [_]).length ≤ s.length + 1; simp
  lfin := fun s => by show (s ++ [_]).length ≤ s.length + 1; simp
  calm := fun s W W' h k => WInv.calm h k
  num := fun s id k B off W h hl ha => by
    refine (writer_number n (n + 1) s id k B off W h hl (ha.cell0 rfl)).mono ?_
    rintro e w' ⟨h1, h2, h3, h4⟩
    exact ⟨h1, h2, h3.chg B off (off + 1), ha.keep h3, h4⟩
  opn := fun s id W h hl => writer_open n (n + 1) s id W h hl
  fin := fun s W h hl => writer_end n (n + 1) s W h hl
  more := fun s id is W h => by
    refine (writer_more (n + 1) id is W).mono ?_
    rintro e w' ⟨h1, rfl⟩
    exact ⟨h1, h, Keep.refl _ _, fun _ _ _ hk => hk⟩

/-- A packet that came in. -/
structure Pk (n₀ : Nat) (W : World) (p : PackT) (ae ar ah : Option Addr) (ce cr ch : Nat) : Prop where
  re : RdR 3 encEdge n₀ W ae p.tie.edges
  rr : RdR 3 encReach n₀ W ar p.tie.reaches
  rh : RdR 6 encHead n₀ W ah p.heads
  le : p.tie.edges.length ≤ 140737488351232 ∧ p.tie.edges.length ≤ ce ∧ ce ≤ maxLen
  lr : p.tie.reaches.length ≤ 140737488351232 ∧ p.tie.reaches.length ≤ cr ∧ cr ≤ maxLen
  lh : p.heads.length ≤ 140737488351232 ∧ p.heads.length ≤ ch ∧ ch ≤ maxLen
  ok : ∀ y ∈ p.tie.reaches, 0 ≤ y.net ∧ y.net < 4294967296
theorem Pk.below {n₀ : Nat} {W W' : World} {p : PackT} {ae ar ah : Option Addr} {ce cr ch : Nat} (h : Pk n₀ W p ae ar ah ce cr ch) (hb : Below n₀ W W') : Pk n₀ W' p ae ar ah ce cr ch := ⟨h.re.below hb, h.rr.below hb, h.rh.below hb, h.le, h.lr, h.lh, h.ok⟩
theorem Pk.mono {n₀ n₁ : Nat} {W : World} {p : PackT} {ae ar ah : Option Addr} {ce cr ch : Nat} (h : Pk n₀ W p ae ar ah ce cr ch) (hn : n₀ ≤ n₁) : Pk n₁ W p ae ar ah ce cr ch := ⟨h.re.mono hn, h.rr.mono hn, h.rh.mono hn, h.le, h.lr, h.lh, h.ok⟩

/-- The fields that were written lie in a row of one's own. -/
def WrOut (p : PackT) (w : World) (e : Ending) (w' : World) : Prop :=
  ∃ v, e = .returned (.tuple #[v, .bool (rightW p)]) ∧ w'.ownsRow w.heap.size 146 4 v (packI (packC p)).length ((packI (packC p)).flatMap encIt) ∧ Below w.heap.size w w'
theorem own_same {n₀ : Nat} {W W' : World} {e : TypeId} {size n : Nat} {v : Value} {xs : List Value} (h : W.ownsRow n₀ e size v n xs) (hb : Below W.heap.size W W') : W'.ownsRow n₀ e size v n xs := by
  obtain ⟨h1, h2⟩ := h
  refine ⟨h1, ?_⟩
  rcases h2 with h2 | ⟨g, cap, cur, hv, hg, hh, r⟩
  · exact .inl h2
  · exact .inr ⟨g, cap, cur, hv, hg, (hb.block g (lt_of_block hh)).trans hh, r⟩

theorem below_drewN {B : Nat} {W W' : World} (h : Below B W W') (n : Nat) : Below B W (W'.drewN n) := ⟨h.os, h.tape, h.output, h.size, h.block⟩
theorem below_drawn {B : Nat} {W W' : World} (h : Below B W.drew W') : Below B W W' := ⟨h.os, h.tape, h.output, h.size, h.block⟩
/-- Take a load, or a value, first: the slot that it writes is named. -/
theorem takeD {P : Program} {ops : Array Oper} {Q : Exit → Act → World → Prop} {md : Region.Mode} {S : World → Prop} {i d : Nat} {oi : Oper} {v : Value} {fuel : Nat} {listed : Array Bool} {ts : Array Value} {df : List Deferred} {w : World} (hi : ops[i]? = some oi) (hd : oi.dst = some d)
    (hs : Region.noSelect ops = true) (hf : Region.free md ops listed i = true) (hr : (Region.ready md ops listed).contains i = true)
    (hQ : ∀ c a w, Q (.panic c) (a.put oi.dst v) w → Q (.panic c) a w) (hg : oi.guard = none) (hy : ∀ w, S w → (execOp (Act.eval { tmps := ts, defers := df }) oi).run P w = .ok (.value v) w) (hS : S w)
    (h : wpAnyH P md ops Q S fuel (listed.setIfInBounds i true) { tmps := ts.setIfInBounds d v, defers := df } w) : wpAnyH P md ops Q S (fuel + 1) listed { tmps := ts, defers := df } w := by
  refine wpAnyH_take hi hs hf hr hQ (.inl ⟨by simp [Region.wanted, hg], hy⟩) hS ?_
  unfold Act.put
  rw [hd]
  exact h
/-- A whole variable is read, in a step of such a region. -/
theorem stepLoad {P : Program} {ops : Array Oper} {o : Oper} {ts : Array Value} {df : List Deferred} {w : World} {K : Act → World → Prop} {Q : Exit → Act → World → Prop} {E : Prop} (d : Nat) (hd : o.dst = some d) (ty : TypeId) (x : Operand) (ho : o.op = .load ty x) (hw : Region.wanted o (yielded ops ts) = true)
    (b f : Nat) (hx : Act.eval { tmps := ts, defers := df } x = .pointer (some ⟨b, f, none⟩)) (cs : List Value) (dd : TypeDesc) (hc : w.rangeAt b f cs)
    (hu : P.underlying ty = some dd) (hdd : dd.isRow = true) (hi : (P.info? ty).map (·.size) = some cs.length)
    (h : K { tmps := ts.setIfInBounds d (.agg cs.toArray), defers := df } w) : if Region.wanted o (yielded ops (Act.tmps { tmps := ts, defers := df })) = true then Oper.wp P o { tmps := ts, defers := df } w K Q else E := by
  rw [if_pos hw]
  refine wp_load_mid ty x ho b f hx cs dd hc hu hdd hi ?_
  unfold Act.put
  rw [hd]
  exact h
/-- A block that is known whole. -/
theorem full_cells {base B : Nat} {W W' : World} {vs : List Value} {cs : Array Value} {t : TypeId} {lo hi : Nat} (k : Chg base B lo hi W W') (h : W.heap[B]? = some (.cells cs t (0, 0))) (ht : keepT t = true) (ha : At base W' B 0 vs) (hl : vs.length = cs.size) : ∀ i, W'.cell? ⟨B, i, none⟩ = vs.toArray[i]? := by
  obtain ⟨c1, e1, s1, _⟩ := k.at_ cs t _ h ht
  obtain ⟨_, c2, t2, e2, _, hc⟩ := ha
  rw [e1] at e2
  injection e2 with e2
  injection e2 with e2 e3
  subst e2 e3
  intro i
  rw [cell_of_row W' B i c1 t (0, 0) e1]
  rcases Nat.lt_or_ge i vs.length with hi | hi
  · have := hc i _ (List.getElem?_eq_getElem hi)
    rw [Nat.zero_add] at this
    rw [this]
    simp [hi]
  · rw [Array.getElem?_eq_none (by omega), Array.getElem?_eq_none (by simpa using hi)]
theorem run_store_fnv {P : Program} {w : World} {a : Addr} {m : Mode} (f : Fn) (x y : Array Value) : (store a (.func f x y) m).run P w = stored P w a (.func f x y) m := run_store P w a _ m rfl
attribute [local go_sem] run_store_fnv
set_option maxRecDepth 100000 in
set_option maxHeartbeats 8000000 in
theorem write_any (p : PackT) (ae ar ah : Option Addr) (ce cr ch : Nat) (w : World) (hp : Pk w.heap.size w p ae ar ah ce cr ch) :
    Calls Tryz.prog 50 #[.agg #[.int .i64 p.kind, .int .i64 p.lie.node, .int .i64 p.lie.level, .int .i64 p.lie.pod, .int .i64 p.lie.mtu, .int .i64 p.lie.link, .int .i64 p.lie.nonce, .int .i64 p.lie.seen, .int .i64 p.lie.seenLink, .int .i64 p.lie.seenNonce, .int .i64 p.lie.hold, .bool p.lie.rep, .bool p.lie.noOffer, .int .i64 p.tie.head.id.dir, .int .i64 p.tie.head.id.orig, .int .i64 p.tie.head.id.kind, .int .i64 p.tie.head.id.nr, .int .i64 p.tie.head.seq, .int .i64 p.tie.head.life, .int .i64 p.tie.level, .bool p.tie.over, .slice ae p.tie.edges.length ce, .slice ar p.tie.reaches.length cr, .int .i64 p.frm.dir, .int .i64 p.frm.orig, .int .i64 p.frm.kind, .int .i64 p.frm.nr, .int .i64 p.to.dir, .int .i64 p.to.orig, .int .i64 p.to.kind, .int .i64 p.to.nr, .slice ah p.heads.length ch]] w (WrOut p w) := by
  have hB0 := (Below.refl w.heap.size w).alloc (Nat.le_refl _) (.cells #[.int .i64 p.kind, .int .i64 p.lie.node, .int .i64 p.lie.level, .int .i64 p.lie.pod, .int .i64 p.lie.mtu, .int .i64 p.lie.link, .int .i64 p.lie.nonce, .int .i64 p.lie.seen, .int .i64 p.lie.seenLink, .int .i64 p.lie.seenNonce, .int .i64 p.lie.hold, .bool p.lie.rep, .bool p.lie.noOffer, .int .i64 p.tie.head.id.dir, .int .i64 p.tie.head.id.orig, .int .i64 p.tie.head.id.kind, .int .i64 p.tie.head.id.nr, .int .i64 p.tie.head.seq, .int .i64 p.tie.head.life, .int .i64 p.tie.level, .bool p.tie.over, .slice ae p.tie.edges.length ce, .slice ar p.tie.reaches.length cr, .int .i64 p.frm.dir, .int .i64 p.frm.orig, .int .i64 p.frm.kind, .int .i64 p.frm.nr, .int .i64 p.to.dir, .int .i64 p.to.orig, .int .i64 p.to.kind, .int .i64 p.to.nr, .slice ah p.heads.length ch] 84)
  have hB1 := hB0.alloc (by simp) (.cells #[.slice none 0 0] 123)
  have hB2 := hB1.alloc (by simp; omega) (.cells ((wEnv w.heap.size).cells false) 127)
  have A0 := (((At.new w.heap.size w (Nat.le_refl _) (encPack p (.slice ae p.tie.edges.length ce) (.slice ar p.tie.reaches.length cr) (.slice ah p.heads.length ch)) 84 rfl).alloc (by simp) (.cells #[.slice none 0 0] 123)).alloc (by simp; omega) (.cells ((wEnv w.heap.size).cells false) 127))
  have S0 : (wEnv w.heap.size).St (0 + 700) (([], false) : List It × Bool) (((w.alloc (.cells #[.int .i64 p.kind, .int .i64 p.lie.node, .int .i64 p.lie.level, .int .i64 p.lie.pod, .int .i64 p.lie.mtu, .int .i64 p.lie.link, .int .i64 p.lie.nonce, .int .i64 p.lie.seen, .int .i64 p.lie.seenLink, .int .i64 p.lie.seenNonce, .int .i64 p.lie.hold, .bool p.lie.rep, .bool p.lie.noOffer, .int .i64 p.tie.head.id.dir, .int .i64 p.tie.head.id.orig, .int .i64 p.tie.head.id.kind, .int .i64 p.tie.head.id.nr, .int .i64 p.tie.head.seq, .int .i64 p.tie.head.life, .int .i64 p.tie.level, .bool p.tie.over, .slice ae p.tie.edges.length ce, .slice ar p.tie.reaches.length cr, .int .i64 p.frm.dir, .int .i64 p.frm.orig, .int .i64 p.frm.kind, .int .i64 p.frm.nr, .int .i64 p.to.dir, .int .i64 p.to.orig, .int .i64 p.to.kind, .int .i64 p.to.nr, .slice ah p.heads.length ch] 84)).alloc (.cells #[.slice none 0 0] 123)).alloc (.cells ((wEnv w.heap.size).cells false) 127)) := by
    refine ⟨by show (0 : Nat) + (0 + 700) ≤ 100000; omega, ?_, ⟨by show w.heap.size ≤ w.heap.size + 1; omega, .slice none 0 0, ?_, World.ownsRow_nil _ _ _ _⟩⟩
    · show (((w.alloc (.cells #[.int .i64 p.kind, .int .i64 p.lie.node, .int .i64 p.lie.level, .int .i64 p.lie.pod, .int .i64 p.lie.mtu, .int .i64 p.lie.link, .int .i64 p.lie.nonce, .int .i64 p.lie.seen, .int .i64 p.lie.seenLink, .int .i64 p.lie.seenNonce, .int .i64 p.lie.hold, .bool p.lie.rep, .bool p.lie.noOffer, .int .i64 p.tie.head.id.dir, .int .i64 p.tie.head.id.orig, .int .i64 p.tie.head.id.kind, .int .i64 p.tie.head.id.nr, .int .i64 p.tie.head.seq, .int .i64 p.tie.head.life, .int .i64 p.tie.level, .bool p.tie.over, .slice ae p.tie.edges.length ce, .slice ar p.tie.reaches.length cr, .int .i64 p.frm.dir, .int .i64 p.frm.orig, .int .i64 p.frm.kind, .int .i64 p.frm.nr, .int .i64 p.to.dir, .int .i64 p.to.orig, .int .i64 p.to.kind, .int .i64 p.to.nr, .slice ah p.heads.length ch] 84)).alloc (.cells #[.slice none 0 0] 123)).alloc (.cells ((wEnv w.heap.size).cells false) 127)).heap[w.heap.size + 1 + 1]? = _
      have := World.alloc_heap_new ((w.alloc (.cells #[.int .i64 p.kind, .int .i64 p.lie.node, .int .i64 p.lie.level, .int .i64 p.lie.pod, .int .i64 p.lie.mtu, .int .i64 p.lie.link, .int .i64 p.lie.nonce, .int .i64 p.lie.seen, .int .i64 p.lie.seenLink, .int .i64 p.lie.seenNonce, .int .i64 p.lie.hold, .bool p.lie.rep, .bool p.lie.noOffer, .int .i64 p.tie.head.id.dir, .int .i64 p.tie.head.id.orig, .int .i64 p.tie.head.id.kind, .int .i64 p.tie.head.id.nr, .int .i64 p.tie.head.seq, .int .i64 p.tie.head.life, .int .i64 p.tie.level, .bool p.tie.over, .slice ae p.tie.edges.length ce, .slice ar p.tie.reaches.length cr, .int .i64 p.frm.dir, .int .i64 p.frm.orig, .int .i64 p.frm.kind, .int .i64 p.frm.nr, .int .i64 p.to.dir, .int .i64 p.to.orig, .int .i64 p.to.kind, .int .i64 p.to.nr, .slice ah p.heads.length ch] 84)).alloc (.cells #[.slice none 0 0] 123)) (.cells ((wEnv w.heap.size).cells false) 127)
      simpa using this
    · rw [Below.heap_alloc _ _ _ (by simp)]
      have := World.alloc_heap_new (w.alloc (.cells #[.int .i64 p.kind, .int .i64 p.lie.node, .int .i64 p.lie.level, .int .i64 p.lie.pod, .int .i64 p.lie.mtu, .int .i64 p.lie.link, .int .i64 p.lie.nonce, .int .i64 p.lie.seen, .int .i64 p.lie.seenLink, .int .i64 p.lie.seenNonce, .int .i64 p.lie.hold, .bool p.lie.rep, .bool p.lie.noOffer, .int .i64 p.tie.head.id.dir, .int .i64 p.tie.head.id.orig, .int .i64 p.tie.head.id.kind, .int .i64 p.tie.head.id.nr, .int .i64 p.tie.head.seq, .int .i64 p.tie.head.life, .int .i64 p.tie.level, .bool p.tie.over, .slice ae p.tie.edges.length ce, .slice ar p.tie.reaches.length cr, .int .i64 p.frm.dir, .int .i64 p.frm.orig, .int .i64 p.frm.kind, .int .i64 p.frm.nr, .int .i64 p.to.dir, .int .i64 p.to.orig, .int .i64 p.to.kind, .int .i64 p.to.nr, .slice ah p.heads.length ch] 84)) (.cells #[.slice none 0 0] 123)
      simpa using this
  have hm : packM (wEnv w.heap.size).M p ([], false) = (packC p, (packI (packC p), !packR p)) := by
    have h0 := wrt_pack (p := p) (fun r hr => hp.ok r hr) [] false
    simp at h0
    exact h0
  have B2 := Lib.hid hB2
  have PA := Lib.hid (packet_any (E := wEnv w.heap.size) (wEnv_ok _) w.heap.size 0 p (.slice ae p.tie.edges.length ce) (.slice ar p.tie.reaches.length cr) (.slice ah p.heads.length ch) hp.le.1 hp.lr.1 hp.lh.1 hp.ok ([], false) _ S0 A0
    ⟨_, _, rfl, hp.le.2.1, hp.le.2.2, (hp.re.below hB2)⟩ ⟨_, _, rfl, hp.lr.2.1, hp.lr.2.2, (hp.rr.below hB2)⟩ ⟨_, _, rfl, hp.lh.2.1, hp.lh.2.2, (hp.rh.below hB2)⟩)
  have HM := Lib.hid hm
  have HB := Lib.hid (show (((w.alloc (.cells #[.int .i64 p.kind, .int .i64 p.lie.node, .int .i64 p.lie.level, .int .i64 p.lie.pod, .int .i64 p.lie.mtu, .int .i64 p.lie.link, .int .i64 p.lie.nonce, .int .i64 p.lie.seen, .int .i64 p.lie.seenLink, .int .i64 p.lie.seenNonce, .int .i64 p.lie.hold, .bool p.lie.rep, .bool p.lie.noOffer, .int .i64 p.tie.head.id.dir, .int .i64 p.tie.head.id.orig, .int .i64 p.tie.head.id.kind, .int .i64 p.tie.head.id.nr, .int .i64 p.tie.head.seq, .int .i64 p.tie.head.life, .int .i64 p.tie.level, .bool p.tie.over, .slice ae p.tie.edges.length ce, .slice ar p.tie.reaches.length cr, .int .i64 p.frm.dir, .int .i64 p.frm.orig, .int .i64 p.frm.kind, .int .i64 p.frm.nr, .int .i64 p.to.dir, .int .i64 p.to.orig, .int .i64 p.to.kind, .int .i64 p.to.nr, .slice ah p.heads.length ch] 84)).alloc (.cells #[.slice none 0 0] 123)).alloc (.cells ((wEnv w.heap.size).cells false) 127)).heap[w.heap.size]? = some (.cells #[.int .i64 p.kind, .int .i64 p.lie.node, .int .i64 p.lie.level, .int .i64 p.lie.pod, .int .i64 p.lie.mtu, .int .i64 p.lie.link, .int .i64 p.lie.nonce, .int .i64 p.lie.seen, .int .i64 p.lie.seenLink, .int .i64 p.lie.seenNonce, .int .i64 p.lie.hold, .bool p.lie.rep, .bool p.lie.noOffer, .int .i64 p.tie.head.id.dir, .int .i64 p.tie.head.id.orig, .int .i64 p.tie.head.id.kind, .int .i64 p.tie.head.id.nr, .int .i64 p.tie.head.seq, .int .i64 p.tie.head.life, .int .i64 p.tie.level, .bool p.tie.over, .slice ae p.tie.edges.length ce, .slice ar p.tie.reaches.length cr, .int .i64 p.frm.dir, .int .i64 p.frm.orig, .int .i64 p.frm.kind, .int .i64 p.frm.nr, .int .i64 p.to.dir, .int .i64 p.to.orig, .int .i64 p.to.kind, .int .i64 p.to.nr, .slice ah p.heads.length ch] 84 (0, 0)) by
    rw [Below.heap_alloc _ _ _ (by simp; omega), Below.heap_alloc _ _ _ (by simp)]
    exact World.alloc_heap_new w _)
  obtain ⟨b, hb⟩ : ∃ b, packR p = b := ⟨_, rfl⟩
  have HR := Lib.hid hb
  clear hp hB0 hB1 hB2 A0 S0 hm hb
  cases b
  all_goals
   go_enter Tryz.func50, Tryz.ntmps50
   go_wp2_with (first
    | (go_at_call 68; refine PA.out.mono ?_; rintro e w1 ⟨ve, vr, vh, rfl, hs, hc, ha, hse, hsr, hsh, _⟩; rw [HM.out] at hs ha hse hsr hsh; rw [HR.out] at hs; have FC := Lib.hid (full_cells hc HB.out rfl ha rfl); obtain ⟨q, hq⟩ : ∃ q, packC p = q := ⟨_, rfl⟩; rw [hq] at hs ha hse hsr hsh FC; have HQ := Lib.hid hq; obtain ⟨Ae, Ce, rfl, _⟩ := hse; obtain ⟨Ar, Cr, rfl, _⟩ := hsr; obtain ⟨Ah, Ch, rfl, _⟩ := hsh; obtain ⟨_, htb, _, v, hbw, hown⟩ := hs; obtain ⟨A, n, c, rfl, hn⟩ := rowForm hown; have HOW := Lib.hid hown; have HNN := Lib.hid hn; have C1 := Lib.hid (B2.out.trans hc.bel); have i0 : w1.cell? ⟨w.heap.size + 1, 0, none⟩ = some (.slice A n c) := cell_of_row _ _ _ _ _ _ hbw; have t4 : w1.cell? ⟨w.heap.size + 1 + 1, 4, none⟩ = some (.bool _) := cell_of_row _ _ _ _ _ _ htb; have RG : RowKit.Hid (w1.drew.rangeAt w.heap.size 0 [.int .i64 q.kind, .int .i64 q.lie.node, .int .i64 q.lie.level, .int .i64 q.lie.pod, .int .i64 q.lie.mtu, .int .i64 q.lie.link, .int .i64 q.lie.nonce, .int .i64 q.lie.seen, .int .i64 q.lie.seenLink, .int .i64 q.lie.seenNonce, .int .i64 q.lie.hold, .bool q.lie.rep, .bool q.lie.noOffer, .int .i64 q.tie.head.id.dir, .int .i64 q.tie.head.id.orig, .int .i64 q.tie.head.id.kind, .int .i64 q.tie.head.id.nr, .int .i64 q.tie.head.seq, .int .i64 q.tie.head.life, .int .i64 q.tie.level, .bool q.tie.over, .slice Ae q.tie.edges.length Ce, .slice Ar q.tie.reaches.length Cr, .int .i64 q.frm.dir, .int .i64 q.frm.orig, .int .i64 q.frm.kind, .int .i64 q.frm.nr, .int .i64 q.to.dir, .int .i64 q.to.orig, .int .i64 q.to.kind, .int .i64 q.to.nr, .slice Ah q.heads.length Ch]) := fun j v hv => ha.cell j hv; have l2 := lt_of_block htb; clear hc ha hown hbw htb hn hq))
  · go_quiet (fail)
    go_wp2
    go_ret2
    have hq := HQ.out
    have hr := HR.out
    subst hq
    refine ⟨.slice A n c, by rw [show rightW p = false from by simp [rightW, hr]]; rfl, ?_, ?_⟩
    · exact own_same (own_less HOW.out (by show w.heap.size ≤ w.heap.size + 1 + 1; omega)) (below_drewN (Below.refl _ _) _)
    · exact below_drewN C1.out _
  · refine wp_region_held_drew (S := (fun w' => w'.cell? ⟨w.heap.size + 1, 0, none⟩ = some (.slice A n c) ∧ w'.cell? ⟨w.heap.size + 1 + 1, 4, none⟩ = some (.bool false))) (by kernel_rfl) ⟨i0, t4⟩ (fun hHeld => ?_)
    refine takeD (i := 0) (d := 12) (v := ?v0) rfl rfl (by kernel_rfl) (by kernel_rfl) (by kernel_rfl) (fun _ _ _ h => h) rfl ?h0 (by assumption) ?r0
    case h0 =>
      intro w hSw
      try dsimp only at hSw
      go_simp
      try with_reducible rfl
    simp only [List.setIfInBounds_toArray, List.set_cons_zero, List.set_cons_succ]
    refine takeD (i := 1) (d := 13) (v := ?v1) rfl rfl (by kernel_rfl) (by kernel_rfl) (by kernel_rfl) (fun _ _ _ h => h) rfl ?h1 (by assumption) ?r1
    case h1 =>
      intro w hSw
      try dsimp only at hSw
      go_simp
      try with_reducible rfl
    simp only [List.setIfInBounds_toArray, List.set_cons_zero, List.set_cons_succ]
    refine takeD (i := 2) (d := 14) (v := ?v2) rfl rfl (by kernel_rfl) (by kernel_rfl) (by kernel_rfl) (fun _ _ _ h => h) rfl ?h2 (by assumption) ?r2
    case h2 =>
      intro w hSw
      try dsimp only at hSw
      go_simp
      try with_reducible rfl
    simp only [List.setIfInBounds_toArray, List.set_cons_zero, List.set_cons_succ]
    refine takeD (i := 3) (d := 15) (v := ?v3) rfl rfl (by kernel_rfl) (by kernel_rfl) (by kernel_rfl) (fun _ _ _ h => h) rfl ?h3 (by assumption) ?r3
    case h3 =>
      intro w hSw
      try dsimp only at hSw
      go_simp
      try with_reducible rfl
    simp only [List.setIfInBounds_toArray, List.set_cons_zero, List.set_cons_succ]
    refine takeD (i := 4) (d := 16) (v := ?v4) rfl rfl (by kernel_rfl) (by kernel_rfl) (by kernel_rfl) (fun _ _ _ h => h) rfl ?h4 (by assumption) ?r4
    case h4 =>
      intro w hSw
      try dsimp only at hSw
      go_simp
      try with_reducible rfl
    simp only [List.setIfInBounds_toArray, List.set_cons_zero, List.set_cons_succ]
    refine takeD (i := 5) (d := 17) (v := ?v5) rfl rfl (by kernel_rfl) (by kernel_rfl) (by kernel_rfl) (fun _ _ _ h => h) rfl ?h5 (by assumption) ?r5
    case h5 =>
      intro w hSw
      try dsimp only at hSw
      go_simp
      try with_reducible rfl
    simp only [List.setIfInBounds_toArray, List.set_cons_zero, List.set_cons_succ]
    refine wpAnyH_ready (rs := [6]) (by kernel_rfl) (by simp) ?_
    refine AllReadyH.cons rfl (fun K hK => ?_) AllReadyH.nil
    refine stepLoad 18 rfl 84 (.tmp 1) rfl (by rfl) _ _ rfl _ _ RG.out Tryz.underlying84 rfl (by kernel_rfl) ?_
    simp only [List.setIfInBounds_toArray, List.set_cons_zero, List.set_cons_succ]
    refine hK.out _ _ (by assumption) (fun hHeld => ?_)
    clear hK K
    refine wpAnyH_ready (rs := [7]) (by kernel_rfl) (by simp) ?_
    refine AllReadyH.cons rfl (fun K hK => ?_) AllReadyH.nil
    go_simp
    go_wp2_with (first
      | (go_at_call 69; refine (unused_any q Ae Ar Ah Ce Cr Ch _).mono ?_; rintro e w2 ⟨rfl, hb2⟩; have i2 : w2.cell? ⟨w.heap.size + 1, 0, none⟩ = some (.slice A n c) := (hb2.cell (p := ⟨w.heap.size + 1, 0, none⟩) (show w.heap.size + 1 < w1.heap.size by simp [wEnv] at l2; omega)).trans i0; have t2 : w2.cell? ⟨w.heap.size + 1 + 1, 4, none⟩ = some (.bool false) := (hb2.cell (p := ⟨w.heap.size + 1 + 1, 4, none⟩) (show w.heap.size + 1 + 1 < w1.heap.size by simp [wEnv] at l2; omega)).trans t4; have HB2 := Lib.hid hb2; clear hb2))
    refine hK.out _ _ ⟨i2, t2⟩ (fun hHeld => ?_)
    clear hK K
    refine takeD (i := 8) (d := 20) (v := ?v8) rfl rfl (by kernel_rfl) (by kernel_rfl) (by kernel_rfl) (fun _ _ _ h => h) rfl ?h8 (by assumption) ?r8
    case h8 =>
      intro w hSw
      try dsimp only at hSw
      go_simp
      try with_reducible rfl
    simp only [List.setIfInBounds_toArray, List.set_cons_zero, List.set_cons_succ]
    refine takeD (i := 9) (d := 2) (v := ?v9) rfl rfl (by kernel_rfl) (by kernel_rfl) (by kernel_rfl) (fun _ _ _ h => h) rfl ?h9 (by assumption) ?r9
    case h9 =>
      intro w hSw
      try dsimp only at hSw
      go_simp
      try with_reducible rfl
    simp only [List.setIfInBounds_toArray, List.set_cons_zero, List.set_cons_succ]
    refine takeD (i := 10) (d := 3) (v := ?v10) rfl rfl (by kernel_rfl) (by kernel_rfl) (by kernel_rfl) (fun _ _ _ h => h) rfl ?h10 (by assumption) ?r10
    case h10 =>
      intro w hSw
      try dsimp only at hSw
      go_simp
      try with_reducible rfl
    simp only [List.setIfInBounds_toArray, List.set_cons_zero, List.set_cons_succ]
    refine wpAnyH_done (by kernel_rfl) ?_ _
    go_wp2
    go_ret2
    have hq := HQ.out
    have hr := HR.out
    have hn := HNN.out
    subst hq
    refine ⟨.slice A n c, by rw [unused_c, show rightW p = unusedB p from by simp [rightW, hr]]; rfl, ?_, C1.out.trans (below_drawn (HB2.out.mono (by have := C1.out.size; simpa using this)))⟩
    exact own_same (own_less HOW.out (by show w.heap.size ≤ w.heap.size + 1 + 1; omega)) (below_drawn (HB2.out.mono (by simp)))
end Go.Proofs.YtpaooddmgcekhaaGreat
