/-
  A NEIGHBOUR as data; the rules as data; what the rules' closures answer.
-/
import Derived.Test.YtbgilngpkogapaaVOwn
import Derived.Test.YtbgilngpkogapaaVArg
import Derived.BigQuiet
namespace Go.Proofs.Ytbgilngpkogapaa.ti
set_option linter.unusedSimpArgs false
set_option linter.unusedVariables false
open Go.RowKit
structure ScD where
  self : Int
  level : Int
  top : Bool
  node : Int
  link : Int
  olev : Int
  nonce : Int
def cellsSc (s : ScD) : List Value := [.int .i64 s.self, .int .i64 s.level, .bool s.top, .int .i64 s.node, .int .i64 s.link, .int .i64 s.olev, .int .i64 s.nonce]
def aggSc (s : ScD) : Value := .agg #[.int .i64 s.self, .int .i64 s.level, .bool s.top, .int .i64 s.node, .int .i64 s.link, .int .i64 s.olev, .int .i64 s.nonce]
def ofSelf (t : TiV) (s : ScD) : Bool := decide (t.hd.id.o = s.self)
def ofNode (t : TiV) : Bool := decide (t.hd.id.k = 1)
def reflG (t : TiV) (s : ScD) : Bool := ofNode t && (decide (t.level = s.olev) && (t.hd.id.o != s.node))
/-- Whether a piece may go. -/
def goesG (t : TiV) (s : ScD) : Bool :=
  if t.hd.id.d = 2 then decide (s.level < s.olev) || (decide (s.olev = s.level) && s.top)
  else if t.hd.id.d = 1 then
    (if s.level < s.olev then reflG t s else if s.olev = s.level then ofNode t && ofSelf t s else ofSelf t s)
  else false
/-- What the closures hold: the neighbour, two closures. -/
structure EnvG (W : World) (sb o1 o2 : Nat) (s : ScD) : Prop where
  s0 : Arr W sb 26 (cellsSc s)
  f1 : Arr W o1 49 [.func (.func 19) #[] #[.pointer (some ⟨sb, 0, none⟩)]]
  f2 : Arr W o2 49 [.func (.func 20) #[] #[]]
theorem EnvG.below {W W' : World} {sb o1 o2 : Nat} {s : ScD} (h : EnvG W sb o1 o2 s) (k : Below W.heap.size W W') : EnvG W' sb o1 o2 s := ⟨h.s0.below k h.s0.lt, h.f1.below k h.f1.lt, h.f2.below k h.f2.lt⟩
theorem EnvG.lt {W : World} {sb o1 o2 : Nat} {s : ScD} (h : EnvG W sb o1 o2 s) : sb < W.heap.size ∧ o1 < W.heap.size ∧ o2 < W.heap.size := ⟨h.s0.lt, h.f1.lt, h.f2.lt⟩
theorem wpList_load_g {P : Program} {ops : Array Oper} {rest : List Oper} {op : Oper} {a : Act} {w : World} {Q : Exit → Act → World → Prop} (ty : TypeId) (x : Operand) (ho : op.op = .load ty x)
    (g : Nat) (hx : a.eval x = .pointer (some ⟨g, 0, none⟩)) {t : TypeId} {vs : List Value} {d : TypeDesc} (hg : Arr w g t vs) (hu : P.underlying ty = some d) (hd : d.isRow = true) (hi : (P.info? ty).map (·.size) = some vs.length) (hw : Region.wanted op (yielded ops a.tmps) = true)
    (h : wpList P ops Q rest (a.put op.dst (.agg vs.toArray)) w) : wpList P ops Q (op :: rest) a w := by
  unfold wpList
  rw [if_pos hw]
  exact .inl (wp_load_mid ty x ho g 0 hx vs d hg.range hu hd hi h)
theorem below_box (W : World) (o : Obj) : Below W.heap.size W (W.alloc o) := (Below.refl _ _).alloc (Nat.le_refl _) _
set_option maxHeartbeats 1600000 in
set_option maxRecDepth 100000 in
theorem cl1_any (t : TiV) (l : Sl2) (sb o1 o2 : Nat) (s : ScD) (w : World) (h : EnvG w sb o1 o2 s) : Calls Try.prog 19 #[aggV t l, .pointer (some ⟨sb, 0, none⟩)] w fun e w' => e = .returned (.bool (ofSelf t s)) ∧ Below w.heap.size w w' := by
  have c0 : w.cell? ⟨sb, 0, none⟩ = some (.int .i64 s.self) := h.s0.cell 0
  have hl := h.lt.1
  clear h
  unfold aggV
  go_enter Try.func19, Try.ntmps19
  go_wp2
  go_ret
  exact ⟨rfl, below_box _ _⟩
set_option maxHeartbeats 1600000 in
set_option maxRecDepth 100000 in
theorem cl2_any (t : TiV) (l : Sl2) (w : World) : Calls Try.prog 20 #[aggV t l] w fun e w' => e = .returned (.bool (ofNode t)) ∧ Below w.heap.size w w' := by
  unfold aggV
  go_enter Try.func20, Try.ntmps20
  go_wp2
  go_ret
  exact ⟨rfl, below_box _ _⟩
set_option maxHeartbeats 1600000 in
set_option maxRecDepth 100000 in
theorem cl3_any (t : TiV) (l : Sl2) (w : World) : Calls Try.prog 21 #[aggV t l] w fun e w' => e = .returned (.bool true) ∧ Below w.heap.size w w' := by
  unfold aggV
  go_enter Try.func21, Try.ntmps21
  go_wp2
  go_ret
  exact ⟨rfl, below_box _ _⟩
set_option maxHeartbeats 1600000 in
set_option maxRecDepth 100000 in
theorem cl4_any (t : TiV) (l : Sl2) (sb o1 o2 : Nat) (s : ScD) (w : World) (h : EnvG w sb o1 o2 s) : Calls Try.prog 22 #[aggV t l, .pointer (some ⟨sb, 0, none⟩)] w fun e w' => e = .returned (.bool s.top) ∧ Below w.heap.size w w' := by
  have c0 : w.cell? ⟨sb, 2, none⟩ = some (.bool s.top) := h.s0.cell 2
  have hl := h.lt.1
  clear h
  unfold aggV
  go_enter Try.func22, Try.ntmps22
  go_wp2
  go_ret
  exact ⟨rfl, below_box _ _⟩
/-- A piece in a box. -/
theorem box_own (w : World) (t : TiV) (l : Sl2) : Hid (Arr (w.alloc (.cells #[.int .i64 t.hd.id.d, .int .i64 t.hd.id.o, .int .i64 t.hd.id.k, .int .i64 t.hd.id.n, .int .i64 t.hd.seq, .int .i64 t.hd.life, .int .i64 t.level, .bool t.over, .slice l.ea t.es.length l.ec, .slice l.ra t.rs.length l.rc] 35)) w.heap.size 35 (cellsV t l)) := Arr.new w 35 (cellsV t l)
set_option maxHeartbeats 1600000 in
set_option maxRecDepth 100000 in
theorem cl5_any (t : TiV) (l : Sl2) (sb o1 o2 : Nat) (s : ScD) (w : World) (h : EnvG w sb o1 o2 s) : Calls Try.prog 23 #[aggV t l, .pointer (some ⟨o2, 0, none⟩), .pointer (some ⟨o1, 0, none⟩)] w fun e w' => e = .returned (.bool (ofNode t && ofSelf t s)) ∧ Below w.heap.size w w' := by
  have HB := box_own w t l
  have B1 : Hid (Below w.heap.size w (w.alloc (.cells #[.int .i64 t.hd.id.d, .int .i64 t.hd.id.o, .int .i64 t.hd.id.k, .int .i64 t.hd.id.n, .int .i64 t.hd.seq, .int .i64 t.hd.life, .int .i64 t.level, .bool t.over, .slice l.ea t.es.length l.ec, .slice l.ra t.rs.length l.rc] 35))) := below_box _ _
  have HE : Hid (EnvG (w.alloc (.cells #[.int .i64 t.hd.id.d, .int .i64 t.hd.id.o, .int .i64 t.hd.id.k, .int .i64 t.hd.id.n, .int .i64 t.hd.seq, .int .i64 t.hd.life, .int .i64 t.level, .bool t.over, .slice l.ea t.es.length l.ec, .slice l.ra t.rs.length l.rc] 35)) sb o1 o2 s) := h.below (below_box _ _)
  have c1 : w.cell? ⟨o1, 0, none⟩ = some (.func (.func 19) #[] #[.pointer (some ⟨sb, 0, none⟩)]) := h.f1.cell 0
  have c2 : w.cell? ⟨o2, 0, none⟩ = some (.func (.func 20) #[] #[]) := h.f2.cell 0
  obtain ⟨hl0, hl1, hl2⟩ := h.lt
  clear h
  cases hk : ofNode t
  · have HK := Lib.hid hk
    clear hk
    unfold aggV
    go_enter Try.func23, Try.ntmps23
    go_wp2_with (first
      | (refine wpList_load_arr rfl 35 (.tmp 3) rfl w.heap.size rfl HB.out Try.underlying35 rfl sizeV rfl ?_)
      | (go_at_call 20; refine (cl2_any t l _).mono ?_; rintro e w2 ⟨rfl, hb2⟩; rw [HK.out]; have B2 := Lib.hid (B1.out.trans (hb2.mono B1.out.size)); have c12 : w2.cell? ⟨o1, 0, none⟩ = some (.func (.func 19) #[] #[.pointer (some ⟨sb, 0, none⟩)]) := (HE.out.below hb2).f1.cell 0; have HB2 := Lib.hid (HB.out.below hb2 HB.out.lt); have HE2 := Lib.hid (HE.out.below hb2); clear hb2))
    go_ret
    exact ⟨rfl, B2.out⟩
  · have HK := Lib.hid hk
    clear hk
    unfold aggV
    go_enter Try.func23, Try.ntmps23
    go_wp2_with (first
      | (refine wpList_load_arr rfl 35 (.tmp 3) rfl w.heap.size rfl HB.out Try.underlying35 rfl sizeV rfl ?_)
      | (go_at_call 20; refine (cl2_any t l _).mono ?_; rintro e w2 ⟨rfl, hb2⟩; rw [HK.out]; have B2 := Lib.hid (B1.out.trans (hb2.mono B1.out.size)); have c12 : w2.cell? ⟨o1, 0, none⟩ = some (.func (.func 19) #[] #[.pointer (some ⟨sb, 0, none⟩)]) := (HE.out.below hb2).f1.cell 0; have HB2 := Lib.hid (HB.out.below hb2 HB.out.lt); have HE2 := Lib.hid (HE.out.below hb2); clear hb2)
      | (refine wpList_load_g 35 (.tmp 3) rfl w.heap.size rfl HB2.out Try.underlying35 rfl sizeV rfl ?_)
      | (go_at_call 19; refine (cl1_any t l sb o1 o2 s _ HE2.out).mono ?_; rintro e w3 ⟨rfl, hb3⟩; have B3 := Lib.hid (B2.out.trans (hb3.mono B2.out.size)); clear hb3))
    go_ret
    exact ⟨by simp, B3.out⟩
set_option maxHeartbeats 1600000 in
set_option maxRecDepth 100000 in
theorem cl6_any (t : TiV) (l : Sl2) (sb o1 o2 : Nat) (s : ScD) (w : World) (h : EnvG w sb o1 o2 s) : Calls Try.prog 24 #[aggV t l, .pointer (some ⟨o2, 0, none⟩), .pointer (some ⟨sb, 0, none⟩)] w fun e w' => e = .returned (.bool (reflG t s)) ∧ Below w.heap.size w w' := by
  unfold reflG
  have HB := box_own w t l
  have B1 : Hid (Below w.heap.size w (w.alloc (.cells #[.int .i64 t.hd.id.d, .int .i64 t.hd.id.o, .int .i64 t.hd.id.k, .int .i64 t.hd.id.n, .int .i64 t.hd.seq, .int .i64 t.hd.life, .int .i64 t.level, .bool t.over, .slice l.ea t.es.length l.ec, .slice l.ra t.rs.length l.rc] 35))) := below_box _ _
  have HE : Hid (EnvG (w.alloc (.cells #[.int .i64 t.hd.id.d, .int .i64 t.hd.id.o, .int .i64 t.hd.id.k, .int .i64 t.hd.id.n, .int .i64 t.hd.seq, .int .i64 t.hd.life, .int .i64 t.level, .bool t.over, .slice l.ea t.es.length l.ec, .slice l.ra t.rs.length l.rc] 35)) sb o1 o2 s) := h.below (below_box _ _)
  have c1 : w.cell? ⟨o1, 0, none⟩ = some (.func (.func 19) #[] #[.pointer (some ⟨sb, 0, none⟩)]) := h.f1.cell 0
  have c2 : w.cell? ⟨o2, 0, none⟩ = some (.func (.func 20) #[] #[]) := h.f2.cell 0
  obtain ⟨hl0, hl1, hl2⟩ := h.lt
  have e6 : ∀ (W : World), EnvG W sb o1 o2 s → W.cell? ⟨sb, 5, none⟩ = some (.int .i64 s.olev) := fun W hW => hW.s0.cell 5
  have e3 : ∀ (W : World), EnvG W sb o1 o2 s → W.cell? ⟨sb, 3, none⟩ = some (.int .i64 s.node) := fun W hW => hW.s0.cell 3
  have E6 := Lib.hid e6
  have E3 := Lib.hid e3
  clear h e6 e3
  cases hk : ofNode t
  · have HK := Lib.hid hk
    clear hk
    unfold aggV
    go_enter Try.func24, Try.ntmps24
    go_wp2_with (first
      | (refine wpList_load_arr rfl 35 (.tmp 3) rfl w.heap.size rfl HB.out Try.underlying35 rfl sizeV rfl ?_)
      | (go_at_call 20; refine (cl2_any t l _).mono ?_; rintro e w2 ⟨rfl, hb2⟩; rw [HK.out]; have B2 := Lib.hid (B1.out.trans (hb2.mono B1.out.size)); have c12 : w2.cell? ⟨o1, 0, none⟩ = some (.func (.func 19) #[] #[.pointer (some ⟨sb, 0, none⟩)]) := (HE.out.below hb2).f1.cell 0; have HB2 := Lib.hid (HB.out.below hb2 HB.out.lt); have HE2 := Lib.hid (HE.out.below hb2); clear hb2))
    go_ret
    exact ⟨rfl, B2.out⟩
  · have HK := Lib.hid hk
    clear hk
    unfold aggV
    go_enter Try.func24, Try.ntmps24
    go_wp2_with (first
      | (refine wpList_load_arr rfl 35 (.tmp 3) rfl w.heap.size rfl HB.out Try.underlying35 rfl sizeV rfl ?_)
      | (go_at_call 20; refine (cl2_any t l _).mono ?_; rintro e w2 ⟨rfl, hb2⟩; rw [HK.out]; have B2 := Lib.hid (B1.out.trans (hb2.mono B1.out.size)); have c12 : w2.cell? ⟨o1, 0, none⟩ = some (.func (.func 19) #[] #[.pointer (some ⟨sb, 0, none⟩)]) := (HE.out.below hb2).f1.cell 0; have HB2 := Lib.hid (HB.out.below hb2 HB.out.lt); have HE2 := Lib.hid (HE.out.below hb2); have q6 := E6.out _ HE2.out; have q3 := E3.out _ HE2.out; have p6 : w2.cell? ⟨w.heap.size, 6, none⟩ = some (.int .i64 t.level) := HB2.out.cell 6; have p1 : w2.cell? ⟨w.heap.size, 1, none⟩ = some (.int .i64 t.hd.id.o) := HB2.out.cell 1; clear hb2))
    all_goals go_ret
    all_goals exact ⟨by simp_all, B2.out⟩

end Go.Proofs.Ytbgilngpkogapaa.ti
