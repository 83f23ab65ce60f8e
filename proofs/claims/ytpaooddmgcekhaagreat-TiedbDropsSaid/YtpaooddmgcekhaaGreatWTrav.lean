/-
  THE TRAVERSAL's own functions, over any four functions that do as a machine says.
-/
import Derived.Test.YtpaooddmgcekhaaGreatWMem
import Derived.Test.YtpaooddmgcekhaaGreatLB
import Derived.Shelf.Abstract
namespace Go.Proofs.YtpaooddmgcekhaaGreat
open Go.RowKit Go.Shelf
set_option linter.unusedVariables false

/-- A traversal: its machine, its four functions, its block, that of the receiver, from which block on all is the call's own, how memory stands. -/
structure Env (σ : Type) where
  M : Mac σ
  g1 : FuncId
  g2 : FuncId
  g3 : FuncId
  g4 : FuncId
  bt : Nat
  bw : Nat
  base : Nat
  inv : σ → World → Prop
  len : σ → Nat

section
variable {σ : Type}
def ptr (b off : Nat) : Value := .pointer (some ⟨b, off, none⟩)
def Env.cells (E : Env σ) (wrong : Bool) : Array Value :=
  #[.func (.func E.g1) #[.pointer (some ⟨E.bw, 0, none⟩)] #[], .func (.func E.g2) #[.pointer (some ⟨E.bw, 0, none⟩)] #[], .func (.func E.g3) #[.pointer (some ⟨E.bw, 0, none⟩)] #[], .func (.func E.g4) #[.pointer (some ⟨E.bw, 0, none⟩)] #[], .bool wrong]
/-- How memory stands; r items more there may be. -/
structure Env.St (E : Env σ) (r : Nat) (t : σ × Bool) (W : World) : Prop where
  room : E.len t.1 + r ≤ 100000
  tb : W.heap[E.bt]? = some (.cells (E.cells t.2) 127 (0, 0))
  mi : E.inv t.1 W
/-- A traversal's block is as it was. -/
def TrK (W W' : World) : Prop := ∀ (k : Nat) (cs : Array Value) (z : Nat × Nat), W.heap[k]? = some (.cells cs 127 z) → W'.heap[k]? = some (.cells cs 127 z)
structure Env.Ok (E : Env σ) : Prop where
  e1 : Enters Tryz.prog E.g1
  e2 : Enters Tryz.prog E.g2
  e3 : Enters Tryz.prog E.g3
  e4 : Enters Tryz.prog E.g4
  le : E.base ≤ E.bt
  lnum : ∀ s id n, E.len (E.M.num s id n).2.2 ≤ E.len s + 1
  lopn : ∀ s id, E.len (E.M.opn s id).2 ≤ E.len s + 1
  lfin : ∀ s, E.len (E.M.fin s).2 ≤ E.len s + 1
  calm : ∀ s W W', E.inv s W → Calm E.base W W' → E.inv s W'
  num : ∀ s id n B off W, E.inv s W → E.len s + 1 ≤ 100000 → At E.base W B off [.int .i64 n] →
    Calls Tryz.prog E.g1 #[.pointer (some ⟨E.bw, 0, none⟩), .int .i64 id, .pointer (some ⟨B, off, none⟩)] W fun e w' => e = .returned (.bool (E.M.num s id n).1) ∧ E.inv (E.M.num s id n).2.2 w' ∧ Chg E.base B off (off + 1) W w' ∧ At E.base w' B off [.int .i64 (E.M.num s id n).2.1] ∧ TrK W w'
  opn : ∀ s id W, E.inv s W → E.len s + 1 ≤ 100000 →
    Calls Tryz.prog E.g2 #[.pointer (some ⟨E.bw, 0, none⟩), .int .i64 id] W fun e w' => e = .returned (.bool (E.M.opn s id).1) ∧ E.inv (E.M.opn s id).2 w' ∧ Keep E.base W w' ∧ TrK W w'
  fin : ∀ s W, E.inv s W → E.len s + 1 ≤ 100000 →
    Calls Tryz.prog E.g3 #[.pointer (some ⟨E.bw, 0, none⟩)] W fun e w' => e = .returned (.bool (E.M.fin s).1) ∧ E.inv (E.M.fin s).2 w' ∧ Keep E.base W w' ∧ TrK W w'
  more : ∀ s id is W, E.inv s W →
    Calls Tryz.prog E.g4 #[.pointer (some ⟨E.bw, 0, none⟩), .int .i64 id, .bool is] W fun e w' => e = .returned (.bool (E.M.more s id is)) ∧ E.inv s w' ∧ Keep E.base W w' ∧ TrK W w'

theorem Env.St.cell {E : Env σ} {r : Nat} {t : σ × Bool} {W : World} (h : E.St r t W) (i : Nat) : W.cell? ⟨E.bt, i, none⟩ = (E.cells t.2)[i]? := cell_of_row W E.bt i _ _ _ h.tb
theorem Env.St.frozen {E : Env σ} {r : Nat} {t : σ × Bool} {W : World} (h : E.St r t W) (i : Nat) : W.frozen? ⟨E.bt, i, none⟩ = false := by simp [World.frozen?, h.tb]
theorem Env.St.lt {E : Env σ} {r : Nat} {t : σ × Bool} {W : World} (h : E.St r t W) : E.bt < W.heap.size := lt_of_block h.tb
/-- What turns neither the traversal nor what is the machine's own. -/
theorem Env.St.calm {E : Env σ} (ok : E.Ok) {r : Nat} {t : σ × Bool} {W W' : World} (h : E.St r t W) (hc : Calm E.base W W') (ht : W'.heap[E.bt]? = W.heap[E.bt]?) : E.St r t W' := ⟨h.room, ht.trans h.tb, ok.calm _ _ _ h.mi hc⟩
theorem Env.St.alloc {E : Env σ} (ok : E.Ok) {r : Nat} {t : σ × Bool} {W : World} (h : E.St r t W) (o : Obj) : E.St r t (W.alloc o) :=
  h.calm ok ((Calm.refl _ _).alloc (by have := h.lt; have := ok.le; omega) o) (Below.heap_alloc _ _ _ h.lt)
theorem Env.St.drew {E : Env σ} (ok : E.Ok) {r : Nat} {t : σ × Bool} {W : World} (h : E.St r t W) : E.St r t W.drew := h.calm ok (Calm.refl _ _).drew rfl
theorem Env.St.set {E : Env σ} (ok : E.Ok) {r : Nat} {t : σ × Bool} {W : World} (h : E.St r t W) {B off : Nat} {vs : List Value} (ha : At E.base W B off vs) (j : Nat) (v : Value) : E.St r t (W.setCell ⟨B, j, none⟩ v) := by
  obtain ⟨hb, cs, ty, hh, hk, _⟩ := ha
  have hk' := hk
  simp only [keepT, Bool.and_eq_true, Bool.not_eq_true'] at hk'
  refine h.calm ok ((Calm.refl _ _).set hb hh hk'.1 j v) (Below.heap_setCell _ _ _ _ (fun e => ?_))
  simp only at e
  subst e
  have := h.tb
  rw [hh] at this
  injection this with this
  injection this with _ h2
  subst h2
  exact absurd hk (by decide)
theorem keep_trav : keepT 127 = false := rfl

/-- The flag of a traversal is turned. -/
theorem Env.St.turn {E : Env σ} (ok : E.Ok) {r : Nat} {t : σ × Bool} {W : World} (h : E.St r t W) : E.St r (t.1, true) (W.setCell ⟨E.bt, 4, none⟩ (.bool true)) :=
  ⟨h.room, by simp [World.setCell, Array.getElem?_modify, h.tb]; rfl, ok.calm _ _ _ h.mi ((Calm.refl _ _).set ok.le h.tb rfl 4 _)⟩
theorem Env.St.turned {E : Env σ} (ok : E.Ok) {r : Nat} {t : σ × Bool} {W : World} (h : E.St r t W) (v : Value) : Keep E.base W (W.setCell ⟨E.bt, 4, none⟩ v) := (Keep.refl _ _).turn ok.le h.tb rfl 4 v
theorem must_any {E : Env σ} (ok : E.Ok) (b : Bool) {r : Nat} (t : σ × Bool) (W : World) (h : E.St r t W) :
    Calls Tryz.prog 101 #[.pointer (some ⟨E.bt, 0, none⟩), .bool b] W fun e w' => e = .returned (.tuple #[]) ∧ E.St r (mustS b t) w' ∧ Keep E.base W w' := by
  have hfz := h.frozen 4
  have hc4 : W.cell? ⟨E.bt, 4, none⟩ = some (.bool t.2) := h.cell 4
  have HH := Lib.hid h
  clear h
  cases b
  · go_enter Tryz.func101, Tryz.ntmps101
    go_wp2
    go_end0
    refine ⟨rfl, ?_, HH.out.turned ok _⟩
    have := HH.out.turn ok
    unfold mustS
    simpa using this
  · go_enter Tryz.func101, Tryz.ntmps101
    go_wp2
    go_end0
    refine ⟨rfl, ?_, Keep.refl _ _⟩
    unfold mustS
    simpa using HH.out

theorem btw_lo {E : Env σ} {id lo hi n : Int} {r : Nat} {t : σ × Bool} {W : World} (h : (E.M.num t.1 id n).2.1 < lo) (hs : E.St r (mustS false (mustS (E.M.num t.1 id n).1 ((E.M.num t.1 id n).2.2, t.2))) W) : E.St r (btw E.M id lo hi n t).2 W := by
  have e : decide (lo ≤ (E.M.num t.1 id n).2.1 ∧ (E.M.num t.1 id n).2.1 ≤ hi) = false := decide_eq_false (by omega)
  simp only [btw, e]
  exact hs
theorem btw_hi {E : Env σ} {id lo hi n : Int} {r : Nat} {t : σ × Bool} {W : World} (h : lo ≤ (E.M.num t.1 id n).2.1) (hs : E.St r (mustS (decide ((E.M.num t.1 id n).2.1 ≤ hi)) (mustS (E.M.num t.1 id n).1 ((E.M.num t.1 id n).2.2, t.2))) W) : E.St r (btw E.M id lo hi n t).2 W := by
  have e : decide (lo ≤ (E.M.num t.1 id n).2.1 ∧ (E.M.num t.1 id n).2.1 ≤ hi) = decide ((E.M.num t.1 id n).2.1 ≤ hi) := by simp [h]
  simp only [btw, e]
  exact hs
theorem between_any {E : Env σ} (ok : E.Ok) (id lo hi : Int) (B off : Nat) (n : Int) {r : Nat} (t : σ × Bool) (W : World) (h : E.St (r + 1) t W) (ha : At E.base W B off [.int .i64 n]) :
    Calls Tryz.prog 83 #[.pointer (some ⟨E.bt, 0, none⟩), .int .i64 id, .pointer (some ⟨B, off, none⟩), .int .i64 lo, .int .i64 hi] W fun e w' =>
      e = .returned (.tuple #[]) ∧ E.St r (btw E.M id lo hi n t).2 w' ∧ Chg E.base B off (off + 1) W w' ∧ At E.base w' B off [.int .i64 (btw E.M id lo hi n t).1] := by
  have hc0 : W.cell? ⟨E.bt, 0, none⟩ = some (.func (.func E.g1) #[.pointer (some ⟨E.bw, 0, none⟩)] #[]) := h.cell 0
  have hnum := ok.num t.1 id n B off W h.mi (by have := h.room; omega) ha
  have he1 : ∀ (args : Array Value) (w : World), (callFunc E.g1 args).run Tryz.prog w = .ok (.enter E.g1 args) w := ok.e1
  have HH := Lib.hid h
  have HN := Lib.hid hnum
  have T1 : True := trivial
  clear h hnum ha
  go_enter Tryz.func83, Tryz.ntmps83
  go_wp2_with (first
    | (go_at_fn E.g1; refine HN.out.mono ?_; rintro e w1 ⟨rfl, hi1, hc1, ha1, ht1⟩; have S1 := Lib.hid (Env.St.mk (by have := HH.out.room; have := ok.lnum t.1 id n; simp only; omega) (ht1 _ _ _ HH.out.tb) hi1 : E.St r ((E.M.num t.1 id n).2.2, t.2) w1); have C1 := Lib.hid hc1; have A1 := Lib.hid ha1; clear hi1 hc1 ha1 ht1 hc0)
    | (go_at_call 101; have _t1 := T1; (with_reducible refine (must_any ok _ _ _ S1.out).mono ?_); rintro e w2 ⟨rfl, hs2, hk2⟩; have S2 := Lib.hid hs2; have C2 := Lib.hid (C1.out.trans (hk2.chg B off (off + 1))); have A2 := Lib.hid (A1.out.keep hk2); have a2 := A2.out.cell0 rfl; clear hs2 hk2 T1 _t1)
    | (go_at_call 101; (with_reducible refine (must_any ok _ _ _ S2.out).mono ?_); rintro e w3 ⟨rfl, hs3, hk3⟩; have S3 := Lib.hid hs3; have C3 := Lib.hid (C2.out.trans (hk3.chg B off (off + 1))); have A3 := Lib.hid (A2.out.keep hk3); clear hs3 hk3))
  all_goals
    go_end0
    first
    | exact ⟨rfl, btw_lo (by assumption) S3.out, C3.out, A3.out⟩
    | exact ⟨rfl, btw_hi (by assumption) S3.out, C3.out, A3.out⟩
/-- The same, for the number at a place among others. -/
theorem between_at {E : Env σ} (ok : E.Ok) (id lo hi : Int) (B off i : Nat) (vs : List Value) (n : Int) (hv : vs[i]? = some (.int .i64 n)) {r : Nat} (t : σ × Bool) (W : World) (h : E.St (r + 1) t W) (ha : At E.base W B off vs) :
    Calls Tryz.prog 83 #[.pointer (some ⟨E.bt, 0, none⟩), .int .i64 id, .pointer (some ⟨B, off + i, none⟩), .int .i64 lo, .int .i64 hi] W fun e w' =>
      e = .returned (.tuple #[]) ∧ E.St r (btw E.M id lo hi n t).2 w' ∧ Chg E.base B (off + i) (off + i + 1) W w' ∧ At E.base w' B off (vs.set i (.int .i64 (btw E.M id lo hi n t).1)) := by
  refine (between_any ok id lo hi B (off + i) n t W h (ha.pick i hv)).mono ?_
  rintro e w' ⟨h1, h2, h3, h4⟩
  exact ⟨h1, h2, h3, ha.put h3 h4 (List.getElem?_eq_some_iff.1 hv).1⟩
theorem between_at0 {E : Env σ} (ok : E.Ok) (id lo hi : Int) (B off : Nat) (vs : List Value) (n : Int) (hv : vs[0]? = some (.int .i64 n)) {r : Nat} (t : σ × Bool) (W : World) (h : E.St (r + 1) t W) (ha : At E.base W B off vs) :
    Calls Tryz.prog 83 #[.pointer (some ⟨E.bt, 0, none⟩), .int .i64 id, .pointer (some ⟨B, off, none⟩), .int .i64 lo, .int .i64 hi] W fun e w' =>
      e = .returned (.tuple #[]) ∧ E.St r (btw E.M id lo hi n t).2 w' ∧ Chg E.base B off (off + 1) W w' ∧ At E.base w' B off (vs.set 0 (.int .i64 (btw E.M id lo hi n t).1)) :=
  between_at ok id lo hi B off 0 vs n hv t W h ha

/-- A tie's id. -/
def encId (x : IdT) : List Value := [.int .i64 x.dir, .int .i64 x.orig, .int .i64 x.kind, .int .i64 x.nr]
theorem beq_dec (x : Int) : (x == 1) = decide (x = 1) := rfl
theorem flag_core {E : Env σ} (ok : E.Ok) (id hi : Int) (B off : Nat) (is : Bool) (v : Int) (hv : bitI is = v) {r : Nat} (t : σ × Bool) (W : World) (h : E.St (r + 1) t W) (ha : At E.base W B off [.bool is]) :
    Calls Tryz.prog 102 #[.pointer (some ⟨E.bt, 0, none⟩), .int .i64 id, .pointer (some ⟨B, off, none⟩), .int .i64 hi] W fun e w' =>
      e = .returned (.tuple #[]) ∧ E.St r (btw E.M id 0 hi v t).2 w' ∧ Chg E.base B off (off + 1) W w' ∧ At E.base w' B off [.bool (decide ((btw E.M id 0 hi v t).1 = 1))] := by
  have hb : E.base ≤ W.heap.size := by have := h.lt; have := ok.le; omega
  have hlt := ha.lt
  have hl0 : W.cell? ⟨B, off, none⟩ = some (.bool is) := ha.cell0 rfl
  have T0 := Lib.hid (h.alloc ok (.cells #[.int .i64 v] 3))
  have N0 := Lib.hid (At.new E.base W hb [.int .i64 v] 3 rfl)
  have K0 := Lib.hid ((Keep.refl E.base W).alloc hb (.cells #[.int .i64 v] 3))
  have HA := Lib.hid ha
  have hBb := ha.1
  clear h ha
  cases is
  · obtain rfl : v = 0 := hv.symm
    go_enter Tryz.func102, Tryz.ntmps102
    go_wp2_with (first
      | (go_at_call 83; refine (between_any ok id 0 hi W.heap.size 0 _ t _ T0.out N0.out).mono ?_; rintro e w1 ⟨rfl, hs1, hc1, ha1⟩; have S1 := Lib.hid hs1; have A1 := Lib.hid ha1; have K2 := Lib.hid (Chg.fresh K0.out hc1 (Nat.le_refl _)); have a1 := A1.out.cell0 rfl; have b1 := (HA.out.keep K2.out).cell0 rfl; have f1 := (HA.out.keep K2.out).frozen off; clear hs1 hc1 ha1 hl0))
    go_end0
    rw [beq_dec]
    exact ⟨rfl, S1.out.set ok (HA.out.keep K2.out) off _, (K2.out.chg B off (off + 1)).set hBb (Nat.le_refl _) (Nat.lt_succ_self _) _, (HA.out.keep K2.out).set 0 (by decide) _⟩
  · obtain rfl : v = 1 := hv.symm
    go_enter Tryz.func102, Tryz.ntmps102
    go_wp2_with (first
      | (go_at_call 83; refine (between_any ok id 0 hi W.heap.size 0 _ t _ T0.out N0.out).mono ?_; rintro e w1 ⟨rfl, hs1, hc1, ha1⟩; have S1 := Lib.hid hs1; have A1 := Lib.hid ha1; have K2 := Lib.hid (Chg.fresh K0.out hc1 (Nat.le_refl _)); have a1 := A1.out.cell0 rfl; have b1 := (HA.out.keep K2.out).cell0 rfl; have f1 := (HA.out.keep K2.out).frozen off; clear hs1 hc1 ha1 hl0))
    go_end0
    rw [beq_dec]
    exact ⟨rfl, S1.out.set ok (HA.out.keep K2.out) off _, (K2.out.chg B off (off + 1)).set hBb (Nat.le_refl _) (Nat.lt_succ_self _) _, (HA.out.keep K2.out).set 0 (by decide) _⟩
theorem flag_any {E : Env σ} (ok : E.Ok) (id hi : Int) (B off : Nat) (is : Bool) {r : Nat} (t : σ × Bool) (W : World) (h : E.St (r + 1) t W) (ha : At E.base W B off [.bool is]) :
    Calls Tryz.prog 102 #[.pointer (some ⟨E.bt, 0, none⟩), .int .i64 id, .pointer (some ⟨B, off, none⟩), .int .i64 hi] W fun e w' =>
      e = .returned (.tuple #[]) ∧ E.St r (flagM E.M id hi is t).2 w' ∧ Chg E.base B off (off + 1) W w' ∧ At E.base w' B off [.bool (flagM E.M id hi is t).1] :=
  flag_core ok id hi B off is _ rfl t W h ha
theorem flag_at {E : Env σ} (ok : E.Ok) (id hi : Int) (B off i : Nat) (vs : List Value) (is : Bool) (hv : vs[i]? = some (.bool is)) {r : Nat} (t : σ × Bool) (W : World) (h : E.St (r + 1) t W) (ha : At E.base W B off vs) :
    Calls Tryz.prog 102 #[.pointer (some ⟨E.bt, 0, none⟩), .int .i64 id, .pointer (some ⟨B, off + i, none⟩), .int .i64 hi] W fun e w' =>
      e = .returned (.tuple #[]) ∧ E.St r (flagM E.M id hi is t).2 w' ∧ Chg E.base B (off + i) (off + i + 1) W w' ∧ At E.base w' B off (vs.set i (.bool (flagM E.M id hi is t).1)) := by
  refine (flag_any ok id hi B (off + i) is t W h (ha.pick i hv)).mono ?_
  rintro e w' ⟨h1, h2, h3, h4⟩
  exact ⟨h1, h2, h3, ha.put h3 h4 (List.getElem?_eq_some_iff.1 hv).1⟩
theorem tieId_any {E : Env σ} (ok : E.Ok) (B off : Nat) (x : IdT) {r : Nat} (t : σ × Bool) (W : World) (h : E.St (r + 4) t W) (ha : At E.base W B off (encId x)) :
    Calls Tryz.prog 90 #[.pointer (some ⟨E.bt, 0, none⟩), .pointer (some ⟨B, off, none⟩)] W fun e w' =>
      e = .returned (.tuple #[]) ∧ E.St r (idM E.M x t).2 w' ∧ Chg E.base B off (off + 4) W w' ∧ At E.base w' B off (encId (idM E.M x t).1) := by
  have S0 := Lib.hid h
  have A0 := Lib.hid ha
  clear h ha
  go_enter Tryz.func90, Tryz.ntmps90
  go_wp2_with (first
    | (go_at_call 83; (with_reducible refine (between_at0 ok 1 1 2 B off _ _ rfl t _ S0.out A0.out).mono ?_); rintro e w1 ⟨rfl, hs1, hc1, ha1⟩; have S1 := Lib.hid hs1; have C1 := Lib.hid (hc1.mono (Nat.le_refl off) (show off + 1 ≤ off + 4 by omega)); have A1 := Lib.hid ha1; clear hs1 hc1 ha1)
    | (go_at_call 83; (with_reducible refine (between_at ok 2 1 1000 B off 1 _ _ rfl _ _ S1.out A1.out).mono ?_); rintro e w2 ⟨rfl, hs2, hc2, ha2⟩; have S2 := Lib.hid hs2; have C2 := Lib.hid (C1.out.trans (hc2.mono (Nat.le_add_right off 1) (show off + 1 + 1 ≤ off + 4 by omega))); have A2 := Lib.hid ha2; clear hs2 hc2 ha2)
    | (go_at_call 83; (with_reducible refine (between_at ok 3 1 4 B off 2 _ _ rfl _ _ S2.out A2.out).mono ?_); rintro e w3 ⟨rfl, hs3, hc3, ha3⟩; have S3 := Lib.hid hs3; have C3 := Lib.hid (C2.out.trans (hc3.mono (Nat.le_add_right off 2) (show off + 2 + 1 ≤ off + 4 by omega))); have A3 := Lib.hid ha3; clear hs3 hc3 ha3)
    | (go_at_call 83; (with_reducible refine (between_at ok 4 0 65535 B off 3 _ _ rfl _ _ S3.out A3.out).mono ?_); rintro e w4 ⟨rfl, hs4, hc4, ha4⟩; have S4 := Lib.hid hs4; have C4 := Lib.hid (C3.out.trans (hc4.mono (Nat.le_add_right off 3) (show off + 3 + 1 ≤ off + 4 by omega))); have A4 := Lib.hid ha4; clear hs4 hc4 ha4))
  go_end0
  exact ⟨rfl, S4.out, C4.out, A4.out⟩
/-- An edge, a lie. -/
def encEdge (x : EdgeT) : List Value := [.int .i64 x.node, .int .i64 x.level, .int .i64 x.cost]
def encLie (x : LieT) : List Value := [.int .i64 x.node, .int .i64 x.level, .int .i64 x.pod, .int .i64 x.mtu, .int .i64 x.link, .int .i64 x.nonce, .int .i64 x.seen, .int .i64 x.seenLink, .int .i64 x.seenNonce, .int .i64 x.hold, .bool x.rep, .bool x.noOffer]
theorem edge_any {E : Env σ} (ok : E.Ok) (B off : Nat) (x : EdgeT) {r : Nat} (t : σ × Bool) (W : World) (h : E.St (r + 3) t W) (ha : At E.base W B off (encEdge x)) :
    Calls Tryz.prog 105 #[.pointer (some ⟨E.bt, 0, none⟩), .pointer (some ⟨B, off, none⟩)] W fun e w' =>
      e = .returned (.tuple #[]) ∧ E.St r (edgeM E.M x t).2 w' ∧ Chg E.base B off (off + 3) W w' ∧ At E.base w' B off (encEdge (edgeM E.M x t).1) := by
  have S0 := Lib.hid h
  have A0 := Lib.hid ha
  clear h ha
  go_enter Tryz.func105, Tryz.ntmps105
  go_wp2_with (first
    | (go_at_call 83; (with_reducible refine (between_at0 ok 1 1 1000 B off _ _ rfl t _ S0.out A0.out).mono ?_); rintro e w1 ⟨rfl, hs1, hc1, ha1⟩; have S1 := Lib.hid hs1; have C1 := Lib.hid (hc1.mono (Nat.le_refl off) (show off + 1 ≤ off + 3 by omega)); have A1 := Lib.hid ha1; clear hs1 hc1 ha1)
    | (go_at_call 83; (with_reducible refine (between_at ok 2 0 24 B off 1 _ _ rfl _ _ S1.out A1.out).mono ?_); rintro e w2 ⟨rfl, hs2, hc2, ha2⟩; have S2 := Lib.hid hs2; have C2 := Lib.hid (C1.out.trans (hc2.mono (Nat.le_add_right off 1) (show off + 1 + 1 ≤ off + 3 by omega))); have A2 := Lib.hid ha2; clear hs2 hc2 ha2)
    | (go_at_call 83; (with_reducible refine (between_at ok 3 1 1048576 B off 2 _ _ rfl _ _ S2.out A2.out).mono ?_); rintro e w3 ⟨rfl, hs3, hc3, ha3⟩; have S3 := Lib.hid hs3; have C3 := Lib.hid (C2.out.trans (hc3.mono (Nat.le_add_right off 2) (show off + 2 + 1 ≤ off + 3 by omega))); have A3 := Lib.hid ha3; clear hs3 hc3 ha3))
  go_end0
  exact ⟨rfl, S3.out, C3.out, A3.out⟩
set_option maxHeartbeats 1000000 in
theorem lie_any {E : Env σ} (ok : E.Ok) (B off : Nat) (x : LieT) {r : Nat} (t : σ × Bool) (W : World) (h : E.St (r + 12) t W) (ha : At E.base W B off (encLie x)) :
    Calls Tryz.prog 86 #[.pointer (some ⟨E.bt, 0, none⟩), .pointer (some ⟨B, off, none⟩)] W fun e w' =>
      e = .returned (.tuple #[]) ∧ E.St r (lieM E.M x t).2 w' ∧ Chg E.base B off (off + 12) W w' ∧ At E.base w' B off (encLie (lieM E.M x t).1) := by
  have S0 := Lib.hid h
  have A0 := Lib.hid ha
  clear h ha
  go_enter Tryz.func86, Tryz.ntmps86
  go_wp2_with (first
    | (go_at_call 83; (with_reducible refine (between_at0 ok 1 1 1000 B off _ _ rfl t _ S0.out A0.out).mono ?_); rintro e w1 ⟨rfl, hs1, hc1, ha1⟩; have S1 := Lib.hid hs1; have C1 := Lib.hid (hc1.mono (Nat.le_refl off) (show off + 1 ≤ off + 12 by omega)); have A1 := Lib.hid ha1; clear hs1 hc1 ha1)
    | (go_at_call 83; (with_reducible refine (between_at ok 2 (-1) 24 B off 1 _ _ rfl _ _ S1.out A1.out).mono ?_); rintro e w2 ⟨rfl, hs2, hc2, ha2⟩; have S2 := Lib.hid hs2; have C2 := Lib.hid (C1.out.trans (hc2.mono (Nat.le_add_right off 1) (show off + 1 + 1 ≤ off + 12 by omega))); have A2 := Lib.hid ha2; clear hs2 hc2 ha2)
    | (go_at_call 83; (with_reducible refine (between_at ok 3 0 65535 B off 2 _ _ rfl _ _ S2.out A2.out).mono ?_); rintro e w3 ⟨rfl, hs3, hc3, ha3⟩; have S3 := Lib.hid hs3; have C3 := Lib.hid (C2.out.trans (hc3.mono (Nat.le_add_right off 2) (show off + 2 + 1 ≤ off + 12 by omega))); have A3 := Lib.hid ha3; clear hs3 hc3 ha3)
    | (go_at_call 83; (with_reducible refine (between_at ok 4 0 65535 B off 3 _ _ rfl _ _ S3.out A3.out).mono ?_); rintro e w4 ⟨rfl, hs4, hc4, ha4⟩; have S4 := Lib.hid hs4; have C4 := Lib.hid (C3.out.trans (hc4.mono (Nat.le_add_right off 3) (show off + 3 + 1 ≤ off + 12 by omega))); have A4 := Lib.hid ha4; clear hs4 hc4 ha4)
    | (go_at_call 83; (with_reducible refine (between_at ok 5 0 65535 B off 4 _ _ rfl _ _ S4.out A4.out).mono ?_); rintro e w5 ⟨rfl, hs5, hc5, ha5⟩; have S5 := Lib.hid hs5; have C5 := Lib.hid (C4.out.trans (hc5.mono (Nat.le_add_right off 4) (show off + 4 + 1 ≤ off + 12 by omega))); have A5 := Lib.hid ha5; clear hs5 hc5 ha5)
    | (go_at_call 83; (with_reducible refine (between_at ok 6 0 65535 B off 5 _ _ rfl _ _ S5.out A5.out).mono ?_); rintro e w6 ⟨rfl, hs6, hc6, ha6⟩; have S6 := Lib.hid hs6; have C6 := Lib.hid (C5.out.trans (hc6.mono (Nat.le_add_right off 5) (show off + 5 + 1 ≤ off + 12 by omega))); have A6 := Lib.hid ha6; clear hs6 hc6 ha6)
    | (go_at_call 83; (with_reducible refine (between_at ok 7 0 1000 B off 6 _ _ rfl _ _ S6.out A6.out).mono ?_); rintro e w7 ⟨rfl, hs7, hc7, ha7⟩; have S7 := Lib.hid hs7; have C7 := Lib.hid (C6.out.trans (hc7.mono (Nat.le_add_right off 6) (show off + 6 + 1 ≤ off + 12 by omega))); have A7 := Lib.hid ha7; clear hs7 hc7 ha7)
    | (go_at_call 83; (with_reducible refine (between_at ok 8 0 65535 B off 7 _ _ rfl _ _ S7.out A7.out).mono ?_); rintro e w8 ⟨rfl, hs8, hc8, ha8⟩; have S8 := Lib.hid hs8; have C8 := Lib.hid (C7.out.trans (hc8.mono (Nat.le_add_right off 7) (show off + 7 + 1 ≤ off + 12 by omega))); have A8 := Lib.hid ha8; clear hs8 hc8 ha8)
    | (go_at_call 83; (with_reducible refine (between_at ok 9 0 65535 B off 8 _ _ rfl _ _ S8.out A8.out).mono ?_); rintro e w9 ⟨rfl, hs9, hc9, ha9⟩; have S9 := Lib.hid hs9; have C9 := Lib.hid (C8.out.trans (hc9.mono (Nat.le_add_right off 8) (show off + 8 + 1 ≤ off + 12 by omega))); have A9 := Lib.hid ha9; clear hs9 hc9 ha9)
    | (go_at_call 83; (with_reducible refine (between_at ok 10 0 65535 B off 9 _ _ rfl _ _ S9.out A9.out).mono ?_); rintro e w10 ⟨rfl, hs10, hc10, ha10⟩; have S10 := Lib.hid hs10; have C10 := Lib.hid (C9.out.trans (hc10.mono (Nat.le_add_right off 9) (show off + 9 + 1 ≤ off + 12 by omega))); have A10 := Lib.hid ha10; clear hs10 hc10 ha10)
    | (go_at_call 102; (with_reducible refine (flag_at ok 11 1 B off 10 _ _ rfl _ _ S10.out A10.out).mono ?_); rintro e w11 ⟨rfl, hs11, hc11, ha11⟩; have S11 := Lib.hid hs11; have C11 := Lib.hid (C10.out.trans (hc11.mono (Nat.le_add_right off 10) (show off + 10 + 1 ≤ off + 12 by omega))); have A11 := Lib.hid ha11; clear hs11 hc11 ha11)
    | (go_at_call 102; (with_reducible refine (flag_at ok 12 1 B off 11 _ _ rfl _ _ S11.out A11.out).mono ?_); rintro e w12 ⟨rfl, hs12, hc12, ha12⟩; have S12 := Lib.hid hs12; have C12 := Lib.hid (C11.out.trans (hc12.mono (Nat.le_add_right off 11) (show off + 11 + 1 ≤ off + 12 by omega))); have A12 := Lib.hid ha12; clear hs12 hc12 ha12))
  go_end0
  exact ⟨rfl, S12.out, C12.out, A12.out⟩

/-- A struct within: its fields are gone through by a closure. -/
theorem within_any {E : Env σ} (ok : E.Ok) (id : Int) (g : FuncId) (he : ∀ (args : Array Value) (w : World), (callFunc g args).run Tryz.prog w = .ok (.enter g args) w) (c1 c2 : Value) (B lo hi : Nat) (R : World → Prop) (hR : ∀ W W', R W → Keep E.base W W' → R W') {r r2 : Nat} (t t2 : σ × Bool) (W : World) (h : E.St (r + 2) t W)
    (hf : ∀ W1, Keep E.base W W1 → E.St (r + 1) (openM E.M id t) W1 → Calls Tryz.prog g #[c1, c2] W1 fun e w' => e = .returned (.tuple #[]) ∧ E.St (r2 + 1) t2 w' ∧ Chg E.base B lo hi W1 w' ∧ R w') :
    Calls Tryz.prog 84 #[.pointer (some ⟨E.bt, 0, none⟩), .int .i64 id, .func (.func g) #[] #[c1, c2]] W fun e w' =>
      e = .returned (.tuple #[]) ∧ E.St r2 (finM E.M t2) w' ∧ Chg E.base B lo hi W w' ∧ R w' := by
  have hc1 : W.cell? ⟨E.bt, 1, none⟩ = some (.func (.func E.g2) #[.pointer (some ⟨E.bw, 0, none⟩)] #[]) := h.cell 1
  have hopn := ok.opn t.1 id W h.mi (by have := h.room; omega)
  have he1 : ∀ (args : Array Value) (w : World), (callFunc E.g2 args).run Tryz.prog w = .ok (.enter E.g2 args) w := ok.e2
  have he2 : ∀ (args : Array Value) (w : World), (callFunc E.g3 args).run Tryz.prog w = .ok (.enter E.g3 args) w := ok.e3
  have HH := Lib.hid h
  have HN := Lib.hid hopn
  have HF := Lib.hid hf
  have T1 : True := trivial
  clear h hopn hf
  go_enter Tryz.func84, Tryz.ntmps84
  go_wp2_with (first
    | (go_at_fn E.g2; refine HN.out.mono ?_; rintro e w1 ⟨rfl, hi1, hk1, ht1⟩; have S1 := Lib.hid (Env.St.mk (by have := HH.out.room; have := ok.lopn t.1 id; simp only; omega) (ht1 _ _ _ HH.out.tb) hi1 : E.St (r + 1) ((E.M.opn t.1 id).2, t.2) w1); have K1 := Lib.hid hk1; clear hi1 hk1 ht1 hc1)
    | (go_at_call 101; have _t1 := T1; (with_reducible refine (must_any ok _ _ _ S1.out).mono ?_); rintro e w2 ⟨rfl, hs2, hk2⟩; have S2 := Lib.hid hs2; have K2 := Lib.hid (K1.out.trans hk2); clear hs2 hk2 T1 _t1)
    | (go_at_fn g; refine (HF.out _ K2.out S2.out).mono ?_; rintro e w3 ⟨rfl, hs3, hc3, ha3⟩; have S3 := Lib.hid hs3; have C3 := Lib.hid ((K2.out.chg B lo hi).trans hc3); have A3 := Lib.hid ha3; have hc3' : w3.cell? ⟨E.bt, 2, none⟩ = some (.func (.func E.g3) #[.pointer (some ⟨E.bw, 0, none⟩)] #[]) := hs3.cell 2; clear hs3 hc3 ha3)
    | (go_at_fn E.g3; refine (ok.fin _ _ S3.out.mi (by have := S3.out.room; omega)).mono ?_; rintro e w4 ⟨rfl, hi4, hk4, ht4⟩; have S4 := Lib.hid (Env.St.mk (by have := S3.out.room; have := ok.lfin t2.1; simp only; omega) (ht4 _ _ _ S3.out.tb) hi4 : E.St r2 ((E.M.fin t2.1).2, t2.2) w4); have C4 := Lib.hid (C3.out.trans (hk4.chg B lo hi)); have A4 := Lib.hid (hR _ _ A3.out hk4); clear hi4 hk4 ht4 hc3')
    | (go_at_call 101; (with_reducible refine (must_any ok _ _ _ S4.out).mono ?_); rintro e w5 ⟨rfl, hs5, hk5⟩; have S5 := Lib.hid hs5; have C5 := Lib.hid (C4.out.trans (hk5.chg B lo hi)); have A5 := Lib.hid (hR _ _ A4.out hk5); clear hs5 hk5))
  go_end0
  exact ⟨rfl, S5.out, C5.out, A5.out⟩
end
end Go.Proofs.YtpaooddmgcekhaaGreat
