/-
  THE PROGRAM'S BASE in memory; what is left of a life; a piece as it is told; lists of one's own; may a piece be; is a number a moment.
-/
import Derived.Test.YtbgilngpkogapaaVMap
import Derived.Test.YtbgilngpkogapaaVMath
import Derived.Test.YtbgilngpkogapaaVClone
import Derived.Test.YtbgilngpkogapaaLB
import Derived.Test.YtbgilngpkogapaaTNew
namespace Go.Proofs.Ytbgilngpkogapaa.ti
set_option linter.unusedSimpArgs false
set_option linter.unusedVariables false
open Go.RowKit
/-- Where a piece's lists lie. -/
structure Sl2 where
  ea : Option Addr
  ec : Nat
  ra : Option Addr
  rc : Nat
structure EnK where
  e : EnT
  s : Sl2
def aggV (t : TiV) (s : Sl2) : Value := .agg #[.int .i64 t.hd.id.d, .int .i64 t.hd.id.o, .int .i64 t.hd.id.k, .int .i64 t.hd.id.n, .int .i64 t.hd.seq, .int .i64 t.hd.life, .int .i64 t.level, .bool t.over, .slice s.ea t.es.length s.ec, .slice s.ra t.rs.length s.rc]
def aggK (x : EnK) : Value := .agg #[.int .i64 x.e.t.hd.id.d, .int .i64 x.e.t.hd.id.o, .int .i64 x.e.t.hd.id.k, .int .i64 x.e.t.hd.id.n, .int .i64 x.e.t.hd.seq, .int .i64 x.e.t.hd.life, .int .i64 x.e.t.level, .bool x.e.t.over, .slice x.s.ea x.e.t.es.length x.s.ec, .slice x.s.ra x.e.t.rs.length x.s.rc, .int .i64 x.e.exp]
/-- A piece whose lists may be read. -/
structure Rd2 (W : World) (t : TiV) (s : Sl2) : Prop where
  e : RdE 3 encEdge W s.ea t.es
  r : RdE 3 encReach W s.ra t.rs
  le : t.es.length ≤ 100 ∧ t.es.length ≤ s.ec ∧ s.ec ≤ maxLen
  lr : t.rs.length ≤ 100 ∧ t.rs.length ≤ s.rc ∧ s.rc ≤ maxLen
  ne : s.ea = none → s.ec = 0
  nr : s.ra = none → s.rc = 0
  ok : ∀ y ∈ t.rs, 0 ≤ y.net ∧ y.net < 4294967296
theorem Rd2.below {W W' : World} {t : TiV} {s : Sl2} (h : Rd2 W t s) (k : Below W.heap.size W W') : Rd2 W' t s := ⟨h.e.below k, h.r.below k, h.le, h.lr, h.ne, h.nr, h.ok⟩
/-- Lists of one's own. -/
structure Own2 (W : World) (n0 : Nat) (t : TiV) (s : Sl2) : Prop where
  e : OwnE 56 3 encEdge W n0 (.slice s.ea t.es.length s.ec) t.es
  r : OwnE 61 3 encReach W n0 (.slice s.ra t.rs.length s.rc) t.rs
theorem own_slice {E : Type} {T : TypeId} {sz : Nat} {enc : E → List Value} {W : World} {n0 : Nat} {a : Option Addr} {n c : Nat} {l : List E} (h : OwnE T sz enc W n0 (.slice a n c) l) : n = l.length ∧ l.length ≤ c ∧ c ≤ maxLen ∧ (a = none → c = 0) := by
  rcases h.form with ⟨e, hl⟩ | ⟨g, cap, e, _, _, h1, h2⟩
  · injection e with e1 e2 e3
    subst e1 e2 e3 hl
    exact ⟨rfl, Nat.le_refl _, by decide, fun _ => rfl⟩
  · injection e with e1 e2 e3
    subst e1 e2 e3
    exact ⟨rfl, h1, h2, fun q => by cases q⟩
theorem right_nets {t : TiV} (h : rightV t = true) : ∀ y ∈ t.rs, 0 ≤ y.net ∧ y.net < 4294967296 := fun y hy => by
  unfold rightV at h
  simp only [tieR, Bool.and_eq_true] at h
  have h2 := List.all_eq_true.1 h.2.2.2.2.1 y hy
  unfold reachR at h2
  rw [Bool.and_eq_true, Bool.and_eq_true, Bool.and_eq_true] at h2
  have := rg_is h2.1.1.1
  omega
theorem Own2.rd {W : World} {n0 : Nat} {t : TiV} {s : Sl2} (h : Own2 W n0 t s) (hr : rightV t = true) : Rd2 W t s := by
  have h1 := own_slice h.e
  have h2 := own_slice h.r
  have h3 := right_lens hr
  exact ⟨kindE.rd h.e, kindR.rd h.r, ⟨by omega, h1.2.1, h1.2.2.1⟩, ⟨by omega, h2.2.1, h2.2.2.1⟩, h1.2.2.2, h2.2.2.2, right_nets hr⟩
theorem Own2.same {W W' : World} {n0 : Nat} {t : TiV} {s : Sl2} (h : Own2 W n0 t s) (k : ∀ (j : Nat) (cs : Array Value) (T : TypeId) (fr : Nat × Nat), W.heap[j]? = some (.cells cs T fr) → (T = 56 ∨ T = 61) → W'.heap[j]? = some (.cells cs T fr)) : Own2 W' n0 t s :=
  ⟨h.e.same fun g hg => by obtain ⟨cur, hc⟩ := h.e.block hg; rw [hc]; exact k g _ _ _ hc (.inl rfl), h.r.same fun g hg => by obtain ⟨cur, hc⟩ := h.r.block hg; rw [hc]; exact k g _ _ _ hc (.inr rfl)⟩
def entK (x : EnK) : IdV := (x.e.id, aggK x)
/-! Numbers. -/
end Go.Proofs.Ytbgilngpkogapaa.ti
