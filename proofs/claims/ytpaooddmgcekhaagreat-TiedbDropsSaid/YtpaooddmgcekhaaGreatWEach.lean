/-
  THE TRAVERSAL's lists: each of a list, at most so many; rows of structs.
-/
import Derived.Test.YtpaooddmgcekhaaGreatWReach
import Derived.Deep.AppendLies
namespace Go.Proofs.YtpaooddmgcekhaaGreat
open Go.RowKit Go.Shelf
set_option linter.unusedVariables false

/-- A slice of structs reads as a list. -/
def RdR {E : Type} (sz : Nat) (enc : E → List Value) (n₀ : Nat) (w : World) (a : Option Addr) (l : List E) : Prop :=
  0 < l.length → ∃ b off, a = some ⟨b, off, none⟩ ∧ b < n₀ ∧ ∀ j x, l[j]? = some x → ∀ i v, (enc x)[i]? = some v → w.cell? ⟨b, off + j * sz + i, none⟩ = some v
theorem RdR.below {E : Type} {sz : Nat} {enc : E → List Value} {n₀ : Nat} {w w' : World} {a : Option Addr} {l : List E} (h : RdR sz enc n₀ w a l) (hb : Below n₀ w w') : RdR sz enc n₀ w' a l := fun hp => by
  obtain ⟨b, off, e, hlt, hc⟩ := h hp
  exact ⟨b, off, e, hlt, fun j x hx i v hv => (hb.cell (p := ⟨b, _, none⟩) hlt).trans (hc j x hx i v hv)⟩
theorem RdR.mono {E : Type} {sz : Nat} {enc : E → List Value} {n₀ n₁ : Nat} {w : World} {a : Option Addr} {l : List E} (h : RdR sz enc n₀ w a l) (hn : n₀ ≤ n₁) : RdR sz enc n₁ w a l := fun hp => by
  obtain ⟨b, off, e, hlt, hc⟩ := h hp
  exact ⟨b, off, e, by omega, hc⟩

def lenV : Value → Nat
  | .slice _ n _ => n
  | _ => 0
theorem one_encHead (x : HeadT) : ∀ u ∈ encHead x, u.oneCell' = true := by
  intro u hu
  simp [encHead, encId] at hu
  rcases hu with rfl | rfl | rfl | rfl | rfl | rfl <;> rfl
theorem one_encEdge (x : EdgeT) : ∀ u ∈ encEdge x, u.oneCell' = true := by
  intro u hu
  simp [encEdge] at hu
  rcases hu with rfl | rfl | rfl <;> rfl
theorem one_encReach (x : ReachT) : ∀ u ∈ encReach x, u.oneCell' = true := by
  intro u hu
  simp [encReach] at hu
  rcases hu with rfl | rfl | rfl <;> rfl
theorem own_keep {base n₀ : Nat} {W W' : World} {e : TypeId} {size n : Nat} {v : Value} {xs : List Value} (h : W.ownsRow n₀ e size v n xs) (he : keepT e = true) (k : Keep base W W') : W'.ownsRow n₀ e size v n xs := by
  obtain ⟨h1, h2⟩ := h
  refine ⟨h1, ?_⟩
  rcases h2 with h2 | ⟨g, cap, cur, hv, hg, hh, r⟩
  · exact .inl h2
  · exact .inr ⟨g, cap, cur, hv, hg, k.keep g cur e _ hh he, r⟩
theorem own_chg {base n₀ B lo hi : Nat} {W W' : World} {e : TypeId} {size n : Nat} {v : Value} {xs : List Value} (h : W.ownsRow n₀ e size v n xs) (he : keepT e = true) (k : Chg base B lo hi W W') (hB : B < n₀) : W'.ownsRow n₀ e size v n xs := by
  obtain ⟨h1, h2⟩ := h
  refine ⟨h1, ?_⟩
  rcases h2 with h2 | ⟨g, cap, cur, hv, hg, hh, r⟩
  · exact .inl h2
  · exact .inr ⟨g, cap, cur, hv, hg, k.keep g cur e _ (by omega) hh he, r⟩
theorem own_less {n₀ n₁ : Nat} {W : World} {e : TypeId} {size n : Nat} {v : Value} {xs : List Value} (h : W.ownsRow n₀ e size v n xs) (hn : n₁ ≤ n₀) : W.ownsRow n₁ e size v n xs := by
  obtain ⟨h1, h2⟩ := h
  refine ⟨h1, ?_⟩
  rcases h2 with h2 | ⟨g, cap, cur, hv, hg, r⟩
  · exact .inl h2
  · exact .inr ⟨g, cap, cur, hv, by omega, r⟩
theorem Env.St.less {σ : Type} {E : Env σ} {r r' : Nat} {t : σ × Bool} {W : World} (h : E.St r t W) (hr : r' ≤ r) : E.St r' t W := ⟨by have := h.room; omega, h.tb, h.mi⟩
theorem At.cellZ {base : Nat} {W : World} {B : Nat} {vs : List Value} (h : At base W B 0 vs) (i : Nat) {v : Value} (hv : vs[i]? = some v) : W.cell? ⟨B, i, none⟩ = some v := by
  have := h.cell i hv
  rwa [Nat.zero_add] at this
theorem Keep.past {base : Nat} {a W W' : World} {row : Option Nat} (h : Keep base a W) (hg : W.grownBy W' row) (hb : base ≤ a.heap.size) (hr : ∀ r, row = some r → a.heap.size ≤ r) : Keep base a W' :=
  ⟨h.bel.grown hg (Nat.le_trans hb h.bel.size) (fun r e => Nat.le_trans hb (hr r e)), fun k cs t z hk ht => by
    have h1 := h.keep k cs t z hk ht
    have hlt := lt_of_block hk
    rw [hg.block k (lt_of_block h1) (fun e => by have := hr k e.symm; omega)]
    exact h1⟩
/-- A row of structs of one's own has grown: the traversal stands. -/
theorem Env.St.grown {σ : Type} {E : Env σ} (ok : E.Ok) {r : Nat} {t : σ × Bool} {W W' : World} (h : E.St r t W) {n₀ : Nat} {e : TypeId} {size n : Nat} {v : Value} {xs : List Value} (ho : W.ownsRow n₀ e size v n xs) (he : machT e = false) (hn : E.bt < n₀) (hg : W.grownBy W' v.ownBlock) : E.St r t W' := by
  refine h.calm ok ((Calm.refl _ _).grown hg (by have := h.lt; have := ok.le; omega) (fun r hr => ⟨by have := (ho.lt r hr).1; have := ok.le; omega, fun cs ty z hh => ?_⟩)) (hg.block _ h.lt (fun e' => by have := (ho.lt _ e'.symm).1; omega))
  rcases ho.2 with ⟨rfl, _⟩ | ⟨g1, _, cur, rfl, _, h1, _⟩
  · simp [Value.ownBlock] at hr
  · have e1 : g1 = r := by simpa [Value.ownBlock] using hr
    subst e1
    rw [h1] at hh
    injection hh with hh
    injection hh with _ h2
    rw [← h2]
    exact he
theorem each_stop {σ : Type} {M : Mac σ} {E : Type} {id : Int} {f : E → σ × Bool → E × (σ × Bool)} {z : E} {l gone : List E} {t : σ × Bool} {n : Nat} (h : ¬ M.more t.1 id (decide (gone.length < l.length)) = true) : eachM M id f z l n gone t = (gone, t) := by
  cases n with
  | zero => rw [eachM, if_neg h]
  | succ n => rw [eachM, if_neg h]
theorem each_full {σ : Type} {M : Mac σ} {E : Type} {id : Int} {f : E → σ × Bool → E × (σ × Bool)} {z : E} {l gone : List E} {t : σ × Bool} (h : M.more t.1 id (decide (gone.length < l.length)) = true) : eachM M id f z l 0 gone t = (gone, mustS false t) := by
  rw [eachM, if_pos h]
theorem each_next {σ : Type} {M : Mac σ} {E : Type} {id : Int} {f : E → σ × Bool → E × (σ × Bool)} {z : E} {l gone : List E} {t : σ × Bool} {n : Nat} (h : M.more t.1 id (decide (gone.length < l.length)) = true) (x : E) (hx : l[gone.length]?.getD z = x) :
    eachM M id f z l (n + 1) gone t = eachM M id f z l n (gone ++ [(f x (openM M id t)).1]) (finM M (f x (openM M id t)).2) := by
  subst hx
  rw [eachM, if_pos h]
  rfl
section
variable {σ : Type}
end
end Go.Proofs.YtpaooddmgcekhaaGreat
