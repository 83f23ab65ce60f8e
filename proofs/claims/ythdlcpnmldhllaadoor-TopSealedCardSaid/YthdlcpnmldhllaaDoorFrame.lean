/-
  A SLICE OF ITEMS, OR OF INTEGERS, THAT CAME IN AS AN ARGUMENT: what a law's walk is told of it.
-/
import Derived.Test.YthdlcpnmldhllaaDoorAwakeV
import Derived.SizedLaws
import Derived.ProofKit
import Derived.OpenShut
import Derived.ChangeOld
namespace Go.Proofs.YthdlcpnmldhllaaDoor
open Go.RowKit Go.ChangeShapes Go.WideShapes

/-- A slice of items that came in. -/
structure Came (w : World) (a : Option Addr) (cap : Nat) (l : List It) : Prop where
  rd : RdI w.heap.size w a l
  le : l.length ≤ cap
  cap : cap ≤ 2932031007402
  bs : ∀ x ∈ l, x.bs.length ≤ 140737488351232
  ok : ∀ x ∈ l, x.ok

theorem bytes41 : Tryd.prog.bytesOf 84 = 48 := by kernel_rfl
theorem bytes5 : Tryd.prog.bytesOf 5 = 1 := by kernel_rfl

theorem came_of {H : Type} {enc : TypeId × Value → H} {W : World} {held : Bool} {a : Option Addr} {len cap : Nat} {d : DataW H} {p : List MemPlace} (h : DataW.Trod enc Tryd.prog W 0 (fun _ => true) held 52 (.slice a len cap) d p)
    (hM : ∀ n ∈ d.weights Tryd.prog 52, n ≤ reachBytes) : ∃ l : List It, l.length = len ∧ Came W a cap l := by
  obtain ⟨fuel, hf⟩ := h
  have hf' : DataW.trod enc Tryd.prog W 0 (fun _ => true) held fuel 52 [.slice a len cap] = some (d, p) := hf
  obtain ⟨A, l, c, e, h1, h2, h3, h4, h5, h6⟩ := items_read (i := 3) (u := 5) (e := 35) Tryd.underlying52 Tryd.underlying84 (by kernel_rfl) Tryd.underlying3 (by kernel_rfl) Tryd.underlying5 (by kernel_rfl) Tryd.underlying35 (by kernel_rfl) ⟨rfl, rfl⟩ ⟨rfl, rfl⟩ ⟨rfl, rfl⟩ ⟨rfl, rfl⟩ hf' hM
  injection e with e1 e2 e3
  subst e1 e3
  rw [bytes41, reachBytes] at h5
  refine ⟨l, e2.symm, h3, h1, by omega, fun x hx => ?_, h4⟩
  have := h6 x hx
  rw [bytes5, reachBytes] at this
  omega

theorem few_small {l : List It} (h : fewB l = true) : l.length ≤ 200 ∧ ∀ x ∈ l, x.bs.length ≤ 10000 := by
  obtain ⟨h1, h2⟩ := of_decide_eq_true h
  refine ⟨h1, ?_⟩
  clear h h1
  revert h2
  induction l with
  | nil => intro _ x hx; simp at hx
  | cons y l ih =>
    intro h2 x hx
    simp only [bulk, List.foldr_cons] at h2
    rcases List.mem_cons.1 hx with rfl | hx
    · omega
    · exact ih (by simp only [bulk]; omega) x hx

theorem conv_nil (W : World) : (convert 35 9 (.slice none 0 0)).run Tryd.prog W = .ok (.string (strOfNums [])) W := conv_rd (n₀ := 0) (zs := []) (fun hp => by simp at hp) 0
end Go.Proofs.YthdlcpnmldhllaaDoor
