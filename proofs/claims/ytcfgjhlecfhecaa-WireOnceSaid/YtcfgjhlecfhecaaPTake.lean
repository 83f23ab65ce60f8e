/-
  THE PROGRAM's copyOf and take: the item that some bytes begin with, and how many bytes it has.
-/
import Derived.Test.YtcfgjhlecfhecaaItem
import Derived.Test.YtcfgjhlecfhecaaFrame
namespace Go.Proofs.Ytcfgjhlecfhecaa
open Go.RowKit
set_option linter.unusedVariables false

/-- The same bytes in memory of one's own. -/
def Copied (zs : List Int) (w : World) (e : Ending) (w' : World) : Prop :=
  ∃ A c, e = .returned (.slice A zs.length c) ∧ w'.ownsRow w.heap.size 5 1 (.slice A zs.length c) zs.length (zs.map (Value.int .u8)) ∧ Below w.heap.size w w'


/-- No item: what take returns then. -/
def NoPart (w : World) (e : Ending) (w' : World) : Prop :=
  e = .returned (.tuple #[.agg #[.int .i64 0, .int .i64 0, .int .i64 0, .slice none 0 0], .int .i64 0, .int .i64 2]) ∧ Below w.heap.size w w'
/-- An item, its bytes in memory of their own. -/
def APart (x : It) (k : Nat) (w : World) (e : Ending) (w' : World) : Prop :=
  ∃ A c, e = .returned (.tuple #[.agg #[.int .i64 x.kind, .int .i64 x.id, .int .i64 x.n, .slice A x.bs.length c], .int .i64 k, .int .i64 0]) ∧
    w'.ownsRow w.heap.size 5 1 (.slice A x.bs.length c) x.bs.length (x.bs.map (Value.int .u8)) ∧ Below w.heap.size w w'



theorem own_far {w : World} {base : Nat} {e : TypeId} {size n : Nat} {v : Value} {xs : List Value} (h : w.ownsRow base e size v n xs) {b i : Nat} (hb : b < base) (u : Value) : (w.setCell ⟨b, i, none⟩ u).ownsRow base e size v n xs :=
  ⟨h.1, h.2.imp id fun ⟨g, cap, cur, hv, hg, hh, rest⟩ => ⟨g, cap, cur, hv, hg, (Below.heap_setCell w ⟨b, i, none⟩ u g (by show g ≠ b; omega)).trans hh, rest⟩⟩
theorem Box.far {W : World} {B B' : Nat} {cs : Array Value} (h : Box W B cs) (hne : B ≠ B') (i : Nat) (u : Value) : Box (W.setCell ⟨B', i, none⟩ u) B cs := (Below.heap_setCell W ⟨B', i, none⟩ u B hne).trans h









/-- The item that some bytes begin with, and how many bytes it has. -/
def partS (zs : List Int) : Option (It × Nat) := match scan 0 0 zs with
  | [] => none
  | q :: _ => if q.n % 4 = 2 ∨ q.n % 4 = 3 then some (⟨((q.n % 4 : Nat) : Int) + 1, (q.n / 4 : Nat), 0, []⟩, q.k)
    else match scan 0 0 (zs.drop q.k) with
      | [] => none
      | p :: _ => if q.n % 4 = 0 then some (⟨1, (q.n / 4 : Nat), zagI p.n, []⟩, q.k + p.k)
        else if zs.length - q.k - p.k < p.n then none
        else some (⟨2, (q.n / 4 : Nat), 0, ((zs.drop q.k).drop p.k).take p.n⟩, q.k + p.k + p.n)
end Go.Proofs.Ytcfgjhlecfhecaa
