/-
  THE BASE: what the later texts need of Math, Put, Scan, Zig, Iter, Take, Awake, Pack, Nums, Aids, RowIn, Items, Unpack, Lists, RefTake, Shape, Right, Same, SameQ, WSpec, WMem, PItem, Enc, PRight, PNum, PEnc, OwnI, AwakeV, Frame, WTrav, WHead, WReach, WEach, WEachH, WEachE, WEachR, WTie, WPack, WWriter, WMath, WUnused, WWrite, WGood, WCode.
-/
import Derived.KernelRfl
import Derived.Test.YtbgilngpkogapaaRows
import Derived.WalkKit
import Derived.Maps.AppendAt
import Derived.Laws.BitsAllLaws
import Derived.Lib.Hide
import Derived.Laws.OwnMore
import Derived.Deep.AppendLies
import Derived.RangeFuncNested
import Derived.RangeFuncBound
import Derived.RangeFuncCalls
import Derived.RangeFuncLeaves
import Derived.RangeFuncBox
import Derived.Shelf.Abstract
import Derived.Shelf.RegionOpen
import Derived.OwnWalkIn
import Derived.TacticsInMore
import Derived.LoopNIn
import Derived.LoopIn
import Derived.Laws.BytesArg
import Derived.OpenShut
import Derived.Deep.Slices
import Derived.Lib.SmallJoins
import Derived.Deep.QuietTactic
import Derived.BigQuiet
import Derived.WalkSmall
import Derived.Deep.RegionHeld
import Derived.IntWalk
import Derived.SizedLaws
import Derived.ProofKit
import Derived.ChangeOld
import Derived.Deep.RegionLaw
import Derived.Deep.MidRow
namespace Go.Proofs.Ytbgilngpkogapaa
section

end
section
open Go.RowKit
end
section

end
section
open Go.RowKit
end
section
open Go.RowKit Go.Shelf
attribute [local go_sem] Oper.semAt_some
end
section
open Go.RowKit Go.Shelf
attribute [local go_sem] Oper.semAt_some
end
section
open Go.RowKit Go.Shelf
end
section
open Go.RowKit
end
section

end
section
open Go.RowKit
end
section
open Go.RowKit
end
section
open Go.RowKit Go.ChangeShapes Go.WideShapes

section
variable {H : Type} {enc : TypeId × Value → H} {P : Program} {w : World}

end
end
section
open Go.RowKit Go.Shelf
attribute [local go_sem] Oper.semAt_some
end
section
open Go.RowKit

/-! ### The lists -/
end
section
open Go.RowKit
end
section
open Go.RowKit
end
section
open Go.RowKit
end
section
open Go.RowKit
end
section
open Go.RowKit
end
section
/-- A tie's id, a head, a lie, an edge, a reach, a tie, a packet, as data. -/
structure IdT where
  dir : Int
  orig : Int
  kind : Int
  nr : Int
structure HeadT where
  id : IdT
  seq : Int
  life : Int
structure EdgeT where
  node : Int
  level : Int
  cost : Int
structure ReachT where
  net : Int
  bits : Int
  metric : Int
structure TieT where
  head : HeadT
  level : Int
  over : Bool
  edges : List EdgeT
  reaches : List ReachT
def IdT.zero : IdT := ⟨0, 0, 0, 0⟩
def HeadT.zero : HeadT := ⟨IdT.zero, 0, 0⟩
def EdgeT.zero : EdgeT := ⟨0, 0, 0⟩
def ReachT.zero : ReachT := ⟨0, 0, 0⟩
def TieT.zero : TieT := ⟨HeadT.zero, 0, false, [], []⟩
/-- What a traversal's four functions do, on a state of their own. -/
structure Mac (σ : Type) where
  num : σ → Int → Int → Bool × Int × σ
  opn : σ → Int → Bool × σ
  fin : σ → Bool × σ
  more : σ → Int → Bool → Bool

section
variable {σ : Type} (M : Mac σ)

def bitI (b : Bool) : Int := if b = true then 1 else 0
/-- Are no bits set behind those that count? -/
def shlB (net bits : Int) : Bool := net * 2 ^ min (bits % 18446744073709551616).toNat 32 % 4294967296 == 0
end

/-- Is all zero that a packet's kind does not use? -/
def IdT.nil (x : IdT) : Bool := decide (x.dir = 0 ∧ x.orig = 0 ∧ x.kind = 0 ∧ x.nr = 0)
def HeadT.nil (x : HeadT) : Bool := x.id.nil && decide (x.seq = 0 ∧ x.life = 0)
def TieT.nil (x : TieT) : Bool := x.head.nil && decide (x.level = 0) && !x.over && decide (x.edges.length = 0) && decide (x.reaches.length = 0)
end
section
open Go.RowKit Go.Shelf
set_option linter.unusedVariables false
end
section
open Go.RowKit
end
section
open Go.RowKit

theorem run_append_nilc {P : Program} {w : World} (base : Nat) (t ty e : TypeId) (i : TypeInfo) (size : Nat) (ht : P.underlying t = some (.slice e)) (hi : P.info? e = some i) {v : Value} {n : Nat} {xs : List Value} (hown : w.ownsRow base e size v n xs) (c : Nat) :
    (Builtin.append_ #[t, t] ty #[v, .slice none 0 c]).run P w = .ok v w := by
  rcases hown.2 with ⟨rfl, rfl⟩ | ⟨g, cap, cur, rfl, _, _, hnc, _⟩
  · simp [Builtin.append_, run_underlying ht, sizeOf, typeInfo, hi, Builtin.lenOf, Builtin.firstCells]
  · simp [Builtin.append_, run_underlying ht, sizeOf, typeInfo, hi, Builtin.lenOf, Builtin.firstCells, hnc, storeCells]
end
section
open Go.RowKit
end
section
open Go.RowKit
end
section
open Go.RowKit
end
section
open Go.RowKit
end
section
open Go.RowKit
end
section
open Go.RowKit Go.ChangeShapes Go.WideShapes
end
section
open Go.RowKit Go.Shelf
set_option linter.unusedVariables false

section
variable {σ : Type}
/-- An edge, a lie. -/
def encEdge (x : EdgeT) : List Value := [.int .i64 x.node, .int .i64 x.level, .int .i64 x.cost]
end
end
section
open Go.RowKit Go.Shelf
set_option linter.unusedVariables false

section
variable {σ : Type}
end
end
section
open Go.RowKit Go.Shelf
set_option linter.unusedVariables false

def encReach (x : ReachT) : List Value := [.int .u32 x.net, .int .i64 x.bits, .int .i64 x.metric]
section
variable {σ : Type}
end
end
section
open Go.RowKit Go.Shelf
set_option linter.unusedVariables false

/-- A slice of structs reads as a list. -/
def RdR {E : Type} (sz : Nat) (enc : E → List Value) (n₀ : Nat) (w : World) (a : Option Addr) (l : List E) : Prop :=
  0 < l.length → ∃ b off, a = some ⟨b, off, none⟩ ∧ b < n₀ ∧ ∀ j x, l[j]? = some x → ∀ i v, (enc x)[i]? = some v → w.cell? ⟨b, off + j * sz + i, none⟩ = some v
theorem RdR.below {E : Type} {sz : Nat} {enc : E → List Value} {n₀ : Nat} {w w' : World} {a : Option Addr} {l : List E} (h : RdR sz enc n₀ w a l) (hb : Below n₀ w w') : RdR sz enc n₀ w' a l := fun hp => by
  obtain ⟨b, off, e, hlt, hc⟩ := h hp
  exact ⟨b, off, e, hlt, fun j x hx i v hv => (hb.cell (p := ⟨b, _, none⟩) hlt).trans (hc j x hx i v hv)⟩
theorem RdR.mono {E : Type} {sz : Nat} {enc : E → List Value} {n₀ n₁ : Nat} {w : World} {a : Option Addr} {l : List E} (h : RdR sz enc n₀ w a l) (hn : n₀ ≤ n₁) : RdR sz enc n₁ w a l := fun hp => by
  obtain ⟨b, off, e, hlt, hc⟩ := h hp
  exact ⟨b, off, e, by omega, hc⟩

section
variable {σ : Type}
end
end
section
open Go.RowKit Go.Shelf
set_option linter.unusedVariables false
section
variable {σ : Type}

end
end
section
open Go.RowKit Go.Shelf
set_option linter.unusedVariables false
section
variable {σ : Type}

end
end
section
open Go.RowKit Go.Shelf
set_option linter.unusedVariables false
section
variable {σ : Type}

end
end
section
open Go.RowKit Go.Shelf
set_option linter.unusedVariables false
section
variable {σ : Type}
end
end
section
open Go.RowKit Go.Shelf
set_option linter.unusedVariables false

section
variable {σ : Type}
end
end
section
open Go.RowKit Go.Shelf
set_option linter.unusedVariables false
end
section
set_option linter.unusedVariables false
/-! The writer. -/
def rgB (lo hi n : Int) : Bool := decide (lo ≤ n ∧ n ≤ hi)
def idR (x : IdT) : Bool := rgB 1 2 x.dir && rgB 1 1000 x.orig && rgB 1 4 x.kind && rgB 0 65535 x.nr
def headR (x : HeadT) : Bool := idR x.id && rgB 0 1099511627776 x.seq && rgB 0 604800 x.life
def edgeR (x : EdgeT) : Bool := rgB 1 1000 x.node && rgB 0 24 x.level && rgB 1 1048576 x.cost
def reachR (x : ReachT) : Bool := rgB 0 4294967295 x.net && rgB 0 32 x.bits && shlB x.net x.bits && rgB 0 1048576 x.metric
def tieR (x : TieT) : Bool :=
  headR x.head && (rgB 0 (if x.head.id.kind = 1 then 24 else 0) x.level && (rgB 0 (if x.head.id.kind = 1 then 1 else 0) (bitI x.over) && ((x.edges.all edgeR && decide (x.edges.length ≤ if x.head.id.kind = 1 then 64 else 0)) && (x.reaches.all reachR && decide (x.reaches.length ≤ if x.head.id.kind = 1 then 0 else 64)))))
/-- A net is of 32 bits. -/
def ReachT.ok (x : ReachT) : Prop := 0 ≤ x.net ∧ x.net < 4294967296

/-! The reader, back. -/
end
section
open Go.RowKit Go.Shelf
set_option linter.unusedVariables false
end
section
open Go.RowKit Go.Shelf
set_option linter.unusedVariables false

theorem run_store_fnv {P : Program} {w : World} {a : Addr} {m : Mode} (f : Fn) (x y : Array Value) : (store a (.func f x y) m).run P w = stored P w a (.func f x y) m := run_store P w a _ m rfl
attribute [local go_sem] run_store_fnv
end
section
open Go.RowKit
set_option linter.unusedVariables false
end
section
open Go.RowKit Go.Shelf
set_option linter.unusedVariables false
end
end Go.Proofs.Ytbgilngpkogapaa
