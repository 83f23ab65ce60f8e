/-
  PACKETS AS DATA, and what one traversal of their fields does, by any four functions: plain definitions.
-/
import Derived.Test.YtpaooddmgcekhaaGreatLB
import Derived.RangeFuncBox
namespace Go.Proofs.YtpaooddmgcekhaaGreat
/-- A tie's id, a head, a lie, an edge, a reach, a tie, a packet, as data. -/
structure IdT where
  dir : Int
  orig : Int
  kind : Int
  nr : Int
structure HeadT where
  id : IdT
  seq : Int
  life : Int
structure LieT where
  node : Int
  level : Int
  pod : Int
  mtu : Int
  link : Int
  nonce : Int
  seen : Int
  seenLink : Int
  seenNonce : Int
  hold : Int
  rep : Bool
  noOffer : Bool
structure EdgeT where
  node : Int
  level : Int
  cost : Int
structure ReachT where
  net : Int
  bits : Int
  metric : Int
structure TieT where
  head : HeadT
  level : Int
  over : Bool
  edges : List EdgeT
  reaches : List ReachT
structure PackT where
  kind : Int
  lie : LieT
  tie : TieT
  frm : IdT
  to : IdT
  heads : List HeadT

def IdT.zero : IdT := ⟨0, 0, 0, 0⟩
def HeadT.zero : HeadT := ⟨IdT.zero, 0, 0⟩
def LieT.zero : LieT := ⟨0, 0, 0, 0, 0, 0, 0, 0, 0, 0, false, false⟩
def EdgeT.zero : EdgeT := ⟨0, 0, 0⟩
def ReachT.zero : ReachT := ⟨0, 0, 0⟩
def TieT.zero : TieT := ⟨HeadT.zero, 0, false, [], []⟩
def PackT.zero : PackT := ⟨0, LieT.zero, TieT.zero, IdT.zero, IdT.zero, []⟩

/-- What a traversal's four functions do, on a state of their own. -/
structure Mac (σ : Type) where
  num : σ → Int → Int → Bool × Int × σ
  opn : σ → Int → Bool × σ
  fin : σ → Bool × σ
  more : σ → Int → Bool → Bool

section
variable {σ : Type} (M : Mac σ)

def mustS (b : Bool) (t : σ × Bool) : σ × Bool := (t.1, t.2 || !b)
def btw (id lo hi : Int) (n : Int) (t : σ × Bool) : Int × (σ × Bool) :=
  ((M.num t.1 id n).2.1, mustS (decide (lo ≤ (M.num t.1 id n).2.1 ∧ (M.num t.1 id n).2.1 ≤ hi)) (mustS (M.num t.1 id n).1 ((M.num t.1 id n).2.2, t.2)))
def bitI (b : Bool) : Int := if b = true then 1 else 0
def flagM (id hi : Int) (is : Bool) (t : σ × Bool) : Bool × (σ × Bool) := (decide ((btw M id 0 hi (bitI is) t).1 = 1), (btw M id 0 hi (bitI is) t).2)
def openM (id : Int) (t : σ × Bool) : σ × Bool := mustS (M.opn t.1 id).1 ((M.opn t.1 id).2, t.2)
def finM (t : σ × Bool) : σ × Bool := mustS (M.fin t.1).1 ((M.fin t.1).2, t.2)
def inM {α : Type} (id : Int) (f : σ × Bool → α × (σ × Bool)) (t : σ × Bool) : α × (σ × Bool) := ((f (openM M id t)).1, finM M (f (openM M id t)).2)

def idM (x : IdT) (t : σ × Bool) : IdT × (σ × Bool) :=
  let a := btw M 1 1 2 x.dir t
  let b := btw M 2 1 1000 x.orig a.2
  let c := btw M 3 1 4 x.kind b.2
  let d := btw M 4 0 65535 x.nr c.2
  (⟨a.1, b.1, c.1, d.1⟩, d.2)
def headM (x : HeadT) (t : σ × Bool) : HeadT × (σ × Bool) :=
  let a := inM M 1 (idM M x.id) t
  let b := btw M 2 0 1099511627776 x.seq a.2
  let c := btw M 3 0 604800 x.life b.2
  (⟨a.1, b.1, c.1⟩, c.2)
def lieM (x : LieT) (t : σ × Bool) : LieT × (σ × Bool) :=
  let a := btw M 1 1 1000 x.node t
  let b := btw M 2 (-1) 24 x.level a.2
  let c := btw M 3 0 65535 x.pod b.2
  let d := btw M 4 0 65535 x.mtu c.2
  let e := btw M 5 0 65535 x.link d.2
  let f := btw M 6 0 65535 x.nonce e.2
  let g := btw M 7 0 1000 x.seen f.2
  let h := btw M 8 0 65535 x.seenLink g.2
  let i := btw M 9 0 65535 x.seenNonce h.2
  let j := btw M 10 0 65535 x.hold i.2
  let k := flagM M 11 1 x.rep j.2
  let l := flagM M 12 1 x.noOffer k.2
  (⟨a.1, b.1, c.1, d.1, e.1, f.1, g.1, h.1, i.1, j.1, k.1, l.1⟩, l.2)
def edgeM (x : EdgeT) (t : σ × Bool) : EdgeT × (σ × Bool) :=
  let a := btw M 1 1 1000 x.node t
  let b := btw M 2 0 24 x.level a.2
  let c := btw M 3 1 1048576 x.cost b.2
  (⟨a.1, b.1, c.1⟩, c.2)
/-- Are no bits set behind those that count? -/
def shlB (net bits : Int) : Bool := net * 2 ^ min (bits % 18446744073709551616).toNat 32 % 4294967296 == 0
def reachM (x : ReachT) (t : σ × Bool) : ReachT × (σ × Bool) :=
  let a := btw M 1 0 4294967295 x.net t
  let b := btw M 2 0 32 x.bits a.2
  let c := btw M 3 0 1048576 x.metric (mustS (shlB (a.1 % 4294967296) b.1) b.2)
  (⟨a.1 % 4294967296, b.1, c.1⟩, c.2)
/-- A list of at most so many: n more may come. -/
def eachM {E : Type} (id : Int) (f : E → σ × Bool → E × (σ × Bool)) (z : E) (l : List E) : Nat → List E → σ × Bool → List E × (σ × Bool)
  | 0, gone, t => (gone, if M.more t.1 id (decide (gone.length < l.length)) = true then mustS false t else t)
  | n + 1, gone, t => if M.more t.1 id (decide (gone.length < l.length)) = true then
      eachM id f z l n (gone ++ [(inM M id (f (l[gone.length]?.getD z)) t).1]) (inM M id (f (l[gone.length]?.getD z)) t).2
    else (gone, t)
def tieM (x : TieT) (t : σ × Bool) : TieT × (σ × Bool) :=
  let a := inM M 1 (headM M x.head) t
  let b := btw M 2 0 (if a.1.id.kind = 1 then 24 else 0) x.level a.2
  let c := flagM M 3 (if a.1.id.kind = 1 then 1 else 0) x.over b.2
  let d := eachM M 4 (edgeM M) EdgeT.zero x.edges (if a.1.id.kind = 1 then 64 else 0) [] c.2
  let e := eachM M 5 (reachM M) ReachT.zero x.reaches (if a.1.id.kind = 1 then 0 else 64) [] d.2
  (⟨a.1, b.1, c.1, d.1, e.1⟩, e.2)
def packM (x : PackT) (t : σ × Bool) : PackT × (σ × Bool) :=
  let a := btw M 1 1 4 x.kind t
  if a.1 = 1 then
    let b := inM M 2 (lieM M x.lie) a.2
    ({ x with kind := a.1, lie := b.1 }, b.2)
  else if a.1 = 2 then
    let b := inM M 3 (tieM M x.tie) a.2
    ({ x with kind := a.1, tie := b.1 }, b.2)
  else if a.1 = 3 then
    let b := inM M 4 (idM M x.frm) a.2
    let c := inM M 5 (idM M x.to) b.2
    let d := eachM M 6 (headM M) HeadT.zero x.heads 64 [] c.2
    ({ x with kind := a.1, frm := b.1, to := c.1, heads := d.1 }, d.2)
  else if a.1 = 4 then
    let d := eachM M 6 (headM M) HeadT.zero x.heads 64 [] a.2
    ({ x with kind := a.1, heads := d.1 }, d.2)
  else ({ x with kind := a.1 }, a.2)
end

/-- The writer, and the reader. -/
def wMac : Mac (List It) where
  num s id n := (true, n, s ++ [⟨1, id, n, []⟩])
  opn s id := (true, s ++ [⟨3, id, 0, []⟩])
  fin s := (true, s ++ [⟨4, 0, 0, []⟩])
  more _ _ is := is
def nextB (kind id : Int) : List It → Bool
  | [] => false
  | x :: _ => decide (x.kind = kind ∧ x.id = id)
def skipS (kind id : Int) (s : List It) : Bool × List It := (nextB kind id s, if nextB kind id s = true then s.drop 1 else s)
def rMac : Mac (List It) where
  num s id n := (nextB 1 id s, if nextB 1 id s = true then (s.headD ⟨0, 0, 0, []⟩).n else n, if nextB 1 id s = true then s.drop 1 else s)
  opn s id := skipS 3 id s
  fin s := skipS 4 0 s
  more s id _ := nextB 3 id s

/-- Is all zero that a packet's kind does not use? -/
def IdT.nil (x : IdT) : Bool := decide (x.dir = 0 ∧ x.orig = 0 ∧ x.kind = 0 ∧ x.nr = 0)
def HeadT.nil (x : HeadT) : Bool := x.id.nil && decide (x.seq = 0 ∧ x.life = 0)
def LieT.nil (x : LieT) : Bool := decide (x.node = 0 ∧ x.level = 0 ∧ x.pod = 0 ∧ x.mtu = 0 ∧ x.link = 0 ∧ x.nonce = 0 ∧ x.seen = 0 ∧ x.seenLink = 0 ∧ x.seenNonce = 0 ∧ x.hold = 0) && !x.rep && !x.noOffer
def TieT.nil (x : TieT) : Bool := x.head.nil && decide (x.level = 0) && !x.over && decide (x.edges.length = 0) && decide (x.reaches.length = 0)
def unusedB (p : PackT) : Bool :=
  (decide (p.kind = 1) || p.lie.nil) && (decide (p.kind = 2) || p.tie.nil) && (decide (p.kind = 3) || (p.frm.nil && p.to.nil)) && (decide (p.kind = 3) || decide (p.kind = 4) || decide (p.heads.length = 0))
end Go.Proofs.YtpaooddmgcekhaaGreat
