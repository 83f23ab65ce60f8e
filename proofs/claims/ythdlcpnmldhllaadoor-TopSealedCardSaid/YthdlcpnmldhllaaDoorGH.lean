/-
  THE DOCUMENT's sum by a key: two rows that grow side by side.
-/
import Derived.Test.YthdlcpnmldhllaaDoorIter
import Derived.BigQuiet
import Derived.Laws.BitsAllLaws
import Derived.Deep.MidRow
import Derived.Laws.CopyOwn
import Derived.WalkSmall
import Derived.Laws.MakeOwn
import Derived.RangeFuncWrites
import Derived.Laws.AppendOwnNone
import Derived.Stop.RegionWithIn
import Derived.Test.YthdlcpnmldhllaaDoorTie
import Derived.LaidMore
import Derived.OpenShut
import Derived.Laws.BytesArg
import Derived.Lib.SmallJoins
import Derived.DeepKeys
import Derived.Deep.RegionHeld
import Derived.StillTailTactics

/-
  THE HASH AS MATHEMATICS: words are numbers below 2^32; what a block does to the eight words; the sum of bytes; the key's sum.
-/
namespace Go.Proofs.YthdlcpnmldhllaaDoor.sl

def rot (x n : Nat) : Nat := (x / 2 ^ n) ||| (x * 2 ^ (32 - n) % 4294967296)
theorem rot_lt {x : Nat} (h : x < 4294967296) (n : Nat) : rot x n < 4294967296 := by
  have h1 : x / 2 ^ n < 2 ^ 32 := Nat.lt_of_le_of_lt (Nat.div_le_self _ _) h
  have h2 : x * 2 ^ (32 - n) % 4294967296 < 2 ^ 32 := Nat.mod_lt _ (by decide)
  exact Nat.or_lt_two_pow h1 h2

/-- The four sums of turned words, the choice and the majority. -/
def bS0 (x : Nat) : Nat := rot x 2 ^^^ rot x 13 ^^^ rot x 22
def bS1 (x : Nat) : Nat := rot x 6 ^^^ rot x 11 ^^^ rot x 25
def lS0 (x : Nat) : Nat := rot x 7 ^^^ rot x 18 ^^^ x / 8
def lS1 (x : Nat) : Nat := rot x 17 ^^^ rot x 19 ^^^ x / 1024
def cho (e f g : Nat) : Nat := (e &&& f) ^^^ ((4294967295 - e) &&& g)
def maj (a b c : Nat) : Nat := (a &&& b) ^^^ (a &&& c) ^^^ (b &&& c)

theorem xor32 {a b : Nat} (h1 : a < 4294967296) (h2 : b < 4294967296) : a ^^^ b < 4294967296 := Nat.xor_lt_two_pow (n := 32) h1 h2
theorem and32 {a b : Nat} (h2 : b < 4294967296) : a &&& b < 4294967296 := Nat.and_lt_two_pow (n := 32) _ h2
theorem bS0_lt {x : Nat} (h : x < 4294967296) : bS0 x < 4294967296 := xor32 (xor32 (rot_lt h _) (rot_lt h _)) (rot_lt h _)
theorem bS1_lt {x : Nat} (h : x < 4294967296) : bS1 x < 4294967296 := xor32 (xor32 (rot_lt h _) (rot_lt h _)) (rot_lt h _)
theorem lS0_lt {x : Nat} (h : x < 4294967296) : lS0 x < 4294967296 := xor32 (xor32 (rot_lt h _) (rot_lt h _)) (by omega)
theorem lS1_lt {x : Nat} (h : x < 4294967296) : lS1 x < 4294967296 := xor32 (xor32 (rot_lt h _) (rot_lt h _)) (by omega)
theorem cho_lt {e f g : Nat} (hf : f < 4294967296) (hg : g < 4294967296) : cho e f g < 4294967296 := xor32 (and32 hf) (and32 hg)
theorem maj_lt {a b c : Nat} (hb : b < 4294967296) (hc : c < 4294967296) : maj a b c < 4294967296 := xor32 (xor32 (and32 hb) (and32 hc)) (and32 hc)

/-- The eight words. -/
structure V8 where
  a : Nat
  b : Nat
  c : Nat
  d : Nat
  e : Nat
  f : Nat
  g : Nat
  h : Nat
deriving DecidableEq
def V8.ok (s : V8) : Prop := s.a < 4294967296 ∧ s.b < 4294967296 ∧ s.c < 4294967296 ∧ s.d < 4294967296 ∧ s.e < 4294967296 ∧ s.f < 4294967296 ∧ s.g < 4294967296 ∧ s.h < 4294967296
def V8.list (s : V8) : List Nat := [s.a, s.b, s.c, s.d, s.e, s.f, s.g, s.h]
def addT (s : V8) (k x : Nat) : Nat := (s.h + bS1 s.e + cho s.e s.f s.g + k + x) % 4294967296
def addU (s : V8) : Nat := (bS0 s.a + maj s.a s.b s.c) % 4294967296
def rnd (s : V8) (k x : Nat) : V8 := ⟨(addT s k x + addU s) % 4294967296, s.a, s.b, s.c, (s.d + addT s k x) % 4294967296, s.e, s.f, s.g⟩
theorem rnd_ok {s : V8} (h : s.ok) (k x : Nat) : (rnd s k x).ok := by
  obtain ⟨ha, hb, hc, hd, he, hf, hg, hh⟩ := h
  exact ⟨Nat.mod_lt _ (by decide), ha, hb, hc, Nat.mod_lt _ (by decide), he, hf, hg⟩
def rnds (s : V8) : List (Nat × Nat) → V8
  | [] => s
  | q :: l => rnds (rnd s q.1 q.2) l
theorem rnds_snoc (s : V8) (l : List (Nat × Nat)) (q : Nat × Nat) : rnds s (l ++ [q]) = rnd (rnds s l) q.1 q.2 := by
  induction l generalizing s with
  | nil => rfl
  | cons x l ih => exact ih _
theorem rnds_ok {s : V8} (h : s.ok) (l : List (Nat × Nat)) : (rnds s l).ok := by
  induction l generalizing s with
  | nil => exact h
  | cons x l ih => exact ih (rnd_ok h _ _)
def addV (s t : V8) : V8 := ⟨(s.a + t.a) % 4294967296, (s.b + t.b) % 4294967296, (s.c + t.c) % 4294967296, (s.d + t.d) % 4294967296, (s.e + t.e) % 4294967296, (s.f + t.f) % 4294967296, (s.g + t.g) % 4294967296, (s.h + t.h) % 4294967296⟩
theorem addV_ok (s t : V8) : (addV s t).ok := by
  refine ⟨?_, ?_, ?_, ?_, ?_, ?_, ?_, ?_⟩ <;> exact Nat.mod_lt _ (by decide)

/-- The first eight words; the table. -/
def beginH : V8 := ⟨1779033703, 3144134277, 1013904242, 2773480762, 1359893119, 2600822924, 528734635, 1541459225⟩
theorem beginH_ok : beginH.ok := by unfold V8.ok; decide
def tabK : List Nat := [0x428a2f98, 0x71374491, 0xb5c0fbcf, 0xe9b5dba5, 0x3956c25b, 0x59f111f1, 0x923f82a4, 0xab1c5ed5,
  0xd807aa98, 0x12835b01, 0x243185be, 0x550c7dc3, 0x72be5d74, 0x80deb1fe, 0x9bdc06a7, 0xc19bf174,
  0xe49b69c1, 0xefbe4786, 0x0fc19dc6, 0x240ca1cc, 0x2de92c6f, 0x4a7484aa, 0x5cb0a9dc, 0x76f988da,
  0x983e5152, 0xa831c66d, 0xb00327c8, 0xbf597fc7, 0xc6e00bf3, 0xd5a79147, 0x06ca6351, 0x14292967,
  0x27b70a85, 0x2e1b2138, 0x4d2c6dfc, 0x53380d13, 0x650a7354, 0x766a0abb, 0x81c2c92e, 0x92722c85,
  0xa2bfe8a1, 0xa81a664b, 0xc24b8b70, 0xc76c51a3, 0xd192e819, 0xd6990624, 0xf40e3585, 0x106aa070,
  0x19a4c116, 0x1e376c08, 0x2748774c, 0x34b0bcb5, 0x391c0cb3, 0x4ed8aa4a, 0x5b9cca4f, 0x682e6ff3,
  0x748f82ee, 0x78a5636f, 0x84c87814, 0x8cc70208, 0x90befffa, 0xa4506ceb, 0xbef9a3f7, 0xc67178f2]
theorem tabK_len : tabK.length = 64 := by decide
theorem tabK_lt : ∀ x ∈ tabK, x < 4294967296 := by decide
/-- The program's mixing and the block's: the rounds, and H added. -/
def mixV (h : V8) (k w : List Nat) : V8 := addV h (rnds h (k.zip w))

/-- A word out of bytes. -/
def word (l : List Nat) : Nat := l.foldl (fun x b => x * 256 + b) 0
theorem word_snoc (l : List Nat) (b : Nat) : word (l ++ [b]) = word l * 256 + b := by simp [word]
theorem word_from : ∀ (l : List Nat) (x : Nat), (∀ b ∈ l, b < 256) → l.foldl (fun x b => x * 256 + b) x < (x + 1) * 256 ^ l.length := by
  intro l
  induction l with
  | nil => intro x _; simp
  | cons b l ih =>
    intro x h
    have h1 := ih (x * 256 + b) fun y hy => h y (List.mem_cons_of_mem _ hy)
    have h2 := h b (List.mem_cons_self ..)
    have h3 : (x * 256 + b + 1) * 256 ^ l.length ≤ ((x + 1) * 256) * 256 ^ l.length := Nat.mul_le_mul_right _ (by omega)
    rw [List.length_cons, Nat.pow_succ, Nat.mul_comm (256 ^ l.length) 256, ← Nat.mul_assoc]
    exact Nat.lt_of_lt_of_le h1 h3
theorem word_lt (l : List Nat) (h : ∀ b ∈ l, b < 256) : word l < 256 ^ l.length := by simpa [word] using word_from l 0 h

/-- The sixteen words of a block, and the 64 that are made of them. -/
def words16 (b : List Nat) : List Nat := (List.range 16).map fun j => word ((b.drop (4 * j)).take 4)
def nextW (l : List Nat) : Nat := (lS1 (l.getD (l.length - 2) 0) + l.getD (l.length - 7) 0 + lS0 (l.getD (l.length - 15) 0) + l.getD (l.length - 16) 0) % 4294967296
def more : Nat → List Nat → List Nat
  | 0, l => l
  | n + 1, l => more n (l ++ [nextW l])
theorem more_snoc (n : Nat) (l : List Nat) : more (n + 1) l = more n l ++ [nextW (more n l)] := by
  induction n generalizing l with
  | zero => rfl
  | succ n ih => rw [more, ih]; rfl
theorem more_len (n : Nat) (l : List Nat) : (more n l).length = l.length + n := by
  induction n generalizing l with
  | zero => rfl
  | succ n ih => rw [more, ih]; simp; omega
theorem words16_len (b : List Nat) : (words16 b).length = 16 := by simp [words16]
theorem words16_lt {b : List Nat} (hb : ∀ x ∈ b, x < 256) : ∀ x ∈ words16 b, x < 4294967296 := by
  intro x hx
  obtain ⟨j, _, rfl⟩ := List.mem_map.1 hx
  have h := word_lt ((b.drop (4 * j)).take 4) fun y hy => hb y (List.mem_of_mem_drop (List.mem_of_mem_take hy))
  have : 256 ^ ((b.drop (4 * j)).take 4).length ≤ 256 ^ 4 := Nat.pow_le_pow_right (by decide) (by simp; omega)
  have e : (256 : Nat) ^ 4 = 4294967296 := by decide
  omega
theorem more_lt (n : Nat) {l : List Nat} (h : ∀ x ∈ l, x < 4294967296) : ∀ x ∈ more n l, x < 4294967296 := by
  induction n generalizing l with
  | zero => exact h
  | succ n ih =>
    refine ih fun x hx => ?_
    rcases List.mem_append.1 hx with hx | hx
    · exact h x hx
    · rw [List.mem_singleton.1 hx]; exact Nat.mod_lt _ (by decide)
def schedL (b : List Nat) : List Nat := more 48 (words16 b)
theorem schedL_len (b : List Nat) : (schedL b).length = 64 := by rw [schedL, more_len, words16_len]
theorem schedL_lt {b : List Nat} (hb : ∀ x ∈ b, x < 256) : ∀ x ∈ schedL b, x < 4294967296 := more_lt _ (words16_lt hb)

/-- What a block makes of H; the blocks in a row. -/
def blockV (h : V8) (b : List Nat) : V8 := mixV h tabK (schedL b)
def runV (h : V8) (bs : List (List Nat)) : V8 := bs.foldl blockV h
/-- So many blocks of 64 bytes. -/
def cut64 : Nat → List Nat → List (List Nat)
  | 0, _ => []
  | n + 1, l => l.take 64 :: cut64 n (l.drop 64)
/-- A number's eight bytes, the most significant one first. -/
def be (n : Nat) : List Nat := [n / 2 ^ 56 % 256, n / 2 ^ 48 % 256, n / 2 ^ 40 % 256, n / 2 ^ 32 % 256, n / 2 ^ 24 % 256, n / 2 ^ 16 % 256, n / 2 ^ 8 % 256, n % 256]
/-- The padded bytes of the last part, with the length of the whole. -/
def padL (part : List Nat) (n : Nat) : List Nat := part ++ 128 :: (List.replicate ((119 - part.length % 64) % 64) 0 ++ be (8 * n))
def out4 (x : Nat) : List Nat := [x / 2 ^ 24 % 256, x / 2 ^ 16 % 256, x / 2 ^ 8 % 256, x % 256]
def outV (s : V8) : List Nat := s.list.flatMap out4
def sumL (b : List Nat) : List Nat := outV (runV beginH (cut64 ((padL b b.length).length / 64) (padL b b.length)))
theorem outV_len (s : V8) : (outV s).length = 32 := rfl
/-- The key's sum. -/
def keyL (key : List Nat) : List Nat := if key.length > 64 then sumL key else key
def full (key : List Nat) : List Nat := keyL key ++ List.replicate (64 - (keyL key).length) 0
def maskL (l : List Nat) (m : Nat) : List Nat := l.map (· ^^^ m)
def macL (key b : List Nat) : List Nat := sumL (maskL (full key) 92 ++ sumL (maskL (full key) 54 ++ b))
end Go.Proofs.YthdlcpnmldhllaaDoor.sl

/-
  A WORD TURNED RIGHT: the program's and the document's; rows of words, blocks of cells, the tables in memory.
-/
namespace Go.Proofs.YthdlcpnmldhllaaDoor.sl
open Go.RowKit

def u32s (l : List Nat) : List Value := l.map fun n : Nat => Value.int .u32 (n : Int)
def u8s (l : List Nat) : List Value := l.map fun n : Nat => Value.int .u8 (n : Int)
theorem u32s_len (l : List Nat) : (u32s l).length = l.length := by simp [u32s]
theorem u8s_len (l : List Nat) : (u8s l).length = l.length := by simp [u8s]
theorem u32s_one (l : List Nat) : (u32s l).toArray.all (·.oneCell') = true := by simp [u32s, Value.oneCell']
theorem u8s_one (l : List Nat) : (u8s l).toArray.all (·.oneCell') = true := by simp [u8s, Value.oneCell']
theorem u32s_get {l : List Nat} {i n : Nat} (h : l[i]? = some n) : (u32s l)[i]? = some (.int .u32 n) := by simp [u32s, h]
theorem u8s_get {l : List Nat} {i n : Nat} (h : l[i]? = some n) : (u8s l)[i]? = some (.int .u8 n) := by simp [u8s, h]

/-- A block of cells. -/
def Arr (W : World) (g : Nat) (t : TypeId) (vs : List Value) : Prop := W.heap[g]? = some (.cells vs.toArray t (0, 0))
theorem Arr.lt {W : World} {g : Nat} {t : TypeId} {vs : List Value} (h : Arr W g t vs) : g < W.heap.size := (Array.getElem?_eq_some_iff.1 h).1
theorem Arr.cell {W : World} {g : Nat} {t : TypeId} {vs : List Value} (h : Arr W g t vs) (i : Nat) : W.cell? ⟨g, i, none⟩ = vs[i]? := by
  have := cell_of_row W g i vs.toArray t (0, 0) h
  simpa using this
theorem Arr.frozen {W : World} {g : Nat} {t : TypeId} {vs : List Value} (h : Arr W g t vs) (i : Nat) : W.frozen? ⟨g, i, none⟩ = false := by
  unfold Arr at h
  simp [World.frozen?, h]
theorem Arr.new (W : World) (t : TypeId) (vs : List Value) : Arr (W.alloc (.cells vs.toArray t)) W.heap.size t vs := heap_alloc_new W _
theorem Arr.below {W W' : World} {g n₀ : Nat} {t : TypeId} {vs : List Value} (h : Arr W g t vs) (hb : Below n₀ W W') (hg : g < n₀) : Arr W' g t vs := (hb.block g hg).trans h
theorem Arr.alloc {W : World} {g : Nat} {t : TypeId} {vs : List Value} (h : Arr W g t vs) (o : Obj) : Arr (W.alloc o) g t vs := h.below ((Below.refl _ _).alloc (Nat.le_refl _) o) h.lt
theorem Arr.drewN {W : World} {g : Nat} {t : TypeId} {vs : List Value} (h : Arr W g t vs) (n : Nat) : Arr (W.drewN n) g t vs := h
theorem Arr.set {W : World} {g : Nat} {t : TypeId} {vs : List Value} (h : Arr W g t vs) (i : Nat) (v : Value) : Arr (W.setCell ⟨g, i, none⟩ v) g t (vs.set i v) := by
  unfold Arr at h ⊢
  simp [World.setCell, Array.getElem?_modify, h]
theorem Arr.other {W : World} {g g' : Nat} {t : TypeId} {vs : List Value} (h : Arr W g t vs) (hne : g ≠ g') (i : Nat) (v : Value) : Arr (W.setCell ⟨g', i, none⟩ v) g t vs := by
  unfold Arr at h ⊢
  simp [World.setCell, Array.getElem?_modify, h, Ne.symm hne]
theorem Arr.row {W : World} {g : Nat} {t : TypeId} {vs : List Value} (h : Arr W g t vs) (us : List Value) : Arr (W.setRow g us.toArray) g t us := by
  unfold Arr at h ⊢
  simp [World.setRow, Array.getElem?_modify, h]
theorem set_step {α : Type} {A B : List α} {k : Nat} {x : α} (hl : A.length = B.length) (hx : A[k]? = some x) : (A.take k ++ B.drop k).set k x = A.take (k + 1) ++ B.drop (k + 1) := by
  have hk : k < A.length := (List.getElem?_eq_some_iff.1 hx).1
  apply List.ext_getElem?
  intro i
  rw [List.getElem?_set]
  by_cases hi : k = i
  · subst hi
    rw [if_pos rfl, if_pos (by simp; omega), List.getElem?_append_left (by simp; omega), List.getElem?_take, if_pos (by omega), hx]
  · rw [if_neg hi]
    by_cases hi2 : i < k
    · rw [List.getElem?_append_left (by simp; omega), List.getElem?_append_left (by simp; omega), List.getElem?_take, List.getElem?_take, if_pos hi2, if_pos (by omega)]
    · rw [List.getElem?_append_right (by simp; omega), List.getElem?_append_right (by simp; omega), List.getElem?_drop, List.getElem?_drop]
      congr 1
      simp
      omega

/-- The two tables lie where the program has them. -/
def Tabs (w : World) : Prop := w.rangeAt 1 0 (u32s beginH.list) ∧ w.rangeAt 2 0 (u32s tabK)
theorem Tabs.pos {w : World} (h : Tabs w) : 2 < w.heap.size := by
  have h0 := h.2 0 (.int .u32 (1116352408 : Nat)) (u32s_get (l := tabK) (i := 0) (n := 1116352408) (by rfl))
  rcases Nat.lt_or_ge 2 w.heap.size with e | e
  · exact e
  · unfold World.cell? at h0
    simp [Array.getElem?_eq_none e] at h0
theorem Tabs.below {w w' : World} {n : Nat} (h : Tabs w) (hb : Below n w w') (hn : 2 < n) : Tabs w' :=
  ⟨fun j v hv => (hb.cell (p := ⟨1, 0 + j, none⟩) (show 1 < n by omega)).trans (h.1 j v hv), fun j v hv => (hb.cell (p := ⟨2, 0 + j, none⟩) (show 2 < n by omega)).trans (h.2 j v hv)⟩
theorem Tabs.k {w : World} (h : Tabs w) {i n : Nat} (hn : tabK[i]? = some n) : w.cell? ⟨2, i, none⟩ = some (.int .u32 n) := by
  have := h.2 i (.int .u32 n) (u32s_get hn)
  rwa [Nat.zero_add] at this

theorem rot_raw {x : Nat} (h1 : x < 4294967296) (n : Nat) : bits .or .u32 ((x : Int) / 2 ^ n) ((x : Int) * 2 ^ (32 - n) % 4294967296) = (rot x n : Nat) := by
  have h2 := u32_or_nat (x / 2 ^ n) (x * 2 ^ (32 - n) % 4294967296) (Nat.lt_of_le_of_lt (Nat.div_le_self _ _) h1) (Nat.mod_lt _ (by decide))
  have e1 : ((x / 2 ^ n : Nat) : Int) = (x : Int) / 2 ^ n := by rw [Int.natCast_ediv, Int.natCast_pow]; rfl
  have e2 : ((x * 2 ^ (32 - n) % 4294967296 : Nat) : Int) = (x : Int) * 2 ^ (32 - n) % 4294967296 := by rw [Int.natCast_emod, Int.natCast_mul, Int.natCast_pow]; rfl
  rw [e1, e2] at h2
  exact h2

set_option maxHeartbeats 800000 in
set_option maxRecDepth 100000 in
theorem right_any (x n : Nat) (h1 : x < 4294967296) (hn : n ≤ 32) (w : World) :
    Calls Tryd.prog 86 #[.int .u32 x, .int .i64 n] w fun e w' => e = .returned (.int .u32 (rot x n)) ∧ ∃ m, w' = w.drewN m := by
  go_enter Tryd.func86, Tryd.ntmps86
  go_wp2
  go_quiet (fail)
  all_goals go_wp2
  all_goals go_ret
  rw [rot_raw h1]
  exact ⟨rfl, _, rfl⟩

end Go.Proofs.YthdlcpnmldhllaaDoor.sl

/-
  ARRAYS AS VALUES AND AS BLOCKS: loads and stores of a whole one, within plain regions.
-/
namespace Go.Proofs.YthdlcpnmldhllaaDoor.sl
open Go.RowKit
variable {P : Program}

theorem wpList_load_arr {ops : Array Oper} {rest : List Oper} {o : Oper} {a : Act} {w : World} {Q : Exit → Act → World → Prop} (hgd : o.guard = none) (ty : TypeId) (x : Operand) (ho : o.op = .load ty x)
    (g : Nat) (hx : a.eval x = .pointer (some ⟨g, 0, none⟩)) {t : TypeId} {vs : List Value} {d : TypeDesc} (hg : Arr w g t vs) (hu : P.underlying ty = some d) (hd : (match d with | .struct _ | .array _ _ => true | _ => false) = true)
    {n : Nat} (hi : (P.info? ty).map (·.size) = some n) (hn : vs.length = n)
    (h : wpList P ops Q rest (a.put o.dst (.agg vs.toArray)) w) : wpList P ops Q (o :: rest) a w :=
  wpList_load_row hgd ty x ho g hx t vs.toArray (0, 0) d hg hu hd (by rw [hi, ← hn]; rfl) h

theorem wpList_store_arr {ops : Array Oper} {rest : List Oper} {o : Oper} {a : Act} {w : World} {Q : Exit → Act → World → Prop} (hgd : o.guard = none) (ty : TypeId) (x y : Operand) (ho : o.op = .store ty x y)
    (g : Nat) (hx : a.eval x = .pointer (some ⟨g, 0, none⟩)) {vs old : List Value} (hy : a.eval y = .agg vs.toArray) {t : TypeId} (hg : Arr w g t old) {n : Nat} (hi : (P.info? ty).map (·.size) = some n) (hn : vs.length = n) (ho2 : old.length = n) (h1 : vs.toArray.all (·.oneCell') = true)
    (h : ∀ w', Hid (Arr w' g t vs) → Hid (Below g w w') → w'.heap.size = w.heap.size → Hid (∀ k, k ≠ g → w'.heap[k]? = w.heap[k]?) → wpList P ops Q rest (a.put o.dst undef) w') : wpList P ops Q (o :: rest) a w :=
  wpList_store_row hgd ty x y ho g vs.toArray hx hy t old.toArray hg (by rw [hi, ← hn]; rfl) (by simp; omega) h1
    (h _ (Arr.row hg vs) (below_setRow (Below.refl _ _) (Nat.le_refl _) _) (by simp [World.setRow]) (fun k hk => setRow_other w g k _ hk))

theorem Arr.same {W W' : World} {g g' : Nat} {t : TypeId} {vs : List Value} (h : Arr W g t vs) (hs : ∀ k, k ≠ g' → W'.heap[k]? = W.heap[k]?) (hne : g ≠ g') : Arr W' g t vs := (hs g hne).trans h

/-- An element of an array by value, of one cell each. -/
theorem run_index_arr {t e : TypeId} {n : Nat} {ik : IntKind} (ht : P.underlying t = some (.array n e)) (he : P.underlying e = some (.int ik)) (hs : (P.info? e).map (·.size) = some 1) {cs : Array Value} {v : Value} {k : Nat} (hk : k < n) (hv : cs[k]? = some v) (w : World) :
    (Instr.index t (.agg cs) (.int .i64 k)).run P w = .ok v w := by
  cases hq : P.info? e with
  | none => simp [hq] at hs
  | some i =>
    have hs1 : i.size = 1 := by simpa [hq] using hs
    simp [Instr.index, run_underlying ht, asIntOf, part, isAgg, run_underlying he, sizeOf, typeInfo, hq, hs1, hk, hv, go_sem]

theorem results_arr {fn : Func} {tmps : Array Value} {w : World} {p : Tmp} {ty : TypeId} {g : Nat} {t : TypeId} {vs : List Value} {d : TypeDesc} {n : Nat} (h : fn.results = #[.cell p ty]) (hp : tmps.getD p undef = .pointer (some ⟨g, 0, none⟩)) (hg : Arr w g t vs)
    (hu : P.underlying ty = some d) (hd : (match d with | .struct _ | .array _ _ => true | _ => false) = true) (hi : (P.info? ty).map (·.size) = some n) (hn : vs.length = n) :
    (results fn tmps).run P w = .ok (.agg vs.toArray) w := results_cell_row h tmps w g t vs.toArray (0, 0) d hp hg hu hd (by rw [hi, ← hn]; rfl)

/-! What the walk spells, in the mathematics' words. -/
theorem xor_raw {a b : Nat} (h1 : a < 4294967296) (h2 : b < 4294967296) : bits .xor .u32 (a : Int) (b : Int) = ((a ^^^ b : Nat) : Int) := u32_xor_nat a b h1 h2
theorem raw_bS1 {x : Nat} (h : x < 4294967296) : bits .xor .u32 (bits .xor .u32 (rot x 6 : Nat) (rot x 11 : Nat)) (rot x 25 : Nat) = (bS1 x : Nat) := by
  rw [xor_raw (rot_lt h _) (rot_lt h _), xor_raw (xor32 (rot_lt h _) (rot_lt h _)) (rot_lt h _)]; rfl
theorem raw_bS0 {x : Nat} (h : x < 4294967296) : bits .xor .u32 (bits .xor .u32 (rot x 2 : Nat) (rot x 13 : Nat)) (rot x 22 : Nat) = (bS0 x : Nat) := by
  rw [xor_raw (rot_lt h _) (rot_lt h _), xor_raw (xor32 (rot_lt h _) (rot_lt h _)) (rot_lt h _)]; rfl
theorem raw_lS0 {x : Nat} (h : x < 4294967296) : bits .xor .u32 (bits .xor .u32 (rot x 7 : Nat) (rot x 18 : Nat)) ((x : Int) / 8) = (lS0 x : Nat) := by
  have e : ((x / 8 : Nat) : Int) = (x : Int) / 8 := by omega
  rw [xor_raw (rot_lt h _) (rot_lt h _), ← e, xor_raw (xor32 (rot_lt h _) (rot_lt h _)) (by omega)]; rfl
theorem raw_lS1 {x : Nat} (h : x < 4294967296) : bits .xor .u32 (bits .xor .u32 (rot x 17 : Nat) (rot x 19 : Nat)) ((x : Int) / 1024) = (lS1 x : Nat) := by
  have e : ((x / 1024 : Nat) : Int) = (x : Int) / 1024 := by omega
  rw [xor_raw (rot_lt h _) (rot_lt h _), ← e, xor_raw (xor32 (rot_lt h _) (rot_lt h _)) (by omega)]; rfl
theorem not_raw {e : Nat} (h : e < 4294967296) : bits .xor .u32 IntKind.u32.max (e : Int) = ((4294967295 - e : Nat) : Int) := by
  have h1 : (4294967295 : Nat) ^^^ e = 4294967295 - e := by
    have h2 := congrArg BitVec.toNat (BitVec.allOnes_xor (x := BitVec.ofNat 32 e))
    rw [BitVec.toNat_xor, BitVec.toNat_not, BitVec.toNat_ofNat, BitVec.toNat_allOnes, Nat.mod_eq_of_lt h] at h2
    simpa using h2
  rw [← h1]
  exact u32_xor_nat 4294967295 e (by decide) h
theorem raw_cho {e f g : Nat} (he : e < 4294967296) (hf : f < 4294967296) (hg : g < 4294967296) : bits .xor .u32 (bits .and .u32 (e : Int) (f : Int)) (bits .and .u32 (bits .xor .u32 IntKind.u32.max (e : Int)) (g : Int)) = (cho e f g : Nat) := by
  rw [not_raw he, u32_and_nat _ _ he hf, u32_and_nat _ _ (by omega) hg, xor_raw (and32 hf) (and32 hg)]; rfl
theorem raw_maj {a b c : Nat} (ha : a < 4294967296) (hb : b < 4294967296) (hc : c < 4294967296) : bits .xor .u32 (bits .xor .u32 (bits .and .u32 (a : Int) (b : Int)) (bits .and .u32 (a : Int) (c : Int))) (bits .and .u32 (b : Int) (c : Int)) = (maj a b c : Nat) := by
  rw [u32_and_nat _ _ ha hb, u32_and_nat _ _ ha hc, u32_and_nat _ _ hb hc, xor_raw (and32 hb) (and32 hc), xor_raw (xor32 (and32 hb) (and32 hc)) (and32 hc)]; rfl
theorem raw_addT (s : V8) (k x : Nat) : (((s.h : Int) + (bS1 s.e : Nat) + (cho s.e s.f s.g : Nat) + (k : Int) + (x : Int)) % 4294967296) = (addT s k x : Nat) := by
  unfold addT; omega
theorem raw_addU (s : V8) : (((bS0 s.a : Nat) : Int) + (maj s.a s.b s.c : Nat)) % 4294967296 = (addU s : Nat) := by
  unfold addU; omega
end Go.Proofs.YthdlcpnmldhllaaDoor.sl

/-
  BYTES THAT ARE READ, and the words of a block as they are made, byte after byte and word after word.
-/
namespace Go.Proofs.YthdlcpnmldhllaaDoor.sl
open Go.RowKit

/-- A slice of bytes, as numbers. -/
def RdN (n₀ : Nat) (W : World) (a : Option Addr) (bs : List Nat) : Prop := 0 < bs.length → ∃ b off, a = some ⟨b, off, none⟩ ∧ b < n₀ ∧ ∀ (j x : Nat), bs[j]? = some x → W.cell? ⟨b, off + j, none⟩ = some (.int .u8 x)
theorem RdN.below {n₀ n₁ : Nat} {A B : World} {a : Option Addr} {bs : List Nat} (r : RdN n₀ A a bs) (h : Below n₁ A B) (hn : n₀ ≤ n₁) : RdN n₀ B a bs := fun hp => by
  obtain ⟨b, off, rfl, hb, hc⟩ := r hp
  exact ⟨b, off, rfl, hb, fun j x hx => (h.cell (p := ⟨b, off + j, none⟩) (show b < n₁ by omega)).trans (hc j x hx)⟩
theorem RdN.mono {n₀ n₁ : Nat} {A : World} {a : Option Addr} {bs : List Nat} (r : RdN n₀ A a bs) (h : n₀ ≤ n₁) : RdN n₁ A a bs := fun hp => by
  obtain ⟨b, off, rfl, hb, hc⟩ := r hp
  exact ⟨b, off, rfl, by omega, hc⟩
theorem RdN.arr {n₀ g : Nat} {W : World} {t : TypeId} {bs : List Nat} (h : Arr W g t (u8s bs)) (hg : g < n₀) : RdN n₀ W (some ⟨g, 0, none⟩) bs := fun _ =>
  ⟨g, 0, rfl, hg, fun j x hx => by rw [Nat.zero_add, h.cell j]; exact u8s_get hx⟩
theorem RdN.nil (n₀ : Nat) (W : World) (a : Option Addr) : RdN n₀ W a [] := fun h => absurd h (by simp)
theorem RdN.part {n₀ : Nat} {W : World} {b off : Nat} {bs : List Nat} (r : RdN n₀ W (some ⟨b, off, none⟩) bs) (j n : Nat) : RdN n₀ W (some ⟨b, off + j, none⟩) ((bs.drop j).take n) := fun hp => by
  have hl : 0 < bs.length := by simp at hp; omega
  obtain ⟨b', off', e, hb, hc⟩ := r hl
  injection e with e; injection e with e1 e2; subst e1 e2
  refine ⟨b, off + j, rfl, hb, fun i x hx => ?_⟩
  rw [List.getElem?_take] at hx
  split at hx
  · rw [List.getElem?_drop] at hx
    rw [Nat.add_assoc]; exact hc _ _ hx
  · cases hx

/-- The 64 words behind so many of a block's bytes. -/
def partW (b : List Nat) (k : Nat) : List Nat := (List.range 64).map fun j => word ((b.drop (4 * j)).take (min 4 (k - 4 * j)))
theorem partW_len (b : List Nat) (k : Nat) : (partW b k).length = 64 := by simp [partW]
theorem partW_get (b : List Nat) (k : Nat) {j : Nat} (hj : j < 64) : (partW b k)[j]? = some (word ((b.drop (4 * j)).take (min 4 (k - 4 * j)))) := by simp [partW, hj]
theorem partW_zero (b : List Nat) : partW b 0 = List.replicate 64 0 := by
  apply List.ext_getElem?
  intro j
  by_cases hj : j < 64
  · rw [partW_get b 0 hj, List.getElem?_replicate, if_pos hj]
    simp [word]
  · rw [List.getElem?_eq_none (by rw [partW_len]; omega), List.getElem?_eq_none (by simp; omega)]
theorem partW_full (b : List Nat) : partW b 64 = words16 b ++ List.replicate 48 0 := by
  apply List.ext_getElem?
  intro j
  by_cases hj : j < 64
  · rw [partW_get b 64 hj]
    by_cases h16 : j < 16
    · rw [List.getElem?_append_left (by rw [words16_len]; exact h16)]
      simp [words16, h16, show min 4 (64 - 4 * j) = 4 by omega]
    · rw [List.getElem?_append_right (by rw [words16_len]; omega), words16_len]
      rw [List.getElem?_replicate, if_pos (by omega), show min 4 (64 - 4 * j) = 0 by omega]
      rfl
  · rw [List.getElem?_eq_none (by rw [partW_len]; omega), List.getElem?_eq_none (by simp [words16_len]; omega)]
theorem partW_at {b : List Nat} (hb : ∀ x ∈ b, x < 256) {k : Nat} (hk : k < 64) : ∃ p, (partW b k)[k / 4]? = some p ∧ p < 16777216 ∧ ∀ x, b[k]? = some x → (partW b k).set (k / 4) (p * 256 + x) = partW b (k + 1) := by
  refine ⟨_, partW_get b k (by omega), ?_, fun x hx => ?_⟩
  · have h := word_lt ((b.drop (4 * (k / 4))).take (min 4 (k - 4 * (k / 4)))) fun y hy => hb y (List.mem_of_mem_drop (List.mem_of_mem_take hy))
    have h2 : 256 ^ ((b.drop (4 * (k / 4))).take (min 4 (k - 4 * (k / 4)))).length ≤ 256 ^ 3 := Nat.pow_le_pow_right (by decide) (by simp; omega)
    have e : (256 : Nat) ^ 3 = 16777216 := by decide
    omega
  · apply List.ext_getElem?
    intro j
    rw [List.getElem?_set]
    by_cases hj : j < 64
    · rw [partW_get b (k + 1) hj]
      by_cases hi : k / 4 = j
      · subst hi
        rw [if_pos rfl, if_pos (by rw [partW_len]; exact hj)]
        rw [show min 4 (k + 1 - 4 * (k / 4)) = (k - 4 * (k / 4)) + 1 by omega, show min 4 (k - 4 * (k / 4)) = k - 4 * (k / 4) by omega, List.take_add_one, List.getElem?_drop, show 4 * (k / 4) + (k - 4 * (k / 4)) = k by omega, hx, Option.toList_some, word_snoc]
      · rw [if_neg hi, partW_get b k hj]
        congr 3
        omega
    · rw [if_neg (by omega), List.getElem?_eq_none (by rw [partW_len]; omega), List.getElem?_eq_none (by rw [partW_len]; omega)]
theorem or_byte {p x : Nat} (hp : p < 16777216) (hx : x < 256) : bits .or .u32 ((p : Int) * 256 % 4294967296) (x : Int) = ((p * 256 + x : Nat) : Int) := by
  have h1 : p * 256 ||| x = p * 256 + x := by
    have := Nat.shiftLeft_add_eq_or_of_lt (i := 8) (b := x) (by simpa using hx) p
    rw [Nat.shiftLeft_eq] at this
    exact this.symm
  have h2 := u32_or_nat (p * 256) x (by omega) (by omega)
  rw [h1] at h2
  rw [← h2]
  congr 1
  omega

/-- The row of words while it is made. -/
def moreP (n : Nat) (b : List Nat) : List Nat := more n (words16 b) ++ List.replicate (48 - n) 0
theorem moreP_len {n : Nat} (hn : n ≤ 48) (b : List Nat) : (moreP n b).length = 64 := by simp [moreP, more_len, words16_len]; omega
theorem moreP_get {n : Nat} (b : List Nat) {j : Nat} (hj : j < 16 + n) : (moreP n b)[j]? = (more n (words16 b))[j]? := by
  rw [moreP, List.getElem?_append_left (by rw [more_len, words16_len]; exact hj)]
theorem moreP_step {n : Nat} (hn : n < 48) (b : List Nat) {x2 x7 x15 x16 : Nat} (h2 : (moreP n b)[16 + n - 2]? = some x2) (h7 : (moreP n b)[16 + n - 7]? = some x7) (h15 : (moreP n b)[16 + n - 15]? = some x15) (h16 : (moreP n b)[16 + n - 16]? = some x16) :
    (moreP n b).set (16 + n) ((lS1 x2 + x7 + lS0 x15 + x16) % 4294967296) = moreP (n + 1) b := by
  rw [moreP_get b (by omega)] at h2 h7 h15 h16
  have hl : (more n (words16 b)).length = 16 + n := by rw [more_len, words16_len]
  have hnx : nextW (more n (words16 b)) = (lS1 x2 + x7 + lS0 x15 + x16) % 4294967296 := by
    unfold nextW
    rw [hl]
    simp only [List.getD_eq_getElem?_getD, h2, h7, h15, h16, Option.getD_some]
  rw [← hnx]
  unfold moreP
  rw [more_snoc, List.set_append_right _ _ (by omega), hl, Nat.sub_self, show 48 - n = (48 - (n + 1)) + 1 by omega, List.replicate_succ, List.set_cons_zero]
  simp
theorem moreP_end (b : List Nat) : moreP 48 b = schedL b := by simp [moreP, schedL]
end Go.Proofs.YthdlcpnmldhllaaDoor.sl

/-
  BYTES THAT ARE MADE; a number's eight bytes, laid from the last one on.
-/
namespace Go.Proofs.YthdlcpnmldhllaaDoor.sl
open Go.RowKit

theorem made_u8 (c : Nat) : madeCells (Value.int .u8 0).cells (c * 1) = (u8s (List.replicate c 0)).toArray := by
  apply Array.ext
  · simp [madeCells, u8s]
  · intro i h1 h2
    simp [madeCells, u8s, Value.cells, Nat.mod_one]
theorem run_make_u8 {P : Program} {t e : TypeId} {i : TypeInfo} (ht : P.underlying t = some (.slice e)) (hi : P.info? e = some i) (hz : i.zero = some (.int .u8 0)) (hs : i.size = 1) (hb : i.bytes = 1) {l c : Nat} (hlc : l ≤ c) (hc : c ≤ 140737488355328) (W : World) :
    (Instr.makeSlice t (.int .i64 l) (.int .i64 c)).run P W = .ok (.slice (some ⟨W.heap.size, 0, none⟩) l c) (W.alloc (.cells (u8s (List.replicate c 0)).toArray e)) := by
  have h := run_make (P := P) W t e i (.int .u8 0) ht hi hz .i64 .i64 l c (by omega) (by omega) (by rw [hb]; omega) (by omega)
  simp only [Int.toNat_natCast, hs] at h
  rw [h, made_u8]

/-- The last so many bytes of a number's eight. -/
def beJ (j v : Nat) : List Nat := List.replicate (8 - j) 0 ++ (be v).drop (8 - j)
theorem beJ_zero (v : Nat) : beJ 0 v = List.replicate 8 0 := by simp [beJ, be]
theorem beJ_len {j : Nat} (_ : j ≤ 8) (v : Nat) : (beJ j v).length = 8 := by simp [beJ, be]; try omega
theorem beJ_step {j : Nat} (hj : j < 8) (v : Nat) : (beJ j v).set (7 - j) (v / 256 ^ j % 256) = beJ (j + 1) v := by
  match j, hj with
  | 0, _ => simp [beJ, be, List.replicate_succ]
  | 1, _ => simp [beJ, be, List.replicate_succ]
  | 2, _ => simp [beJ, be, List.replicate_succ]
  | 3, _ => simp [beJ, be, List.replicate_succ]
  | 4, _ => simp [beJ, be, List.replicate_succ]
  | 5, _ => simp [beJ, be, List.replicate_succ]
  | 6, _ => simp [beJ, be, List.replicate_succ]
  | 7, _ => simp [beJ, be, List.replicate_succ]
theorem beJ_end {j v : Nat} (hj : j ≤ 8) (h : v / 256 ^ j = 0) : beJ j v = be v := by
  have hlt : v < 256 ^ j := (Nat.div_eq_zero_iff.1 h).resolve_left (by have := Nat.pow_pos (n := j) (show 0 < 256 by decide); omega)
  match j, hj with
  | 0, _ => simp at hlt; subst hlt; decide
  | 1, _ => simp at hlt; simp [beJ, be, List.replicate_succ]; omega
  | 2, _ => simp at hlt; simp [beJ, be, List.replicate_succ]; omega
  | 3, _ => simp at hlt; simp [beJ, be, List.replicate_succ]; omega
  | 4, _ => simp at hlt; simp [beJ, be, List.replicate_succ]; omega
  | 5, _ => simp at hlt; simp [beJ, be, List.replicate_succ]; omega
  | 6, _ => simp at hlt; simp [beJ, be, List.replicate_succ]; omega
  | 7, _ => simp at hlt; simp [beJ, be, List.replicate_succ]; omega
  | 8, _ => simp [beJ]
theorem u8s_append (l m : List Nat) : u8s (l ++ m) = u8s l ++ u8s m := by simp [u8s]
theorem u8s_set (l : List Nat) (i n : Nat) : u8s (l.set i n) = (u8s l).set i (.int .u8 n) := by simp [u8s, List.map_set]
theorem u8s_take (l : List Nat) (n : Nat) : (u8s l).take n = u8s (l.take n) := by simp [u8s]
theorem u8s_drop (l : List Nat) (n : Nat) : (u8s l).drop n = u8s (l.drop n) := by simp [u8s]
theorem u8s_mem {l : List Nat} : ∀ v ∈ u8s l, v.oneCell' = true := by
  intro v hv
  obtain ⟨n, _, rfl⟩ := List.mem_map.1 hv
  rfl
/-- A copy of bytes to the head of a block. -/
theorem run_copy_u8 {P : Program} {dT e : TypeId} (hu : P.underlying dT = some (.slice e)) (hs : (P.info? e).map (·.size) = some 1) {W : World} {g dLen dCap sCap n₀ : Nat} {t : TypeId} {old bs : List Nat} {a : Option Addr} (ty : TypeId) (hg : Arr W g t (u8s old)) (hr : RdN n₀ W a bs) (hfit : bs.length ≤ old.length) (hd : bs.length ≤ dLen) :
    ∃ W1, (Builtin.copy_ #[dT, dT] ty #[.slice (some ⟨g, 0, none⟩) dLen dCap, .slice a bs.length sCap]).run P W = .ok (goInt bs.length) W1 ∧ Arr W1 g t (u8s (bs ++ old.drop bs.length)) ∧ Below g W W1 ∧ W1.heap.size = W.heap.size := by
  by_cases h0 : bs = []
  · subst h0
    exact ⟨W, run_copy_none W dT dT ty e _ _ _ _ _ _ hu hs (by simp), by simpa using hg, Below.refl _ _, rfl⟩
  · obtain ⟨b, off, rfl, _, hc⟩ := hr (List.length_pos_iff.2 h0)
    have h := run_copy_row (P := P) W dT dT ty e g 0 dLen dCap ⟨b, off, none⟩ bs.length sCap (u8s old).toArray t (u8s bs) hu hs hg (by rw [u8s_len]; exact (Nat.min_eq_left hd).symm) (fun j v hj => by
      have hj' : (bs[j]?).map (fun n : Nat => Value.int .u8 (n : Int)) = some v := by rw [← hj]; simp [u8s]
      cases hx : bs[j]? with
      | none => rw [hx] at hj'; cases hj'
      | some x =>
        rw [hx] at hj'
        cases hj'
        rw [show (⟨b, off, none⟩ : Addr).add j = ⟨b, off + j, none⟩ by unfold Addr.add; split <;> simp_all]
        exact hc j x hx) (by simp only [List.size_toArray, u8s_len]; omega) u8s_mem
    rw [u8s_len] at h
    refine ⟨_, h, ?_, below_setRow (Below.refl _ _) (Nat.le_refl _) _, by simp [World.setRow]⟩
    have h2 := Arr.row hg (u8s (bs ++ old.drop bs.length))
    have e : (List.take 0 (u8s old).toArray.toList ++ u8s bs ++ List.drop (0 + bs.length) (u8s old).toArray.toList) = u8s (bs ++ old.drop bs.length) := by
      simp [u8s]
    rw [e]
    exact h2
/-- What is behind the bytes in the last part. -/
def padZ (m : Nat) : Nat := (119 - m % 64) % 64
theorem padL_eq (part : List Nat) (n : Nat) : padL part n = part ++ 128 :: List.replicate (padZ part.length) 0 ++ be (8 * n) := by simp [padL, padZ]
end Go.Proofs.YthdlcpnmldhllaaDoor.sl

/-
  A RANGE OVER A FUNCTION THAT HANDS OUT WHAT IT HAS JUST MADE: what a round may read is a guard on the world of the yield; each round goes on.
-/
namespace Go.Proofs.YthdlcpnmldhllaaDoor.sl
open Go.RowKit Go.Shelf

/-- What a round leaves as it was: all cells but those of block B. -/
def KeepB (B : Nat) (W W' : World) : Prop := W.heap.size ≤ W'.heap.size ∧ ∀ (k : Nat) (cs : Array Value) (t : TypeId) (fr : Nat × Nat), k ≠ B → W.heap[k]? = some (.cells cs t fr) → W'.heap[k]? = some (.cells cs t fr)
theorem KeepB.refl (B : Nat) (W : World) : KeepB B W W := ⟨Nat.le_refl _, fun _ _ _ _ _ h => h⟩
theorem KeepB.trans {B : Nat} {X Y Z : World} (h : KeepB B X Y) (k : KeepB B Y Z) : KeepB B X Z := ⟨Nat.le_trans h.1 k.1, fun i cs t fr hi hc => k.2 i cs t fr hi (h.2 i cs t fr hi hc)⟩
theorem KeepB.below {B : Nat} {X Y : World} (h : Below X.heap.size X Y) : KeepB B X Y := ⟨h.size, fun i _ _ _ _ hc => (h.block i (Array.getElem?_eq_some_iff.1 hc).1).trans hc⟩
theorem KeepB.putObj (B : Nat) {X : World} {l : Nat} {o : Obj} (o' : Obj) (hl : X.heap[l]? = some o) (ho : o.isCells = false) : KeepB B X (X.putObj l o') := by
  refine ⟨by simp [World.putObj], fun i cs t fr _ hc => ?_⟩
  have hne : i ≠ l := by rintro rfl; rw [hl] at hc; cases hc; simp [Obj.isCells] at ho
  exact (World.putObj_heap_other hne).trans hc
theorem Arr.keepB {B : Nat} {X Y : World} (h : KeepB B X Y) {g : Nat} {t : TypeId} {vs : List Value} (ha : Arr X g t vs) (hg : g ≠ B) : Arr Y g t vs := h.2 g _ _ _ hg ha
theorem cell_keepB {B : Nat} {X Y : World} (h : KeepB B X Y) {b i : Nat} {v : Value} (hc : X.cell? ⟨b, i, none⟩ = some v) (hb : b ≠ B) : Y.cell? ⟨b, i, none⟩ = some v := by
  unfold World.cell? at hc ⊢
  simp only at hc ⊢
  cases hq : X.heap[b]? with
  | none => simp [hq] at hc
  | some o =>
    cases o with
    | cells cs t fr => rw [h.2 b cs t fr hb hq]; rw [hq] at hc; exact hc
    | _ => simp [hq] at hc

/-- A yielded block: where it lies and what its bytes are. -/
structure Blk where
  b : Nat
  off : Nat
  cap : Nat
  bytes : List Nat
  len : bytes.length = 64
  lt : ∀ x ∈ bytes, x < 256
def Blk.enc (x : Blk) : Array Value := #[.slice (some ⟨x.b, x.off, none⟩) 64 x.cap]
/-- The guard: it lies there, in a block that is not B. -/
def Blk.there (B : Nat) (x : Blk) (W : World) : Prop := x.b ≠ B ∧ x.b < W.heap.size ∧ ∀ (j y : Nat), x.bytes[j]? = some y → W.cell? ⟨x.b, x.off + j, none⟩ = some (.int .u8 y)
theorem Blk.there.keep {B : Nat} {x : Blk} {X Y : World} (h : x.there B X) (k : KeepB B X Y) : x.there B Y :=
  ⟨h.1, Nat.lt_of_lt_of_le h.2.1 k.1, fun j y hy => cell_keepB k (h.2.2 j y hy) h.1⟩
theorem Blk.there.rd {B : Nat} {x : Blk} {W : World} (h : x.there B W) : RdN W.heap.size W (some ⟨x.b, x.off, none⟩) x.bytes := fun _ => ⟨x.b, x.off, rfl, h.2.1, fun j y hy => h.2.2 j y hy⟩

/-- WHAT THE ITERATOR OWES: whatever the rounds keep, it hands out blocks that lie there, and returns. -/
def Hands (F : Fence) (n : Nat) (P : Program) (g : Nat) (lb : Array Value) (B : Nat) (S : List Blk → Prop) (w : World) : Prop :=
  ∀ (l : Nat) (J : List Blk → World → Prop) (W : World), Below w.heap.size w W → AbidesFrom W.heap.size J →
    (∀ pre x W1, J pre W1 → x.there B W1 → YieldAt F (n - 1) P l x.enc W1 fun e W' => e = .returned (.bool true) ∧ J (pre ++ [x]) W' ∧ KeepB B W1 W') →
    J [] W → CallsIn F n P g (#[.func (.yield l) #[] #[]] ++ lb) W fun e W' => (∃ v, e = .returned v) ∧ ∃ xs, S xs ∧ J xs W'

theorem wpIn_range_hands {F : Fence} {n : Nat} {P : Program} {g : Operand} {ps : Array Tmp} {assign body : Code} {Q : Exit → Act → World → Prop} {a : Act} {w : World}
    (hro : F.round = none) (h1 : 1 ≤ n) {gf : Nat} {lb : Array Value} (hg : a.eval g = .func (.func gf) #[] lb) (hFg : F.fn gf) (eg : ∀ args w, (callFunc gf args).run P w = .ok (.enter gf args) w)
    {B : Nat} {S : List Blk → Prop} (hseq : Hands F (n - 1) P gf lb B S w) (hps : ps.size = 1)
    (I : List Blk → World → Prop) (hI : OwnFrom w.heap.size I) (h0 : I [] w) (a₁ : Blk → Act)
    (hassign : ∀ (l : Nat) (x : Blk) (W : World) (K : Act → World → Prop), K (a₁ x) W →
      assign.wpIn (F.inRound l) (n - 1 - 1) P (Exit.then K (fun _ _ _ => False)) { tmps := (ps.zip x.enc).foldl (fun t (p, v) => t.setIfInBounds p v) a.tmps, defers := [] } W)
    (hbody : ∀ (l : Nat) (pre : List Blk) (x : Blk) (W : World), I pre W → x.there B W → body.wpIn (F.inRound l) (n - 1 - 1) P (ownPostG w.heap.size (KeepB B) I (fun _ _ _ => False) (pre ++ [x]) W) (a₁ x) W)
    (hdone : ∀ (D : Nat) (xs : List Blk) (W : World), w.heap.size ≤ D → S xs → I xs W → W.heap[D]? = some (.deferred (some [])) → Q .normal { a with defers := { target := .collected D, args := #[] } :: a.defers } W) :
    (Code.rangeFunc g ps assign body).wpIn F n P Q a w := by
  refine wpIn_rangeFunc ?_
  intro fn hfn
  rw [hro]
  have hrec : ∃ rec : LoopState → Option Code → Loop, rec = fun st pe => { state := st, pending := pe, fn, tmps := a.tmps, params := ps, assign, body, defers := w.heap.size } := ⟨_, rfl⟩
  obtain ⟨rec, hrec⟩ := hrec
  have hWL : ∃ WL, (w.alloc (.deferred (some []))).alloc (.loop (rec .ready none)) = WL := ⟨_, rfl⟩
  obtain ⟨WL, hWL⟩ := hWL
  have bel : Below w.heap.size w WL := by rw [← hWL]; exact ((Below.refl _ w).alloc (Nat.le_refl _) _).alloc (by simp) _
  have hD : WL.heap[w.heap.size]? = some (.deferred (some [])) := by
    rw [← hWL]; exact (Below.heap_alloc _ _ _ (by simp)).trans (World.alloc_heap_new w _)
  have hL : WL.heap[w.heap.size + 1]? = some (.loop (rec .ready none)) := by
    rw [← hWL]; simpa using World.alloc_heap_new (w.alloc (.deferred (some []))) (.loop (rec .ready none))
  have hIL : I [] WL := by rw [← hWL]; exact hI.alloc _ (hI.alloc _ h0)
  refine ⟨w.heap.size + 1, [{ target := .collected w.heap.size, args := #[] }], WL, { target := .fn (.func gf) lb, args := #[.func (.yield (w.heap.size + 1)) #[] #[]] }, WL, gf,
    #[.func (.yield (w.heap.size + 1)) #[] #[]] ++ lb, WL, by rw [← hWL, hrec]; exact run_enterLoop_outer _ _ _ _ _, by simp only [resolve, hg]; simp [go_sem], fun f' hf' => by simp [Target.leads] at hf'; subst hf'; exact hFg, by simp [invoke, go_sem, eg], fun _ => h1, ?_⟩
  refine (hseq (w.heap.size + 1) (fun pre W => I pre W ∧ W.heap[w.heap.size + 1]? = some (.loop (rec .ready none)) ∧ W.heap[w.heap.size]? = some (.deferred (some []))) WL bel ?_ ?_ ⟨hIL, hL, hD⟩).mono ?_
  · intro s X Y row hs hgr hr
    have hsz : w.heap.size ≤ WL.heap.size := bel.size
    exact ⟨hI s X Y row hs.1 hgr (fun r e => by obtain ⟨hB, o, ho, hw⟩ := hr r e; exact ⟨by omega, o, ho, Obj.not_cells_of_walk hw⟩), (grownBy_keeps hgr (fun r e => (hr r e).2) hs.2.1 rfl).trans hs.2.1, (grownBy_keeps hgr (fun r e => (hr r e).2) hs.2.2 rfl).trans hs.2.2⟩
  · rintro pre x W ⟨hi, hl, hk⟩ hx
    have hlt : w.heap.size + 1 < W.heap.size := (Array.getElem?_eq_some_iff.1 hl).1
    have hy := run_yield (P := P) (args := x.enc) hl (by rw [hrec]; exact hps.symm)
    rw [hrec] at hy
    refine ⟨fn, _, assign, body, hy, roundIn_of_wpIn hfn (hassign _ x W _ ⟨_, run_beginRound hl (by rw [hrec]), ?_⟩)⟩
    have hl2 : (W.putObj (w.heap.size + 1) (.loop { rec .ready none with state := .busy })).heap[w.heap.size + 1]? = some (.loop { rec .ready none with state := .busy }) := World.putObj_heap_same hlt
    have hk2 : (W.putObj (w.heap.size + 1) (.loop { rec .ready none with state := .busy })).heap[w.heap.size]? = some (.deferred (some [])) := (World.putObj_heap_other (by omega)).trans hk
    have kb := KeepB.putObj B (.loop { rec .ready none with state := .busy }) hl rfl
    refine wpIn_mono (hbody _ pre x _ (hI.putObj _ hi (by omega) hl rfl) (hx.keep kb)) ?_
    rintro e a3 W3 hp
    cases e with
    | normal =>
      obtain ⟨hk3, hkp, hi3⟩ := hp
      have hl3 := hk3.same _ _ (by omega) hl2 rfl
      have her := run_endRound (P := P) none hl3
      rw [hrec] at her hl3 hl
      refine ⟨_, _, her, rfl, ⟨hI.putObj _ hi3 (by omega) hl3 rfl, ?_, (World.putObj_heap_other (by omega)).trans (hk3.same _ _ (Nat.le_refl _) hk2 rfl)⟩, (kb.trans hkp).trans (KeepB.putObj B _ hl3 rfl)⟩
      rw [hrec]
      exact World.putObj_heap_same (Array.getElem?_eq_some_iff.1 hl3).1
    | ret => exact hp.2.elim
    | exit id => exact hp.2.elim
    | goto t => exact hp.2.elim
    | panic ch => exact hp.elim
    | outgrown => exact hp.elim
  · rintro e W2 ⟨⟨v, rfl⟩, xs, hS, hi, hl, hk⟩
    have hel := run_endLoop (P := P) hl (by rw [hrec]; simp)
    rw [hrec] at hel
    exact ⟨none, _, hel, hdone _ xs _ (Nat.le_refl _) hS (hI.putObj _ hi (by omega) hl rfl) ((World.putObj_heap_other (by omega)).trans hk)⟩
end Go.Proofs.YthdlcpnmldhllaaDoor.sl

/-
  LOADS AND STORES OF A WHOLE ARRAY within a fence: in plain regions, and in those that draw.
-/
namespace Go.Proofs.YthdlcpnmldhllaaDoor.sl
open Go.RowKit Go.Shelf
attribute [local go_sem] Oper.semAt_some
variable {F : Fence} {n : Nat} {P : Program} {ops : Array Oper} {rest : List Oper} {o : Oper} {a : Act} {w : World} {K : Act → World → Prop} {Q : Exit → Act → World → Prop} {E : Prop}

theorem opIn_load_mid (ty : TypeId) (x : Operand) (ho : o.op = .load ty x) (b off : Nat) (hx : a.eval x = .pointer (some ⟨b, off, none⟩)) {cs : List Value} {d : TypeDesc} (hc : w.rangeAt b off cs)
    (hu : P.underlying ty = some d) (hd : d.isRow = true) {m : Nat} (hi : (P.info? ty).map (·.size) = some m) (hm : cs.length = m) (h : K (a.put o.dst (.agg cs.toArray)) w) : o.wpIn F n P a w K Q := by
  have hr := run_loadVar_mid (P := P) w b off ty cs d hc hu hd (by rw [hi, hm])
  unfold Oper.wpIn
  refine ⟨by simp [Oper.about, ho], ?_⟩
  rw [Oper.semAt_plain F _ _ (by rw [ho]; intro c hc'; cases hc')]
  unfold execOp
  simp only [ho, hx, Instr.loadAt, Instr.sureAddr, Sem.run_bind, Sem.run_pure, Result.andThen_ok, hr]
  exact h
theorem Arr.range {w : World} {g : Nat} {t : TypeId} {vs : List Value} (h : Arr w g t vs) : w.rangeAt g 0 vs := fun j v hv => by rw [Nat.zero_add, h.cell]; exact hv
theorem opIn_load_arr (ty : TypeId) (x : Operand) (ho : o.op = .load ty x) (g : Nat) (hx : a.eval x = .pointer (some ⟨g, 0, none⟩)) {t : TypeId} {vs : List Value} {d : TypeDesc} (hg : Arr w g t vs)
    (hu : P.underlying ty = some d) (hd : d.isRow = true) {m : Nat} (hi : (P.info? ty).map (·.size) = some m) (hm : vs.length = m) (h : K (a.put o.dst (.agg vs.toArray)) w) : o.wpIn F n P a w K Q :=
  opIn_load_mid ty x ho g 0 hx hg.range hu hd hi hm h
theorem opIn_store_arr (ty : TypeId) (x y : Operand) (ho : o.op = .store ty x y) (g : Nat) (hx : a.eval x = .pointer (some ⟨g, 0, none⟩)) {vs old : List Value} (hy : a.eval y = .agg vs.toArray) {t : TypeId} (hg : Arr w g t old)
    {m : Nat} (hi : (P.info? ty).map (·.size) = some m) (hm : vs.length = m) (hold : old.length = m) (h1 : vs.toArray.all (·.oneCell') = true)
    (h : ∀ w', Hid (Arr w' g t vs) → Hid (Below g w w') → Hid (w'.heap.size = w.heap.size ∧ ∀ k, k ≠ g → w'.heap[k]? = w.heap[k]?) → K (a.put o.dst undef) w') : o.wpIn F n P a w K Q := by
  have hr := run_storeVar_row (P := P) w g t ty old.toArray vs.toArray hg (by rw [hi, ← hm]; rfl) (by simp; omega) h1
  unfold Oper.wpIn
  refine ⟨by simp [Oper.about, ho], ?_⟩
  rw [Oper.semAt_plain F _ _ (by rw [ho]; intro c hc'; cases hc')]
  unfold execOp
  simp only [ho, hx, hy, Instr.storeAt, Instr.sureAddr, Sem.run_bind, Sem.run_pure, Result.andThen_ok, hr]
  exact h _ (Arr.row hg vs) (below_setRow (Below.refl _ _) (Nat.le_refl _) _) ⟨by simp [World.setRow], fun k hk => setRow_other w g k _ hk⟩
/-- In a region that draws. -/
theorem stepIn_of (hgd : o.guard = none) (h : o.wpIn F n P a w K Q) : if Region.wanted o (yielded ops a.tmps) = true then o.wpIn F n P a w K Q else E := by
  rw [if_pos (by simp [Region.wanted, hgd])]; exact h
end Go.Proofs.YthdlcpnmldhllaaDoor.sl

/-
  BYTES PUT BEHIND BYTES: one law for whatever slice comes behind; what is owned can be read.
-/
namespace Go.Proofs.YthdlcpnmldhllaaDoor.sl
open Go.RowKit

theorem run_append_nil0 {P : Program} {w : World} (base : Nat) (t ty e : TypeId) (i : TypeInfo) (size : Nat) (ht : P.underlying t = some (.slice e)) (hi : P.info? e = some i) {v : Value} {n : Nat} {xs : List Value} (hown : w.ownsRow base e size v n xs) (c : Nat) :
    (Builtin.append_ #[t, t] ty #[v, .slice none 0 c]).run P w = .ok v w := by
  rcases hown.2 with ⟨rfl, rfl⟩ | ⟨g, cap, cur, rfl, _, _, hnc, _⟩
  · simp [Builtin.append_, run_underlying ht, sizeOf, typeInfo, hi, Builtin.lenOf, Builtin.firstCells]
  · simp [Builtin.append_, run_underlying ht, sizeOf, typeInfo, hi, Builtin.lenOf, Builtin.firstCells, hnc, storeCells]
theorem wpList_append_bytes {w : World} {ops : Array Oper} {rest : List Oper} {o : Oper} {a : Act} {Q : Exit → Act → World → Prop} {i0 : TypeInfo} (hi : Tryd.prog.info? 5 = some i0) (hz0 : i0.zero = some (.int .u8 0)) (hz1 : i0.size = 1) (hz2 : i0.bytes = 1) (hgd : o.guard = none) (s x : Operand)
    (ho : o.op = .call { callee := .builtin .append, args := #[s, x], argTypes := #[35, 35] }) (base : Nat) (v : Value) (l : List Nat) (hs : a.eval s = v) (hown : w.ownsRow base 5 1 v l.length (u8s l))
    {n₀ m c : Nat} {ad : Option Addr} {bs : List Nat} (hx : a.eval x = .slice ad m c) (hm : bs.length = m) (hr : RdN n₀ w ad bs) (hlen : l.length + bs.length ≤ 140737488355328) (hbase : base ≤ w.heap.size)
    (h : ∀ v' w', Hid (w'.ownsRow base 5 1 v' (l ++ bs).length (u8s (l ++ bs))) → Hid (Below base w w') → wpList Tryd.prog ops Q rest (a.put o.dst v') w') : wpList Tryd.prog ops Q (o :: rest) a w := by
  have go : ∀ ad', ad = some ad' → (∀ j u, (u8s bs)[j]? = some u → w.cell? (ad'.add j) = some u) → wpList Tryd.prog ops Q (o :: rest) a w := by
    rintro ad' rfl hn
    refine wpList_append_own _ hgd s x 35 ho base 5 i0 (.int .u8 0) 1 1 Tryd.underlying35 hi hz0 hz1 hz2 rfl (by decide) v _ _ hs hown ad' m c (u8s bs) hx (by rw [u8s_len, hm, Nat.mul_one]) hn u8s_mem (by unfold maxLen; omega) (by omega) hbase ?_
    intro v' w' h2 h3 _
    refine h v' w' ?_ ((Below.refl base w).grown h3 hbase fun k hk => (hown.lt k hk).1)
    unfold Hid
    rw [List.length_append, hm, u8s_append]
    exact h2
  by_cases h0 : bs = []
  · subst h0
    cases ad with
    | none =>
      refine wpList_plain hgd fun K hK => ?_
      subst hm
      have hrun := run_append_nil0 (P := Tryd.prog) (w := w) base 35 o.type 5 i0 1 Tryd.underlying35 hi hown c
      unfold Oper.wp
      simp only [List.length_nil] at hx
      simp [execOp, ho, resolve, invoke, builtin, hs, hx, hrun, Result.andThen]
      refine hK _ _ (h v w ?_ (Below.refl _ _))
      simpa [Hid] using hown
    | some ad' => exact go ad' rfl (fun j u hu => by simp [u8s] at hu)
  · obtain ⟨b, off, rfl, _, hc⟩ := hr (List.length_pos_iff.2 h0)
    refine go _ rfl fun j u hu => ?_
    have hj' : (bs[j]?).map (fun n : Nat => Value.int .u8 (n : Int)) = some u := by rw [← hu]; simp [u8s]
    cases hx2 : bs[j]? with
    | none => rw [hx2] at hj'; cases hj'
    | some y =>
      rw [hx2] at hj'
      cases hj'
      rw [show (⟨b, off, none⟩ : Addr).add j = ⟨b, off + j, none⟩ by unfold Addr.add; split <;> simp_all]
      exact hc j y hx2
/-- A copy of bytes to a block's head, within a fence. -/
theorem opIn_copy_bytes {F : Fence} {n : Nat} {o : Oper} {a : Act} {w : World} {K : Act → World → Prop} {Q : Exit → Act → World → Prop} (d s : Operand) (ho : o.op = .call { callee := .builtin .copy, args := #[d, s], argTypes := #[35, 35] })
    {g dLen dCap m c n₀ : Nat} {ad : Option Addr} {t : TypeId} {old bs : List Nat} (hd : a.eval d = .slice (some ⟨g, 0, none⟩) dLen dCap) (hs : a.eval s = .slice ad m c) (hm : bs.length = m) (hg : Arr w g t (u8s old)) (hr : RdN n₀ w ad bs) (hfit : bs.length ≤ old.length) (hdl : bs.length ≤ dLen)
    (h : ∀ w', Hid (Arr w' g t (u8s (bs ++ old.drop bs.length))) → Hid (Below g w w') → Hid (w'.heap.size = w.heap.size) → K (a.put o.dst (goInt m)) w') : o.wpIn F n Tryd.prog a w K Q := by
  subst hm
  obtain ⟨w', hrun, hA, hB, hS⟩ := run_copy_u8 (P := Tryd.prog) (dCap := dCap) (sCap := c) (dLen := dLen) Tryd.underlying35 (by kernel_rfl) o.type hg hr hfit hdl
  unfold Oper.wpIn
  refine ⟨by simp [Oper.about, ho, resolve, Target.leads, Sem.run_pure], ?_⟩
  rw [Oper.semAt_plain F _ _ (by rw [ho]; intro c hc'; cases hc')]
  simp [execOp, ho, resolve, invoke, builtin, hd, hs, hrun, Result.andThen]
  exact h w' hA hB hS
/-- What is owned can be read, and is no longer than its room. -/
theorem own_rd {w : World} {base : Nat} {v : Value} {l : List Nat} (h : w.ownsRow base 5 1 v l.length (u8s l)) (hl : 0 < l.length) : ∃ g c, v = .slice (some ⟨g, 0, none⟩) l.length c ∧ l.length ≤ c ∧ c ≤ maxLen ∧ base ≤ g ∧ RdN w.heap.size w (some ⟨g, 0, none⟩) l := by
  have h0 := h
  rcases h.2 with ⟨_, hn⟩ | ⟨g, cap, cur, rfl, hb, hg, h1, h2, _⟩
  · omega
  · refine ⟨g, cap, rfl, h1, h2, hb, fun _ => ⟨g, 0, rfl, (Array.getElem?_eq_some_iff.1 hg).1, fun j x hx => ?_⟩⟩
    have h3 := h0.cells (g := g) rfl j (.int .u8 x) (u8s_get hx)
    have hadd : (⟨g, 0, none⟩ : Addr).add j = ⟨g, 0 + j, none⟩ := by unfold Addr.add; split <;> simp_all
    rwa [hadd] at h3
end Go.Proofs.YthdlcpnmldhllaaDoor.sl

/-
  THE PROGRAM's mixing of a block's words into H.
-/
namespace Go.Proofs.YthdlcpnmldhllaaDoor.sl
open Go.RowKit
theorem Tryd.size145 : (Tryd.prog.info? 145).map (·.size) = some 8 := by kernel_rfl
theorem Tryd.size102 : (Tryd.prog.info? 102).map (·.size) = some 1 := by kernel_rfl
theorem Tryd.size149 : (Tryd.prog.info? 149).map (·.size) = some 64 := by kernel_rfl
theorem addV_get {s t : V8} {k y z : Nat} (hy : s.list[k]? = some y) (hz : t.list[k]? = some z) : (addV s t).list[k]? = some ((y + z) % 4294967296) := by
  match k, hy, hz with
  | 0, hy, hz => cases hy; cases hz; rfl
  | 1, hy, hz => cases hy; cases hz; rfl
  | 2, hy, hz => cases hy; cases hz; rfl
  | 3, hy, hz => cases hy; cases hz; rfl
  | 4, hy, hz => cases hy; cases hz; rfl
  | 5, hy, hz => cases hy; cases hz; rfl
  | 6, hy, hz => cases hy; cases hz; rfl
  | 7, hy, hz => cases hy; cases hz; rfl
set_option maxHeartbeats 3200000 in
set_option maxRecDepth 100000 in
theorem mixed_any (s : V8) (hs : s.ok) (ws : List Nat) (hwl : ws.length = 64) (hw : ∀ x ∈ ws, x < 4294967296) (w : World) (hT : Tabs w) :
    Calls Tryd.prog 79 #[.agg (u32s s.list).toArray, .agg (u32s ws).toArray] w fun e w' => e = .returned (.agg (u32s (mixV s tabK ws).list).toArray) ∧ Below w.heap.size w w' := by
  obtain ⟨R, hR⟩ : ∃ R, mixV s tabK ws = R := ⟨_, rfl⟩
  rw [hR]
  have HR : Hid (mixV s tabK ws = R) := hR
  clear hR
  go_enter Tryd.func79, Tryd.ntmps79
  have A0 := Lib.hid ((Arr.new w 145 (u32s s.list)).alloc (.cells (u32s ws).toArray 149))
  have A1 : Hid (Arr ((w.alloc (.cells (u32s s.list).toArray 145)).alloc (.cells (u32s ws).toArray 149)) (w.heap.size + 1) 149 (u32s ws)) := by simpa [Hid] using Arr.new (w.alloc (.cells (u32s s.list).toArray 145)) 149 (u32s ws)
  have A2 : ∀ (o o' : Obj) (vs : List Value), Arr (((w.alloc o).alloc o').alloc (.cells vs.toArray 145)) (w.heap.size + 1 + 1) 145 vs := fun o o' vs => by simpa using Arr.new ((w.alloc o).alloc o') 145 vs
  have A3 : ∀ (o o' o'' : Obj) (vs : List Value), Arr ((((w.alloc o).alloc o').alloc o'').alloc (.cells vs.toArray 145)) (w.heap.size + 1 + 1 + 1) 145 vs := fun o o' o'' vs => by simpa using Arr.new (((w.alloc o).alloc o').alloc o'') 145 vs
  have B3 : ∀ (o o' o'' o3 : Obj), Below w.heap.size w ((((w.alloc o).alloc o').alloc o'').alloc o3) := fun o o' o'' o3 => ((((Below.refl _ w).alloc (Nat.le_refl _) o).alloc (by simp) o').alloc (by simp; omega) o'').alloc (by simp; omega) o3
  go_wp2_with (first
    | (refine wpList_load_arr rfl 145 (.tmp 2) rfl w.heap.size rfl (A0.out.alloc _) Tryd.underlying145 rfl Tryd.size145 rfl ?_)
    | (refine wpList_store_arr rfl 145 (.tmp 5) (.tmp 21) rfl _ rfl rfl (A3 _ _ _ [.int .u32 0, .int .u32 0, .int .u32 0, .int .u32 0, .int .u32 0, .int .u32 0, .int .u32 0, .int .u32 0]) Tryd.size145 rfl rfl (u32s_one _) ?_; intro W1 AV HB1 hsz1 HO1)
    | (refine wpList_load_arr rfl 149 (.tmp 3) rfl (w.heap.size + 1) rfl (((A1.out.alloc _).alloc _).same HO1.out (by simp)) Tryd.underlying149 rfl Tryd.size149 (by rw [u32s_len, hwl]) ?_))
  have AH := Lib.hid (((A0.out.alloc _).alloc _).same HO1.out (by omega))
  have AR := Lib.hid (((A2 _ _ [.int .u32 0, .int .u32 0, .int .u32 0, .int .u32 0, .int .u32 0, .int .u32 0, .int .u32 0, .int .u32 0]).alloc _).same HO1.out (by omega))
  have BW := Lib.hid ((B3 _ _ _ _).trans (HB1.out.mono (by omega)))
  have hsz : W1.heap.size = w.heap.size + 4 := by simpa using hsz1
  have TW := Lib.hid (hT.below BW.out hT.pos)
  clear HB1 HO1 hsz1 A0 A1 A2 A3 B3 hT
  go_loopw [23] (fun iv wr => ∃ k : Nat, k ≤ 64 ∧ iv = .int .i64 k ∧ Hid (Arr wr (w.heap.size + 1 + 1 + 1) 145 (u32s (rnds s ((tabK.zip ws).take k)).list)) ∧ Hid (Below (w.heap.size + 3) W1 wr)) (fun iv _ => 64 - (intOf iv).toNat)
  case atStart => exact ⟨0, by omega, rfl, AV, Below.refl _ _⟩
  case round =>
    obtain ⟨k, hk, rfl, AK, BK⟩ := hrel
    clear AV
    by_cases hlt : k < 64
    · obtain ⟨x, hx⟩ : ∃ x, ws[k]? = some x := ⟨_, List.getElem?_eq_getElem (by omega)⟩
      obtain ⟨kk, hkk⟩ : ∃ x, tabK[k]? = some x := ⟨_, List.getElem?_eq_getElem (by rw [tabK_len]; omega)⟩
      have hxl := hw x (List.mem_of_getElem? hx)
      have hkl := tabK_lt kk (List.mem_of_getElem? hkk)
      have hz : rnds s ((tabK.zip ws).take (k + 1)) = rnd (rnds s ((tabK.zip ws).take k)) kk x := by
        have e : (tabK.zip ws)[k]? = some (kk, x) := by rw [List.getElem?_zip_eq_some]; exact ⟨hkk, hx⟩
        rw [List.take_add_one, e, Option.toList_some, rnds_snoc]
      have ht := rnds_ok hs ((tabK.zip ws).take k)
      obtain ⟨t, htt⟩ : ∃ t, rnds s ((tabK.zip ws).take k) = t := ⟨_, rfl⟩
      rw [htt] at AK hz ht
      obtain ⟨la, lb, lc, ld, le, lf, lg, lh⟩ := ht
      have c0 := AK.out.cell 0
      have c1 := AK.out.cell 1
      have c2 := AK.out.cell 2
      have c4 := AK.out.cell 4
      have c5 := AK.out.cell 5
      have c6 := AK.out.cell 6
      have c7 := AK.out.cell 7
      have ck := (TW.out.below BK.out (by have := TW.out.pos; omega)).k hkk
      simp only [u32s, V8.list, List.map_cons, List.map_nil, List.getElem?_cons_succ, List.getElem?_cons_zero] at c0 c1 c2 c4 c5 c6 c7
      have hix : (u32s ws).toArray[k]? = some (.int .u32 x) := by simpa using u32s_get hx
      have hrun := fun W => run_index_arr (P := Tryd.prog) Tryd.underlying149 Tryd.underlying102 Tryd.size102 hlt hix W
      have q1 := raw_bS1 le
      have q2 := raw_cho le lf lg
      have q3 := raw_addT t kk x
      have q4 := raw_bS0 la
      have q5 := raw_maj la lb lc
      have q6 := raw_addU t
      have R6 := fun W => right_any t.e 6 le (by decide) W
      have R11 := fun W => right_any t.e 11 le (by decide) W
      have R25 := fun W => right_any t.e 25 le (by decide) W
      have R2 := fun W => right_any t.a 2 la (by decide) W
      have R13 := fun W => right_any t.a 13 la (by decide) W
      have R22 := fun W => right_any t.a 22 la (by decide) W
      go_wp2
      go_quiet (fail)
      go_wp2_with (first
        | (go_at_call_of 86 (Value.int IntKind.i64 6); refine (R6 _).mono ?_; rintro e W ⟨rfl, m6, rfl⟩)
        | (go_at_call_of 86 (Value.int IntKind.i64 11); refine (R11 _).mono ?_; rintro e W ⟨rfl, m11, rfl⟩)
        | (go_at_call_of 86 (Value.int IntKind.i64 25); refine (R25 _).mono ?_; rintro e W ⟨rfl, m25, rfl⟩)
        | (go_at_call_of 86 (Value.int IntKind.i64 2); refine (R2 _).mono ?_; rintro e W ⟨rfl, m2, rfl⟩)
        | (go_at_call_of 86 (Value.int IntKind.i64 13); refine (R13 _).mono ?_; rintro e W ⟨rfl, m13, rfl⟩)
        | (go_at_call_of 86 (Value.int IntKind.i64 22); refine (R22 _).mono ?_; rintro e W ⟨rfl, m22, rfl⟩))
      have hcopy : ∀ m : Nat, (Builtin.copy_ #[158, 158] 3 #[.slice (some ⟨w.heap.size + 1 + 1 + 1, 1, none⟩) 7 7, .slice (some ⟨w.heap.size + 1 + 1 + 1, 0, none⟩) 7 8]).run Tryd.prog (wr.drewN m) = .ok (goInt 7) ((wr.drewN m).setRow (w.heap.size + 1 + 1 + 1) (u32s [t.a, t.a, t.b, t.c, t.d, t.e, t.f, t.g]).toArray) := by
        intro m
        have h := run_copy_row (P := Tryd.prog) (wr.drewN m) 158 158 3 102 (w.heap.size + 1 + 1 + 1) 1 7 7 ⟨w.heap.size + 1 + 1 + 1, 0, none⟩ 7 8 (u32s t.list).toArray 145 (u32s [t.a, t.b, t.c, t.d, t.e, t.f, t.g]) Tryd.underlying158 Tryd.size102 AK.out rfl ?_ (Nat.le_refl _) ?_
        · simpa [u32s, V8.list] using h
        · intro j v hj
          have e := AK.out.cell j
          have hj7 : j < 7 := by simpa [u32s] using (List.getElem?_eq_some_iff.1 hj).1
          have e2 : (u32s t.list)[j]? = some v := by
            rw [← hj]
            match j, hj7 with
            | 0, _ => rfl
            | 1, _ => rfl
            | 2, _ => rfl
            | 3, _ => rfl
            | 4, _ => rfl
            | 5, _ => rfl
            | 6, _ => rfl
          rw [← e2, ← e]
          show wr.cell? ((⟨w.heap.size + 1 + 1 + 1, 0, none⟩ : Addr).add j) = _
          rw [show (⟨w.heap.size + 1 + 1 + 1, 0, none⟩ : Addr).add j = ⟨w.heap.size + 1 + 1 + 1, j, none⟩ by unfold Addr.add; split <;> simp_all]
        · exact fun v hv => (Array.all_eq_true_iff_forall_mem.1 (u32s_one [t.a, t.b, t.c, t.d, t.e, t.f, t.g])) v (by simpa using hv)
      go_region
      have AV2 := Lib.hid ((show Arr (wr.drewN (nq + m6 + m11 + m25 + m2 + m13 + m22 + 1)) _ _ _ from AK.out).row (u32s [t.a, t.a, t.b, t.c, t.d, t.e, t.f, t.g]))
      have BK2 := Lib.hid (below_setRow (g := w.heap.size + 1 + 1 + 1) (show Below (w.heap.size + 3) W1 (wr.drewN (nq + m6 + m11 + m25 + m2 + m13 + m22 + 1)) from below_drewN BK.out _) (by omega) (u32s [t.a, t.a, t.b, t.c, t.d, t.e, t.f, t.g]).toArray)
      obtain ⟨W2, hW2⟩ : ∃ W2, ((wr.drewN (nq + m6 + m11 + m25 + m2 + m13 + m22 + 1)).setRow (w.heap.size + 1 + 1 + 1) (u32s [t.a, t.a, t.b, t.c, t.d, t.e, t.f, t.g]).toArray) = W2 := ⟨_, rfl⟩
      rw [hW2] at AV2 BK2 ⊢
      clear hW2 hcopy hrun hix AK BK ck R6 R11 R25 R2 R13 R22
      have d4 := AV2.out.cell 4
      have f4 := AV2.out.frozen 4
      have d0 := AV2.out.cell 0
      have f0 := AV2.out.frozen 0
      simp only [u32s, List.map_cons, List.map_nil, List.getElem?_cons_succ, List.getElem?_cons_zero] at d4 d0
      have q7 : (((t.d : Int) + (addT t kk x : Nat)) % 4294967296) = ((rnd t kk x).e : Nat) := by simp [rnd]
      have q8 : ((((addT t kk x : Nat) : Int) + (addU t : Nat)) % 4294967296) = ((rnd t kk x).a : Nat) := by simp [rnd]
      go_wp2
      go_roundw
      case rel =>
        refine ⟨k + 1, by omega, by go_num, ?_, ?_⟩
        · rw [hz]
          exact (AV2.out.set 4 _).set 0 _
        · exact Lib.hid ((BK2.out.setCell (p := ⟨w.heap.size + 1 + 1 + 1, 4, none⟩) (by simp) _).setCell (p := ⟨w.heap.size + 1 + 1 + 1, 0, none⟩) (by simp) _)
      case measure => simp [intOf]; omega
    · obtain rfl : k = 64 := by omega
      have hzl : (tabK.zip ws).take 64 = tabK.zip ws := List.take_of_length_le (by rw [List.length_zip, tabK_len, hwl]; decide)
      rw [hzl] at AK
      have ht := rnds_ok hs (tabK.zip ws)
      have hmx : mixV s tabK ws = addV s (rnds s (tabK.zip ws)) := rfl
      have HR2 : Hid (addV s (rnds s (tabK.zip ws)) = R) := hmx ▸ HR.out
      obtain ⟨t, htt⟩ : ∃ t, rnds s (tabK.zip ws) = t := ⟨_, rfl⟩
      rw [htt] at AK ht HR2
      clear hmx hzl htt HR
      have AH2 := Lib.hid (AH.out.below BK.out (by omega))
      have AR2 := Lib.hid (AR.out.below BK.out (by omega))
      have BW2 := Lib.hid (BW.out.trans (BK.out.mono (by omega)))
      clear AH AR BW TW
      go_wp2_with (first
        | (refine wpList_load_arr rfl 145 (.tmp 5) rfl _ rfl AK.out Tryd.underlying145 rfl Tryd.size145 rfl ?_))
      go_loopw [102] (fun iv wq => ∃ k : Nat, k ≤ 8 ∧ iv = .int .i64 k ∧ Hid (Arr wq w.heap.size 145 (u32s ((addV s t).list.take k ++ s.list.drop k))) ∧ Hid (Arr wq (w.heap.size + 1 + 1) 145 [.int .u32 0, .int .u32 0, .int .u32 0, .int .u32 0, .int .u32 0, .int .u32 0, .int .u32 0, .int .u32 0]) ∧ Hid (Below w.heap.size w wq)) (fun iv _ => 8 - (intOf iv).toNat)
      case atStart => exact ⟨0, by omega, rfl, AH2, AR2, BW2⟩
      case round =>
        obtain ⟨k, hk, rfl, AQ, AQR, BQ⟩ := hrel
        clear AH2 AR2 BW2
        by_cases hlt : k < 8
        · obtain ⟨y, hy⟩ : ∃ y, s.list[k]? = some y := ⟨_, List.getElem?_eq_getElem hlt⟩
          obtain ⟨z, hz⟩ : ∃ z, t.list[k]? = some z := ⟨_, List.getElem?_eq_getElem hlt⟩
          have hyz := addV_get hy hz
          have hix : (u32s t.list).toArray[k]? = some (.int .u32 z) := by simpa using u32s_get hz
          have hrun := fun W => run_index_arr (P := Tryd.prog) Tryd.underlying145 Tryd.underlying102 Tryd.size102 hlt hix W
          have ck : wr.cell? ⟨w.heap.size, k, none⟩ = some (.int .u32 y) := by
            rw [AQ.out.cell k]
            refine u32s_get ?_
            rw [List.getElem?_append_right (by simp; omega), List.getElem?_drop, ← hy]
            congr 1
            have : (addV s t).list.length = 8 := rfl
            simp [this]; omega
          have fk := AQ.out.frozen k
          go_wp2
          go_roundw
          case rel =>
            refine ⟨k + 1, by omega, by go_num, ?_, AQR.out.other (by omega) _ _, BQ.out.setCell (p := ⟨w.heap.size, k, none⟩) (by simp) _⟩
            have e := set_step (A := (addV s t).list) (B := s.list) rfl hyz
            have h := AQ.out.set k (.int .u32 ((y + z) % 4294967296 : Nat))
            unfold Hid
            rw [← e]
            simpa [u32s, List.map_set] using h
          case measure => simp [intOf]; omega
        · obtain rfl : k = 8 := by omega
          have hl8 : (addV s t).list.take 8 ++ s.list.drop 8 = (addV s t).list := rfl
          rw [hl8, HR2.out] at AQ
          go_wp2_with (first
            | (refine wpList_load_arr rfl 145 (.tmp 2) rfl _ rfl AQ.out Tryd.underlying145 rfl Tryd.size145 rfl ?_)
            | (refine wpList_store_arr rfl 145 (.tmp 4) (.tmp 113) rfl _ rfl rfl AQR.out Tryd.size145 rfl rfl (u32s_one _) ?_; intro W5 A5 B5 hsz5 HO5))
          refine bodyPost_ret (results_arr rfl rfl A5.out Tryd.underlying145 rfl Tryd.size145 rfl) rfl ?_
          exact ⟨rfl, BQ.out.trans (B5.out.mono (by omega))⟩
end Go.Proofs.YthdlcpnmldhllaaDoor.sl

/-
  THE PROGRAM's words of a block.
-/
namespace Go.Proofs.YthdlcpnmldhllaaDoor.sl
open Go.RowKit
theorem Arr.new2 (w : World) (o : Obj) (t : TypeId) (vs : List Value) : Arr ((w.alloc o).alloc (.cells vs.toArray t)) (w.heap.size + 1) t vs := by simpa using Arr.new (w.alloc o) t vs
theorem u32s_set (l : List Nat) (i n : Nat) : u32s (l.set i n) = (u32s l).set i (.int .u32 n) := by simp [u32s, List.map_set]
theorem moreP_lt {n : Nat} (_ : n ≤ 48) {b : List Nat} (hb : ∀ x ∈ b, x < 256) : ∀ x ∈ moreP n b, x < 4294967296 := by
  intro x hx
  rcases List.mem_append.1 hx with h | h
  · exact more_lt n (words16_lt hb) x h
  · rw [(List.mem_replicate.1 h).2]; decide
set_option maxHeartbeats 1600000 in
set_option maxRecDepth 100000 in
theorem schedule_any (a : Option Addr) (cap : Nat) (b : List Nat) (hl : b.length = 64) (hb : ∀ x ∈ b, x < 256) (w : World) (hr : RdN w.heap.size w a b) :
    Calls Tryd.prog 80 #[.slice a 64 cap] w fun e w' => e = .returned (.agg (u32s (schedL b)).toArray) ∧ Below w.heap.size w w' := by
  obtain ⟨bb, off, rfl, hbb, hc⟩ := hr (by omega)
  obtain ⟨R, hR⟩ : ∃ R, schedL b = R := ⟨_, rfl⟩
  rw [hR]
  have HR : Hid (Unit → schedL b = R) := fun _ => hR
  clear hR
  go_enter Tryd.func80, Tryd.ntmps80
  go_wp2
  obtain ⟨W0, hW0⟩ : ∃ W0, (w.alloc (.cells (List.replicate 64 (.int .u32 0)).toArray 149)).alloc (.cells (List.replicate 64 (.int .u32 0)).toArray 149) = W0 := ⟨_, rfl⟩
  have AR : Hid (Arr W0 w.heap.size 149 (u32s (List.replicate 64 0))) := by rw [← hW0]; exact (Arr.new w 149 (u32s (List.replicate 64 0))).alloc _
  have AW : Hid (Arr W0 (w.heap.size + 1) 149 (u32s (partW b 0))) := by
    rw [← hW0, partW_zero]
    exact Arr.new2 w _ 149 (u32s (List.replicate 64 0))
  have BW : Hid (Below w.heap.size w W0) := by rw [← hW0]; exact ((Below.refl _ w).alloc (Nat.le_refl _) _).alloc (by simp) _
  have hsz : W0.heap.size = w.heap.size + 2 := by rw [← hW0]; simp
  simp only [List.replicate_succ, List.replicate_zero] at hW0
  rw [hW0]
  clear hW0
  go_loopw [13] (fun iv wr => ∃ k : Nat, k ≤ 64 ∧ iv = .int .i64 k ∧ Hid (Arr wr (w.heap.size + 1) 149 (u32s (partW b k))) ∧ Hid (Below (w.heap.size + 1) W0 wr)) (fun iv _ => 64 - (intOf iv).toNat)
  case atStart => exact ⟨0, by omega, rfl, AW, Below.refl _ _⟩
  case round =>
    obtain ⟨k, hk, rfl, AK, BK⟩ := hrel
    clear AW
    by_cases hlt : k < 64
    · obtain ⟨x, hx⟩ : ∃ x, b[k]? = some x := ⟨_, List.getElem?_eq_getElem (by omega)⟩
      have hx8 := hb x (List.mem_of_getElem? hx)
      obtain ⟨p, hp, hp3, hstep⟩ := partW_at hb hlt
      have hst := Lib.hid (hstep x hx)
      have c0 : wr.cell? ⟨bb, off + k, none⟩ = some (.int .u8 x) := (BW.out.trans (BK.out.mono (by omega))).cell (p := ⟨bb, off + k, none⟩) hbb |>.trans (hc k x hx)
      have c1 : wr.cell? ⟨w.heap.size + 1, k / 4, none⟩ = some (.int .u32 p) := by rw [AK.out.cell]; exact u32s_get hp
      have f1 := AK.out.frozen (k / 4)
      have ho : bits .or .u32 ((p : Int) * 256) (x : Int) = (p : Int) * 256 + x := by
        have h := or_byte hp3 hx8
        rw [Int.emod_eq_of_lt (by omega) (by omega)] at h
        rw [h]; omega
      clear hstep hp hc hx hb hr
      go_wp2
      go_roundw
      case rel =>
        refine ⟨k + 1, by omega, by go_num, ?_, BK.out.setCell (p := ⟨w.heap.size + 1, k / 4, none⟩) (by simp) _⟩
        have e : ((p * 256 + x : Nat) : Int) = (p : Int) * 256 + x := by omega
        unfold Hid
        rw [← hst.out, u32s_set, e]
        exact AK.out.set (k / 4) (.int .u32 ((p : Int) * 256 + x))
      case measure => simp [intOf]; omega
    · obtain rfl : k = 64 := by omega
      rw [partW_full] at AK
      have AR2 := Lib.hid (AR.out.below BK.out (by omega))
      have BW2 := Lib.hid (BW.out.trans (BK.out.mono (by omega)))
      have hsz2 : w.heap.size + 2 ≤ wr.heap.size := by have := BK.out.size; omega
      clear AR BW BK hsz hr
      rw [show ((64 : Nat) : Int) = 64 from rfl]
      go_wp2
      go_loopw [6] (fun tv wq => ∃ n : Nat, n ≤ 48 ∧ tv = .int .i64 (16 + n : Nat) ∧ Hid (Arr wq (w.heap.size + 1) 149 (u32s (moreP n b))) ∧ Hid (Arr wq w.heap.size 149 (u32s (List.replicate 64 0))) ∧ Hid (Below w.heap.size w wq)) (fun tv _ => 64 - (intOf tv).toNat)
      case atStart => exact ⟨0, by omega, rfl, AK, AR2, BW2⟩
      case round =>
        obtain ⟨n, hn, rfl, AM, AQ, BQ⟩ := hrel
        clear AK AR2 BW2 hsz2
        by_cases hlt : n < 48
        · obtain ⟨x2, g2⟩ : ∃ x, (moreP n b)[16 + n - 2]? = some x := ⟨_, List.getElem?_eq_getElem (by rw [moreP_len hn]; omega)⟩
          obtain ⟨x7, g7⟩ : ∃ x, (moreP n b)[16 + n - 7]? = some x := ⟨_, List.getElem?_eq_getElem (by rw [moreP_len hn]; omega)⟩
          obtain ⟨x15, g15⟩ : ∃ x, (moreP n b)[16 + n - 15]? = some x := ⟨_, List.getElem?_eq_getElem (by rw [moreP_len hn]; omega)⟩
          obtain ⟨x16, g16⟩ : ∃ x, (moreP n b)[16 + n - 16]? = some x := ⟨_, List.getElem?_eq_getElem (by rw [moreP_len hn]; omega)⟩
          obtain ⟨x0, g0⟩ : ∃ x, (moreP n b)[16 + n]? = some x := ⟨_, List.getElem?_eq_getElem (by rw [moreP_len hn]; omega)⟩
          have hml := moreP_lt hn hb
          have l2 := hml x2 (List.mem_of_getElem? g2)
          have l15 := hml x15 (List.mem_of_getElem? g15)
          have hst := Lib.hid (moreP_step hlt b g2 g7 g15 g16)
          obtain ⟨t, ht⟩ : ∃ t, 16 + n = t := ⟨_, rfl⟩
          rw [ht] at g0 g2 g7 g15 g16 hst
          rw [ht]
          have ht1 : 16 ≤ t := by omega
          have ht2 : t < 64 := by omega
          have c2 : wr.cell? ⟨w.heap.size + 1, t - 2, none⟩ = some (.int .u32 x2) := by rw [AM.out.cell]; exact u32s_get g2
          have c7 : wr.cell? ⟨w.heap.size + 1, t - 7, none⟩ = some (.int .u32 x7) := by rw [AM.out.cell]; exact u32s_get g7
          have c15 : wr.cell? ⟨w.heap.size + 1, t - 15, none⟩ = some (.int .u32 x15) := by rw [AM.out.cell]; exact u32s_get g15
          have c16 : wr.cell? ⟨w.heap.size + 1, t - 16, none⟩ = some (.int .u32 x16) := by rw [AM.out.cell]; exact u32s_get g16
          have ct : wr.cell? ⟨w.heap.size + 1, t, none⟩ = some (.int .u32 x0) := by rw [AM.out.cell]; exact u32s_get g0
          have ft := AM.out.frozen t
          clear hml g0 g2 g7 g15 g16 hb
          have q1 := raw_lS0 l15
          have q2 := raw_lS1 l2
          have R7 := fun W => right_any x15 7 l15 (by decide) W
          have R18 := fun W => right_any x15 18 l15 (by decide) W
          have R17 := fun W => right_any x2 17 l2 (by decide) W
          have R19 := fun W => right_any x2 19 l2 (by decide) W
          go_wp2
          go_quiet (fail)
          go_wp2_with (first
            | (go_at_call_of 86 (Value.int IntKind.i64 7); refine (R7 _).mono ?_; rintro e W ⟨rfl, m7, rfl⟩)
            | (go_at_call_of 86 (Value.int IntKind.i64 18); refine (R18 _).mono ?_; rintro e W ⟨rfl, m18, rfl⟩)
            | (go_at_call_of 86 (Value.int IntKind.i64 17); refine (R17 _).mono ?_; rintro e W ⟨rfl, m17, rfl⟩)
            | (go_at_call_of 86 (Value.int IntKind.i64 19); refine (R19 _).mono ?_; rintro e W ⟨rfl, m19, rfl⟩))
          clear R7 R18 R17 R19
          go_region
          go_wp2
          go_roundw
          case rel =>
            refine ⟨n + 1, by omega, by congr 1; omega, ?_, ((show Arr (wr.drewN _) _ _ _ from AQ.out).other (by omega) _ _), (below_drewN BQ.out _).setCell (p := ⟨w.heap.size + 1, t, none⟩) (by simp) _⟩
            have e : (((lS1 x2 + x7 + lS0 x15 + x16) % 4294967296 : Nat) : Int) = (((lS1 x2 : Nat) : Int) + (x7 : Int) + (lS0 x15 : Nat) + (x16 : Int)) % 4294967296 := by omega
            unfold Hid
            rw [← hst.out, u32s_set, e]
            exact (show Arr (wr.drewN _) _ _ _ from AM.out).set t _
          case measure => simp [intOf]; omega
        · obtain rfl : n = 48 := by omega
          rw [show ((16 + 48 : Nat) : Int) = 64 from rfl]
          rw [moreP_end, HR.out ()] at AM
          have hRl : R.length = 64 := by rw [← HR.out ()]; exact schedL_len b
          go_wp2_with (first
            | (refine wpList_load_arr rfl 149 (.tmp 3) rfl _ rfl AM.out Tryd.underlying149 rfl Tryd.size149 (by rw [u32s_len, hRl]) ?_)
            | (refine wpList_store_arr rfl 149 (.tmp 2) (.tmp 73) rfl _ rfl rfl AQ.out Tryd.size149 (by rw [u32s_len, hRl]) (by rw [u32s_len, List.length_replicate]) (u32s_one _) ?_; intro W5 A5 B5 hsz5 HO5))
          refine bodyPost_ret (results_arr rfl rfl A5.out Tryd.underlying149 rfl Tryd.size149 (by rw [u32s_len, hRl])) rfl ?_
          exact ⟨rfl, BQ.out.trans B5.out⟩
end Go.Proofs.YthdlcpnmldhllaaDoor.sl

/-
  THE PROGRAM's padding of the last part.
-/
namespace Go.Proofs.YthdlcpnmldhllaaDoor.sl
open Go.RowKit
theorem Tryd.size5 : (Tryd.prog.info? 5).map (·.size) = some 1 := by kernel_rfl
set_option maxHeartbeats 1600000 in
set_option maxRecDepth 100000 in
theorem padded_any (a : Option Addr) (cap : Nat) (b : List Nat) (hl : b.length < 64) (hb : ∀ x ∈ b, x < 256) (n : Nat) (hn : n < 1152921504606846976) (w : World) (hr : RdN w.heap.size w a b) :
    Calls Tryd.prog 85 #[.slice a b.length cap, .int .i64 n] w fun e w' => (∃ g, e = .returned (.slice (some ⟨g, 0, none⟩) (padL b n).length (padL b n).length) ∧ w.heap.size ≤ g ∧ Arr w' g 5 (u8s (padL b n))) ∧ Below w.heap.size w w' := by
  obtain ⟨i0, hi, hz0, hz1, hz2⟩ := info_parts Tryd.info5
  by_cases h9 : 64 < b.length + 9
  · obtain ⟨Zs, hZs⟩ : ∃ Zs : List Nat, List.replicate 128 0 = Zs := ⟨_, rfl⟩
    have HZs : Hid (Unit → Zs = List.replicate 128 0) := fun _ => hZs.symm
    have hZl : (u8s Zs).length = 128 := by rw [← hZs, u8s_len, List.length_replicate]
    have hmk : ∀ W : World, (Instr.makeSlice 35 (.int .i64 128) (.int .i64 128)).run Tryd.prog W = .ok (.slice (some ⟨W.heap.size, 0, none⟩) 128 128) (W.alloc (.cells (u8s Zs).toArray 5)) := fun W => by rw [← hZs]; exact run_make_u8 (l := 128) (c := 128) Tryd.underlying35 hi hz0 hz1 hz2 (by decide) (by decide) W
    obtain ⟨Z, hZ⟩ : ∃ Z, padZ b.length = Z := ⟨_, rfl⟩
    have hZS : b.length + 1 + Z + 8 = 128 := by rw [← hZ]; unfold padZ; omega
    obtain ⟨m, hm⟩ : ∃ m, b.length = m := ⟨_, rfl⟩
    rw [padL_eq, hZ]
    have HB := Lib.hid hb
    have HBL := Lib.hid hm
    rw [hm] at hZS hl h9 ⊢
    clear hZ hm hb hZs
    go_enter Tryd.func85, Tryd.ntmps85
    have A0 := Arr.new w 5 (u8s Zs)
    obtain ⟨w1, hcopy, hA1, hB1, _⟩ := run_copy_u8 (P := Tryd.prog) (dCap := 128) (sCap := cap) (dLen := 128) Tryd.underlying35 Tryd.size5 3 A0 (hr.below ((Below.refl w.heap.size w).alloc (Nat.le_refl _) (.cells (u8s Zs).toArray 5)) (Nat.le_refl _)) (by rw [HZs.out (), HBL.out, List.length_replicate]; omega) (by rw [HBL.out]; omega)
    rw [HBL.out] at hcopy hA1
    have A1 : Hid (Arr w1 w.heap.size 5 (u8s (b ++ List.replicate (128 - m) 0))) := by
      rw [HZs.out (), List.drop_replicate] at hA1
      exact hA1
    have HB1 := Lib.hid (((Below.refl w.heap.size w).alloc (Nat.le_refl _) (.cells (u8s Zs).toArray 5)).trans hB1)
    clear hA1 hB1 A0
    have cm : w1.cell? ⟨w.heap.size, m, none⟩ = some (.int .u8 (0 : Nat)) := by
      rw [A1.out.cell]
      refine u8s_get ?_
      rw [List.getElem?_append_right (by rw [HBL.out]; omega), HBL.out, List.getElem?_replicate, if_pos (by omega)]
    have fm := A1.out.frozen m
    go_wp2
    have e2 : (b ++ List.replicate (128 - m) 0).set m 128 = (b ++ 128 :: List.replicate Z 0) ++ beJ 0 (8 * n) := by
      rw [List.set_append_right _ _ (by rw [HBL.out]; omega), HBL.out, Nat.sub_self, show 128 - m = (Z + 8) + 1 by omega, List.replicate_succ, List.set_cons_zero, ← List.replicate_append_replicate, beJ_zero]
      simp
    have A2 : Hid (Arr (w1.setCell ⟨w.heap.size, m, none⟩ (.int .u8 128)) w.heap.size 5 (u8s ((b ++ 128 :: List.replicate Z 0) ++ beJ 0 (8 * n)))) := by
      rw [← e2, u8s_set]
      exact A1.out.set m _
    have HB2 := Lib.hid (HB1.out.setCell (p := ⟨w.heap.size, m, none⟩) (Nat.le_refl _) (.int .u8 128))
    have hs2 : w.heap.size < (w1.setCell ⟨w.heap.size, m, none⟩ (.int .u8 128)).heap.size := A2.out.lt
    obtain ⟨W2, hW2⟩ : ∃ W2, w1.setCell ⟨w.heap.size, m, none⟩ (.int .u8 128) = W2 := ⟨_, rfl⟩
    rw [hW2] at A2 HB2 hs2 ⊢
    clear hW2 A1 HB1 cm fm e2
    obtain ⟨L, hL⟩ : ∃ L, b ++ 128 :: List.replicate Z 0 = L := ⟨_, rfl⟩
    have hLl : L.length = 128 - 8 := by rw [← hL]; simp [HBL.out]; omega
    have HLe : Hid (Unit → b ++ 128 :: List.replicate Z 0 = L) := fun _ => hL
    rw [hL] at A2
    clear hL
    go_loopw [7, 8] (fun bv iv wr => ∃ (j q : Nat), j ≤ 8 ∧ Hid (8 * n / 256 ^ j = q) ∧ q < 18446744073709551616 ∧ bv = .int .u64 q ∧ iv = .int .i64 (128 - 1 - (j : Int)) ∧ Hid (Arr wr w.heap.size 5 (u8s (L ++ beJ j (8 * n)))) ∧ Hid (Below w.heap.size w wr)) (fun bv _ _ => (intOf bv).toNat)
    case atStart => exact ⟨0, 8 * n, by omega, by simp [Hid], by omega, by go_num, by go_num, A2, HB2⟩
    case round =>
      obtain ⟨j, q, hj, hq, hql, rfl, rfl, AJ, BJ⟩ := hrel
      clear A2 HB2
      by_cases hpos : 0 < q
      · have hj8 : j < 8 := by
          rcases Nat.lt_or_ge j 8 with h | h
          · exact h
          · exfalso
            have e : j = 8 := by omega
            have := hq.out
            rw [e] at this
            have e2 : (256 : Nat) ^ 8 = 18446744073709551616 := by decide
            rw [e2] at this
            omega
        obtain ⟨p, hp⟩ : ∃ p, 128 - 1 - j = p := ⟨_, rfl⟩
        have hpi : (128 - 1 - (j : Int)) = (p : Int) := by omega
        have hb7 := beJ_step hj8 (8 * n)
        rw [hq.out] at hb7
        have hset : Hid ((L ++ beJ j (8 * n)).set p (q % 256) = L ++ beJ (j + 1) (8 * n)) := by
          unfold Hid
          rw [List.set_append_right _ _ (by omega), hLl, show p - (128 - 8) = 7 - j by omega, hb7]
        have hq2 : Hid (8 * n / 256 ^ (j + 1) = q / 256) := by
          unfold Hid
          rw [Nat.pow_succ, ← Nat.div_div_eq_div_mul, hq.out]
        obtain ⟨y, hy⟩ : ∃ y, (L ++ beJ j (8 * n))[p]? = some y := ⟨_, List.getElem?_eq_getElem (by rw [List.length_append, hLl, beJ_len hj]; omega)⟩
        have cp : wr.cell? ⟨w.heap.size, p, none⟩ = some (.int .u8 y) := by rw [AJ.out.cell]; exact u8s_get hy
        have fp := AJ.out.frozen p
        rw [hpi]
        have hp0 : p < 128 := by omega
        clear hb7 hy hq
        go_wp2
        go_roundw
        case rel =>
          refine ⟨j + 1, q / 256, by omega, hq2, by omega, by go_num, by congr 1; omega, ?_, BJ.out.setCell (p := ⟨w.heap.size, p, none⟩) (Nat.le_refl _) _⟩
          have e : ((q % 256 : Nat) : Int) = (q : Int) % 256 := by omega
          unfold Hid
          rw [← hset.out, u8s_set, e]
          exact AJ.out.set p _
        case measure => simp [intOf]; omega
      · obtain rfl : q = 0 := by omega
        have hbe := beJ_end hj hq.out
        rw [hbe] at AJ
        go_wp2
        go_ret
        have e : (L ++ be (8 * n)).length = 128 := by rw [List.length_append, hLl]; rfl
        rw [← HLe.out ()] at AJ e
        refine ⟨⟨w.heap.size, ?_, Nat.le_refl _, AJ.out⟩, BJ.out⟩
        exact congrArg (fun k => Ending.returned (.slice (some ⟨w.heap.size, 0, none⟩) k k)) e.symm
  · obtain ⟨Zs, hZs⟩ : ∃ Zs : List Nat, List.replicate 64 0 = Zs := ⟨_, rfl⟩
    have HZs : Hid (Unit → Zs = List.replicate 64 0) := fun _ => hZs.symm
    have hZl : (u8s Zs).length = 64 := by rw [← hZs, u8s_len, List.length_replicate]
    have hmk : ∀ W : World, (Instr.makeSlice 35 (.int .i64 64) (.int .i64 64)).run Tryd.prog W = .ok (.slice (some ⟨W.heap.size, 0, none⟩) 64 64) (W.alloc (.cells (u8s Zs).toArray 5)) := fun W => by rw [← hZs]; exact run_make_u8 (l := 64) (c := 64) Tryd.underlying35 hi hz0 hz1 hz2 (by decide) (by decide) W
    obtain ⟨Z, hZ⟩ : ∃ Z, padZ b.length = Z := ⟨_, rfl⟩
    have hZS : b.length + 1 + Z + 8 = 64 := by rw [← hZ]; unfold padZ; omega
    obtain ⟨m, hm⟩ : ∃ m, b.length = m := ⟨_, rfl⟩
    rw [padL_eq, hZ]
    have HB := Lib.hid hb
    have HBL := Lib.hid hm
    rw [hm] at hZS hl h9 ⊢
    clear hZ hm hb hZs
    go_enter Tryd.func85, Tryd.ntmps85
    have A0 := Arr.new w 5 (u8s Zs)
    obtain ⟨w1, hcopy, hA1, hB1, _⟩ := run_copy_u8 (P := Tryd.prog) (dCap := 64) (sCap := cap) (dLen := 64) Tryd.underlying35 Tryd.size5 3 A0 (hr.below ((Below.refl w.heap.size w).alloc (Nat.le_refl _) (.cells (u8s Zs).toArray 5)) (Nat.le_refl _)) (by rw [HZs.out (), HBL.out, List.length_replicate]; omega) (by rw [HBL.out]; omega)
    rw [HBL.out] at hcopy hA1
    have A1 : Hid (Arr w1 w.heap.size 5 (u8s (b ++ List.replicate (64 - m) 0))) := by
      rw [HZs.out (), List.drop_replicate] at hA1
      exact hA1
    have HB1 := Lib.hid (((Below.refl w.heap.size w).alloc (Nat.le_refl _) (.cells (u8s Zs).toArray 5)).trans hB1)
    clear hA1 hB1 A0
    have cm : w1.cell? ⟨w.heap.size, m, none⟩ = some (.int .u8 (0 : Nat)) := by
      rw [A1.out.cell]
      refine u8s_get ?_
      rw [List.getElem?_append_right (by rw [HBL.out]; omega), HBL.out, List.getElem?_replicate, if_pos (by omega)]
    have fm := A1.out.frozen m
    go_wp2
    have e2 : (b ++ List.replicate (64 - m) 0).set m 128 = (b ++ 128 :: List.replicate Z 0) ++ beJ 0 (8 * n) := by
      rw [List.set_append_right _ _ (by rw [HBL.out]; omega), HBL.out, Nat.sub_self, show 64 - m = (Z + 8) + 1 by omega, List.replicate_succ, List.set_cons_zero, ← List.replicate_append_replicate, beJ_zero]
      simp
    have A2 : Hid (Arr (w1.setCell ⟨w.heap.size, m, none⟩ (.int .u8 128)) w.heap.size 5 (u8s ((b ++ 128 :: List.replicate Z 0) ++ beJ 0 (8 * n)))) := by
      rw [← e2, u8s_set]
      exact A1.out.set m _
    have HB2 := Lib.hid (HB1.out.setCell (p := ⟨w.heap.size, m, none⟩) (Nat.le_refl _) (.int .u8 128))
    have hs2 : w.heap.size < (w1.setCell ⟨w.heap.size, m, none⟩ (.int .u8 128)).heap.size := A2.out.lt
    obtain ⟨W2, hW2⟩ : ∃ W2, w1.setCell ⟨w.heap.size, m, none⟩ (.int .u8 128) = W2 := ⟨_, rfl⟩
    rw [hW2] at A2 HB2 hs2 ⊢
    clear hW2 A1 HB1 cm fm e2
    obtain ⟨L, hL⟩ : ∃ L, b ++ 128 :: List.replicate Z 0 = L := ⟨_, rfl⟩
    have hLl : L.length = 64 - 8 := by rw [← hL]; simp [HBL.out]; omega
    have HLe : Hid (Unit → b ++ 128 :: List.replicate Z 0 = L) := fun _ => hL
    rw [hL] at A2
    clear hL
    go_loopw [7, 8] (fun bv iv wr => ∃ (j q : Nat), j ≤ 8 ∧ Hid (8 * n / 256 ^ j = q) ∧ q < 18446744073709551616 ∧ bv = .int .u64 q ∧ iv = .int .i64 (64 - 1 - (j : Int)) ∧ Hid (Arr wr w.heap.size 5 (u8s (L ++ beJ j (8 * n)))) ∧ Hid (Below w.heap.size w wr)) (fun bv _ _ => (intOf bv).toNat)
    case atStart => exact ⟨0, 8 * n, by omega, by simp [Hid], by omega, by go_num, by go_num, A2, HB2⟩
    case round =>
      obtain ⟨j, q, hj, hq, hql, rfl, rfl, AJ, BJ⟩ := hrel
      clear A2 HB2
      by_cases hpos : 0 < q
      · have hj8 : j < 8 := by
          rcases Nat.lt_or_ge j 8 with h | h
          · exact h
          · exfalso
            have e : j = 8 := by omega
            have := hq.out
            rw [e] at this
            have e2 : (256 : Nat) ^ 8 = 18446744073709551616 := by decide
            rw [e2] at this
            omega
        obtain ⟨p, hp⟩ : ∃ p, 64 - 1 - j = p := ⟨_, rfl⟩
        have hpi : (64 - 1 - (j : Int)) = (p : Int) := by omega
        have hb7 := beJ_step hj8 (8 * n)
        rw [hq.out] at hb7
        have hset : Hid ((L ++ beJ j (8 * n)).set p (q % 256) = L ++ beJ (j + 1) (8 * n)) := by
          unfold Hid
          rw [List.set_append_right _ _ (by omega), hLl, show p - (64 - 8) = 7 - j by omega, hb7]
        have hq2 : Hid (8 * n / 256 ^ (j + 1) = q / 256) := by
          unfold Hid
          rw [Nat.pow_succ, ← Nat.div_div_eq_div_mul, hq.out]
        obtain ⟨y, hy⟩ : ∃ y, (L ++ beJ j (8 * n))[p]? = some y := ⟨_, List.getElem?_eq_getElem (by rw [List.length_append, hLl, beJ_len hj]; omega)⟩
        have cp : wr.cell? ⟨w.heap.size, p, none⟩ = some (.int .u8 y) := by rw [AJ.out.cell]; exact u8s_get hy
        have fp := AJ.out.frozen p
        rw [hpi]
        have hp0 : p < 64 := by omega
        clear hb7 hy hq
        go_wp2
        go_roundw
        case rel =>
          refine ⟨j + 1, q / 256, by omega, hq2, by omega, by go_num, by congr 1; omega, ?_, BJ.out.setCell (p := ⟨w.heap.size, p, none⟩) (Nat.le_refl _) _⟩
          have e : ((q % 256 : Nat) : Int) = (q : Int) % 256 := by omega
          unfold Hid
          rw [← hset.out, u8s_set, e]
          exact AJ.out.set p _
        case measure => simp [intOf]; omega
      · obtain rfl : q = 0 := by omega
        have hbe := beJ_end hj hq.out
        rw [hbe] at AJ
        go_wp2
        go_ret
        have e : (L ++ be (8 * n)).length = 64 := by rw [List.length_append, hLl]; rfl
        rw [← HLe.out ()] at AJ e
        refine ⟨⟨w.heap.size, ?_, Nat.le_refl _, AJ.out⟩, BJ.out⟩
        exact congrArg (fun k => Ending.returned (.slice (some ⟨w.heap.size, 0, none⟩) k k)) e.symm
end Go.Proofs.YthdlcpnmldhllaaDoor.sl

/-
  THE PROGRAM: the function that hands out the blocks of the padded bytes.
-/
namespace Go.Proofs.YthdlcpnmldhllaaDoor.sl
open Go.RowKit Go.Shelf

theorem cut64_snoc (k : Nat) (l : List Nat) : cut64 (k + 1) l = cut64 k l ++ [(l.drop (64 * k)).take 64] := by
  induction k generalizing l with
  | zero => simp [cut64]
  | succ k ih =>
    rw [cut64, ih, cut64, List.drop_drop]
    simp
    congr 2
    omega
theorem padL_len {part : List Nat} (h : part.length < 64) (n : Nat) : (padL part n).length = 64 ∨ (padL part n).length = 128 := by
  have hb : (be (8 * n)).length = 8 := rfl
  simp only [padL, List.length_append, List.length_cons, List.length_replicate, hb]
  omega
theorem padL_lt {part : List Nat} (h : ∀ x ∈ part, x < 256) (n : Nat) : ∀ x ∈ padL part n, x < 256 := by
  intro x hx
  rcases List.mem_append.1 hx with hx | hx
  · exact h x hx
  · rcases List.mem_cons.1 hx with rfl | hx
    · decide
    · rcases List.mem_append.1 hx with hx | hx
      · rw [(List.mem_replicate.1 hx).2]; decide
      · simp only [be, List.mem_cons, List.not_mem_nil, or_false] at hx
        omega
theorem padL_split (b : List Nat) (n : Nat) : padL b n = b.take (64 * (b.length / 64)) ++ padL (b.drop (64 * (b.length / 64))) n := by
  have hl : (b.drop (64 * (b.length / 64))).length % 64 = b.length % 64 := by rw [List.length_drop]; omega
  unfold padL
  rw [hl, ← List.append_assoc, List.take_append_drop]
theorem take_lt {b : List Nat} (h : ∀ x ∈ b, x < 256) (i n : Nat) : ∀ x ∈ (b.drop i).take n, x < 256 := fun x hx => h x (List.mem_of_mem_drop (List.mem_of_mem_take hx))
def lenV : Value → Nat
  | .slice _ n _ => n
  | _ => 0
set_option maxHeartbeats 1600000 in
set_option maxRecDepth 100000 in
theorem blocks1_hands (Bs B bb off cap : Nat) (a : Option Addr) (b : List Nat) (hb : ∀ x ∈ b, x < 256) (hcap : b.length ≤ cap) (hlen : b.length ≤ 140737488355328) (w : World)
    (hBs : Boxed w Bs 35 (.slice a b.length cap)) (hne : Bs ≠ B) (hr : 0 < b.length → a = some ⟨bb, off, none⟩ ∧ bb < w.heap.size ∧ bb ≠ B ∧ ∀ (j x : Nat), b[j]? = some x → w.cell? ⟨bb, off + j, none⟩ = some (.int .u8 x)) (hB : B < w.heap.size) :
    Hands Fence.wide 2 Tryd.prog 84 #[.pointer (some ⟨Bs, 0, none⟩)] B (fun xs => xs.map Blk.bytes = cut64 ((padL b b.length).length / 64) (padL b b.length)) w := by
  intro l J W hW hJ hY h0
  have hs := hBs.lt
  have cBs : Boxed W Bs 35 (.slice a b.length cap) := (hW.block _ hs).trans hBs
  have hr' : 0 < b.length → a = some ⟨bb, off, none⟩ ∧ bb < W.heap.size ∧ bb ≠ B ∧ ∀ (j x : Nat), b[j]? = some x → W.cell? ⟨bb, off + j, none⟩ = some (.int .u8 x) := fun h => by
    obtain ⟨e, h1, h2, h3⟩ := hr h
    exact ⟨e, by have := hW.size; omega, h2, fun j x hx => (hW.cell (p := ⟨bb, off + j, none⟩) h1).trans (h3 j x hx)⟩
  have hBW : B < W.heap.size := by have := hW.size; omega
  clear hr hBs hs hB
  have cb := cBs.cell
  obtain ⟨L, hL⟩ : ∃ L, padL b b.length = L := ⟨_, rfl⟩
  have HL : Hid (Unit → padL b b.length = L) := fun _ => hL
  rw [hL]
  clear hL
  obtain ⟨i, hi⟩ : ∃ i, b.length / 64 = i := ⟨_, rfl⟩
  have hi64 : 64 * i ≤ b.length := by omega
  have hi65 : b.length < 64 * i + 64 := by omega
  refine callsIn_of_wp Tryd.func84 rfl trivial ?_ rfl
  simp only [Tryd.ntmps84, List.size_toArray, List.length_cons, List.length_nil, Nat.reduceAdd, Nat.reduceSub, Array.replicate_succ, Array.replicate_zero, List.push_toArray, List.append_toArray, List.nil_append, List.cons_append]
  gi_wp2
  obtain ⟨wh, hwh⟩ : ∃ wh, 64 * i = wh := ⟨_, rfl⟩
  rw [show (b.length : Int) - (b.length : Int) % 64 = (wh : Int) by omega]
  gi_loopw [4] (fun av wr => ∃ (k : Nat) (xs : List Blk), k ≤ i ∧ av = .int .i64 (64 * k : Nat) ∧ Hid (xs.map Blk.bytes = cut64 k L) ∧ J xs wr ∧ Hid (KeepB B W wr)) (fun av _ => wh - (intOf av).toNat)
  case atStart => exact ⟨0, [], Nat.zero_le _, rfl, rfl, h0, KeepB.refl _ _⟩
  case round =>
    obtain ⟨k, xs, hk, rfl, HX, hJx, HK⟩ := hrel
    have cB2 : wr.cell? ⟨Bs, 0, none⟩ = some (.slice a b.length cap) := cell_keepB HK.out cb hne
    have hBr : B < wr.heap.size := Nat.lt_of_lt_of_le hBW HK.out.1
    obtain ⟨at', hat⟩ : ∃ at', 64 * k = at' := ⟨_, rfl⟩
    by_cases hlt : k < i
    · obtain ⟨rfl, h1, h2, h3⟩ := hr' (by omega)
      have h3' : ∀ (j x : Nat), b[j]? = some x → wr.cell? ⟨bb, off + j, none⟩ = some (.int .u8 x) := fun j x hx => cell_keepB HK.out (h3 j x hx) h2
      have hbk : ((b.drop at').take 64).length = 64 := by rw [List.length_take, List.length_drop]; omega
      obtain ⟨X, hXe⟩ : ∃ X : Blk, X = ⟨bb, off + at', cap - at', (b.drop at').take 64, hbk, take_lt hb _ _⟩ := ⟨_, rfl⟩
      have hXt : X.there B wr := by
        rw [hXe]
        refine ⟨h2, Nat.lt_of_lt_of_le h1 HK.out.1, fun j y hy => ?_⟩
        rw [List.getElem?_take] at hy
        split at hy
        · rw [List.getElem?_drop] at hy
          have := h3' (at' + j) y hy
          rwa [← Nat.add_assoc] at this
        · cases hy
      have hXn : Hid ((xs ++ [X]).map Blk.bytes = cut64 (k + 1) L) := by
        have e : X.bytes = (L.drop (64 * k)).take 64 := by
          rw [hXe, ← HL.out (), hat]
          show (b.drop at').take 64 = _
          rw [padL, List.drop_append_of_le_length (by omega), List.take_append_of_le_length (by rw [List.length_drop]; omega)]
        unfold Hid
        rw [List.map_append, HX.out, cut64_snoc, List.map_singleton, e]
      obtain ⟨fn, tmps, assign, body, hy, hR⟩ := hY xs X wr hJx hXt
      have hen : X.enc = #[.slice (some ⟨bb, off + at', none⟩) 64 (cap - at')] := by rw [hXe]; rfl
      rw [hen] at hy
      clear hXe hXt h3 h3' h1 hen
      rw [hat]
      gi_wp2
      refine hR.mono ?_
      rintro e W3 ⟨rfl, hJ3, hK3⟩
      gi_wp2
      go_roundw
      case rel => exact ⟨k + 1, xs ++ [X], by omega, by congr 1; omega, hXn, hJ3, HK.out.trans hK3⟩
      case measure => simp [intOf]; omega
    · obtain rfl : k = i := by omega
      obtain rfl : at' = wh := by omega
      rw [hat]
      gi_wp2
      have hpl : (b.drop at').length = b.length - at' := List.length_drop
      have hpad : ∀ W : World, W.heap = wr.heap → Calls Tryd.prog 85 #[.slice (if cap = at' then a else Option.map (fun x => x.add at') a) (b.length - at') (cap - at'), .int .i64 b.length] W fun e w' => (∃ g, e = .returned (.slice (some ⟨g, 0, none⟩) (padL (b.drop at') b.length).length (padL (b.drop at') b.length).length) ∧ W.heap.size ≤ g ∧ Arr w' g 5 (u8s (padL (b.drop at') b.length))) ∧ Below W.heap.size W w' := by
        intro W1 hW1
        have h := padded_any (if cap = at' then a else Option.map (fun x => x.add at') a) (cap - at') (b.drop at') (by rw [hpl]; omega) (fun x hx => hb x (List.mem_of_mem_drop hx)) b.length (by omega) W1 (fun hp => by
          rw [hpl] at hp
          obtain ⟨rfl, h1, h2, h3⟩ := hr' (by omega)
          rw [if_neg (by omega)]
          refine ⟨bb, off + at', ?_, by rw [hW1]; exact Nat.lt_of_lt_of_le h1 HK.out.1, fun j x hx => ?_⟩
          · show some ((⟨bb, off, none⟩ : Addr).add at') = _
            congr 1
            unfold Addr.add
            split <;> simp_all
          · rw [List.getElem?_drop] at hx
            have e : W1.cell? ⟨bb, off + (at' + j), none⟩ = wr.cell? ⟨bb, off + (at' + j), none⟩ := by unfold World.cell?; rw [hW1]
            rw [Nat.add_assoc, e]
            exact cell_keepB HK.out (h3 _ _ hx) h2)
        rwa [hpl] at h
      have hsl : ∀ W : World, (Instr.slice 35 (.slice a b.length cap) (some (.int .i64 (at' : Nat))) none none).run Tryd.prog W = .ok (.slice (if cap = at' then a else Option.map (fun x => x.add at') a) (b.length - at') (cap - at')) W := by
        intro W
        have hle : at' ≤ b.length := by omega
        go_simp
      obtain ⟨A', hA'⟩ : ∃ A', (if cap = at' then a else Option.map (fun x => x.add at') a) = A' := ⟨_, rfl⟩
      obtain ⟨pn, hpn⟩ : ∃ pn, b.length - at' = pn := ⟨_, rfl⟩
      obtain ⟨pc, hpc⟩ : ∃ pc, cap - at' = pc := ⟨_, rfl⟩
      obtain ⟨P, hP⟩ : ∃ P, padL (b.drop at') b.length = P := ⟨_, rfl⟩
      have HP : Hid (Unit → padL (b.drop at') b.length = P) := fun _ => hP
      have HPL : Hid (Unit → (b.drop at').length = b.length - at') := fun _ => hpl
      rw [hA', hpn, hpc] at hsl
      rw [hA', hpn, hpc, hP] at hpad
      clear hA' hP hpl hr'
      gi_region_with (refine ⟨trivial, ?_⟩; refine (callsIn_wide.2 (hpad wr.drew rfl)).mono ?_; rintro e w3 ⟨⟨g, rfl, hg, hA⟩, hBl⟩)
      all_goals
        have hgr : wr.heap.size ≤ g := hg
        have hbw : Below wr.heap.size wr w3 := (Below.refl _ wr).drew.trans hBl
        have hJ3 : J xs w3 := hJ xs wr w3 none hJx ⟨hbw.os, hbw.tape, hbw.output, hbw.size, fun r hr _ => hbw.block r hr⟩ (fun r e => by cases e)
        have hgB : g ≠ B := by omega
        have HA := Lib.hid hA
        have HPlen : P.length = 64 ∨ P.length = 128 := by rw [← HP.out ()]; exact padL_len (by rw [HPL.out ()]; omega) _
        have hPlt : ∀ x ∈ P, x < 256 := by rw [← HP.out ()]; exact padL_lt (fun x hx => hb x (List.mem_of_mem_drop hx)) _
        have HLP : Hid (Unit → L = b.take (64 * k) ++ P) := fun _ => by rw [← HL.out (), ← HP.out (), padL_split, ← hat, ← hi]
        have hLd : ∀ m, L.drop (64 * (k + m)) = P.drop (64 * m) := fun m => by
          have e : (b.take (64 * k)).length = 64 * k := by rw [List.length_take]; omega
          rw [HLP.out (), Nat.mul_add, ← List.drop_drop, List.drop_left' e]
        have hLl : L.length / 64 = k + P.length / 64 := by
          rw [HLP.out (), List.length_append, List.length_take, Nat.min_eq_left (by omega)]; omega
        have HLd := Lib.hid hLd
        have HLl := Lib.hid hLl
        obtain ⟨q, hq⟩ : ∃ q, P.length = q := ⟨_, rfl⟩
        rw [hq]
        clear hA hBl hg hpad hsl hLd hLl
        go_simp
        gi_wp2
        gi_loopw [5] (fun ev wr => ∃ (m : Nat) (ys : List Blk) (ad : Option Addr), 64 * m ≤ q ∧ (64 * m < q → ad = some ⟨g, 64 * m, none⟩) ∧ ev = .slice ad (q - 64 * m) (q - 64 * m) ∧ Hid (ys.map Blk.bytes = cut64 (k + m) L) ∧ J ys wr ∧ Hid (KeepB B w3 wr)) (fun ev _ => lenV ev)
        case atStart => exact ⟨0, xs, some ⟨g, 0, none⟩, by omega, fun _ => rfl, rfl, HX, hJ3, KeepB.refl _ _⟩
        case round =>
          obtain ⟨m, ys, ad, hm, had, rfl, HY, hJy, HK3⟩ := hrel
          obtain ⟨o, ho⟩ : ∃ o, 64 * m = o := ⟨_, rfl⟩
          by_cases hlt2 : o < q
          · obtain rfl := had (by omega)
            have ho64 : o + 64 ≤ q := by omega
            have hAw : Arr wr g 5 (u8s P) := HA.out.keepB HK3.out hgB
            have hpb : ((P.drop o).take 64).length = 64 := by rw [List.length_take, List.length_drop]; omega
            obtain ⟨X, hXe⟩ : ∃ X : Blk, X = ⟨g, o, q - o, (P.drop o).take 64, hpb, take_lt hPlt _ _⟩ := ⟨_, rfl⟩
            have hXt : X.there B wr := by
              rw [hXe]
              refine ⟨hgB, hAw.lt, fun j y hy => ?_⟩
              rw [List.getElem?_take] at hy
              split at hy
              · rw [List.getElem?_drop] at hy
                show wr.cell? ⟨g, o + j, none⟩ = _
                rw [hAw.cell]
                exact u8s_get hy
              · cases hy
            have hXn : Hid ((ys ++ [X]).map Blk.bytes = cut64 (k + (m + 1)) L) := by
              have e : X.bytes = (L.drop (64 * (k + m))).take 64 := by
                rw [HLd.out m, ho, hXe]
              unfold Hid
              rw [List.map_append, HY.out, ← Nat.add_assoc, cut64_snoc, List.map_singleton, e]
            obtain ⟨fn, tmps, assign, body, hy, hR⟩ := hY ys X wr hJy hXt
            have hen : X.enc = #[.slice (some ⟨g, o, none⟩) 64 (q - o)] := by rw [hXe]; rfl
            rw [hen] at hy
            clear hXe hXt hen hAw hpb hPlt HA
            rw [ho]
            have hpos : 0 < q - o := by omega
            gi_wp2
            refine hR.mono ?_
            rintro e W4 ⟨rfl, hJ4, hK4⟩
            by_cases h64 : q - o = 64
            · gi_wp2
              go_roundw
              case rel => exact ⟨m + 1, ys ++ [X], some ⟨g, o, none⟩, by omega, fun h => absurd h (by omega), by rw [show q - 64 * (m + 1) = 0 by omega], hXn, hJ4, HK3.out.trans hK4⟩
              case measure => simp [lenV]; omega
            · gi_wp2
              go_roundw
              case rel => exact ⟨m + 1, ys ++ [X], some ⟨g, o + 64, none⟩, by omega, fun _ => by rw [← ho, Nat.mul_add], by rw [show q - 64 * (m + 1) = q - o - 64 by omega], hXn, hJ4, HK3.out.trans hK4⟩
              case measure => simp [lenV]; omega
          · have ho0 : q - o = 0 := by omega
            rw [ho, ho0]
            gi_wp2
            refine ⟨fun _ h => (by cases h), ?_⟩
            gi_wp2
            go_end0
            exact ⟨⟨_, rfl⟩, ys, by rw [HY.out, HLl.out, hq, show q / 64 = m by omega], hJy⟩
end Go.Proofs.YthdlcpnmldhllaaDoor.sl

/-
  THE PROGRAM: the sum of bytes.
-/
namespace Go.Proofs.YthdlcpnmldhllaaDoor.sl
open Go.RowKit Go.Shelf
attribute [local go_sem] Oper.semAt_some
theorem Tryd.size90 : (Tryd.prog.info? 90).map (·.size) = some 32 := by kernel_rfl
theorem blocks_any (a : Option Addr) (len cap : Nat) (w : World) :
    Calls Tryd.prog 78 #[.slice a len cap] w fun e w' => e = .returned (.func (.func 84) #[] #[.pointer (some ⟨w.heap.size, 0, none⟩)]) ∧ w.alloc (.cells #[.slice a len cap] 35) = w' := by
  go_enter Tryd.func78, Tryd.ntmps78
  go_wp2
  go_ret
  exact ⟨rfl, rfl⟩
theorem ownFrom_arr {β : Type} (B g : Nat) (t : TypeId) (f : β → List Value) : OwnFrom B (fun s W => Arr W g t (f s)) := fun s W W' row h hg hr => by
  refine (hg.block g h.lt ?_).trans h
  rintro rfl
  obtain ⟨_, o, ho, hc⟩ := hr g rfl
  rw [show W.heap[g]? = _ from h] at ho
  cases ho
  simp [Obj.isCells] at hc
theorem runV_snoc (h : V8) (l : List (List Nat)) (b : List Nat) : runV h (l ++ [b]) = blockV (runV h l) b := by simp [runV]
theorem runV_ok {h : V8} (hh : h.ok) (l : List (List Nat)) : (runV h l).ok := by
  induction l generalizing h with
  | nil => exact hh
  | cons b l ih =>
    have e : runV h (b :: l) = runV (blockV h b) l := by rw [runV, List.foldl_cons, ← runV]
    rw [e]
    exact ih (h := blockV h b) (by rw [blockV, mixV]; exact addV_ok _ _)
theorem outV_get {V : V8} {k y : Nat} (h : V.list[k]? = some y) : (outV V)[4 * k]? = some (y / 2 ^ 24 % 256) ∧ (outV V)[4 * k + 1]? = some (y / 2 ^ 16 % 256) ∧ (outV V)[4 * k + 2]? = some (y / 2 ^ 8 % 256) ∧ (outV V)[4 * k + 3]? = some (y % 256) := by
  match k, h with
  | 0, h => cases h; exact ⟨rfl, rfl, rfl, rfl⟩
  | 1, h => cases h; exact ⟨rfl, rfl, rfl, rfl⟩
  | 2, h => cases h; exact ⟨rfl, rfl, rfl, rfl⟩
  | 3, h => cases h; exact ⟨rfl, rfl, rfl, rfl⟩
  | 4, h => cases h; exact ⟨rfl, rfl, rfl, rfl⟩
  | 5, h => cases h; exact ⟨rfl, rfl, rfl, rfl⟩
  | 6, h => cases h; exact ⟨rfl, rfl, rfl, rfl⟩
  | 7, h => cases h; exact ⟨rfl, rfl, rfl, rfl⟩
theorem V_lt {V : V8} (hV : V.ok) {k y : Nat} (h : V.list[k]? = some y) : y < 4294967296 := by
  obtain ⟨h0, h1, h2, h3, h4, h5, h6, h7⟩ := hV
  match k, h with
  | 0, h => cases h; exact h0
  | 1, h => cases h; exact h1
  | 2, h => cases h; exact h2
  | 3, h => cases h; exact h3
  | 4, h => cases h; exact h4
  | 5, h => cases h; exact h5
  | 6, h => cases h; exact h6
  | 7, h => cases h; exact h7
set_option maxHeartbeats 1600000 in
set_option maxRecDepth 100000 in
theorem psum_any (a : Option Addr) (cap : Nat) (b : List Nat) (hb : ∀ x ∈ b, x < 256) (hcap : b.length ≤ cap) (hlen : b.length ≤ 140737488355328) (w : World) (hr : RdN w.heap.size w a b) (hT : Tabs w) :
    Calls Tryd.prog 62 #[.slice a b.length cap] w fun e w' => e = .returned (.agg (u8s (sumL b)).toArray) ∧ Below w.heap.size w w' := by
  refine (callsIn_wide (n := 3)).1 ?_
  have h1 : 1 ≤ 3 := by decide
  obtain ⟨R, hR⟩ : ∃ R, sumL b = R := ⟨_, rfl⟩
  rw [hR]
  have HR : Hid (Unit → sumL b = R) := fun _ => hR
  clear hR
  refine callsIn_of_wp_marks Tryd.func62 rfl trivial ?_ rfl
  simp only [Tryd.ntmps62, List.size_toArray, List.length_cons, List.length_nil, Nat.reduceAdd, Nat.reduceSub, Array.replicate_succ, Array.replicate_zero, List.push_toArray, List.append_toArray, List.nil_append, List.cons_append]
  have TW : ∀ o : Obj, Tabs (w.alloc o) := fun o => hT.below ((Below.refl _ w).alloc (Nat.le_refl _) o) hT.pos
  have A1 : ∀ (o : Obj) (vs : List Value), Arr ((w.alloc o).alloc (.cells vs.toArray 145)) (w.heap.size + 1) 145 vs := fun o vs => Arr.new2 w o 145 vs
  gi_wp2_with (first
    | (refine wpListIn_plain rfl fun K hK => opIn_load_mid 145 (.global 1) rfl 1 0 rfl (TW _).1 Tryd.underlying145 rfl Tryd.size145 rfl (hK _ _ ?_); clear hK K)
    | (refine wpListIn_plain rfl fun K hK => opIn_store_arr 145 (.tmp 3) (.tmp 8) rfl _ rfl rfl (A1 _ [.int .u32 0, .int .u32 0, .int .u32 0, .int .u32 0, .int .u32 0, .int .u32 0, .int .u32 0, .int .u32 0]) Tryd.size145 rfl rfl (u32s_one _) ?_; intro W1 AV HB1 HO1; refine hK _ _ ?_; clear hK K)
    | (refine ⟨trivial, ?_⟩; gi_at_call 78; refine (callsIn_wide.2 (blocks_any _ _ _ _)).mono ?_; rintro e w' ⟨rfl, hw'⟩))
  obtain ⟨s, hs⟩ : ∃ s, w.heap.size = s := ⟨_, rfl⟩
  have hsz1 : W1.heap.size = s + 2 := by rw [HO1.out.1]; simp; omega
  have AZ1 : Arr W1 w.heap.size 90 (u8s (List.replicate 32 0)) := (((Arr.new w 90 (u8s (List.replicate 32 0))).alloc _)).same HO1.out.2 (by omega)
  have BZ1 : Below w.heap.size w W1 := (((Below.refl _ w).alloc (Nat.le_refl _) _).alloc (by simp) _).trans (HB1.out.mono (by omega))
  have hsz0 : w'.heap.size = s + 3 := by rw [← hw']; simp; omega
  have AV0 : Arr w' (s + 1) 145 (u32s beginH.list) := by rw [← hw', ← hs]; exact AV.out.alloc _
  have AZ0 : Arr w' s 90 (u8s (List.replicate 32 0)) := by rw [← hw', ← hs]; exact AZ1.alloc _
  have BZ0 : Below s w w' := by rw [← hw', ← hs]; exact BZ1.alloc (by omega) _
  have BX0 : Boxed w' (s + 2) 35 (.slice a b.length cap) := by rw [← hw', ← hsz1]; exact Boxed.new W1 35 _
  rw [hsz1]
  rw [hs] at hr
  have hTw := hT
  clear AZ1 BZ1 AV HB1 HO1 hw' A1 TW hsz1
  obtain ⟨bb, off, hr0⟩ : ∃ bb off, 0 < b.length → a = some ⟨bb, off, none⟩ ∧ bb < w'.heap.size ∧ bb ≠ s + 1 ∧ ∀ (j x : Nat), b[j]? = some x → w'.cell? ⟨bb, off + j, none⟩ = some (.int .u8 x) := by
    by_cases h0 : 0 < b.length
    · obtain ⟨bb, off, e, hbb, hc⟩ := hr h0
      exact ⟨bb, off, fun _ => ⟨e, by omega, by omega, fun j x hx => (BZ0.cell (p := ⟨bb, off + j, none⟩) hbb).trans (hc j x hx)⟩⟩
    · exact ⟨0, 0, fun h => absurd h h0⟩
  have HH := blocks1_hands (s + 2) (s + 1) bb off cap a b hb hcap hlen w' BX0 (by omega) hr0 (by omega)
  rw [hs]
  refine wpIn_range_hands rfl h1 (gf := 84) (lb := #[.pointer (some ⟨s + 2, 0, none⟩)]) rfl trivial (enters_of Tryd.func84 (by kernel_rfl) rfl) HH rfl
    (fun pre W => (Arr W (s + 1) 145 (u32s (runV beginH (pre.map Blk.bytes)).list) ∧ Arr W s 90 (u8s (List.replicate 32 0))) ∧ Below s w W)
    (OwnFrom.and (OwnFrom.and (ownFrom_arr _ _ _ _) (ownFrom_arr _ _ _ _)) (ownFrom_below (by omega) (by omega))) ⟨⟨AV0, AZ0⟩, BZ0⟩
    (fun x => { tmps := #[.slice a b.length cap, undef, .pointer (some ⟨s, 0, none⟩), .pointer (some ⟨s + 1, 0, none⟩), .slice (some ⟨x.b, x.off, none⟩) 64 x.cap, undef, undef, undef, .agg (u32s beginH.list).toArray, .slice a b.length cap, .func (.func 84) #[] #[.pointer (some ⟨s + 2, 0, none⟩)], .slice (some ⟨x.b, x.off, none⟩) 64 x.cap, undef, undef, undef, undef, undef, undef, undef, undef, undef, undef, undef, undef, undef, undef, undef, undef, undef, undef, undef, undef, undef, undef, undef, undef, undef, undef, undef, undef, undef, undef, undef, undef, undef, undef, undef, undef, undef], defers := [] }) ?assign ?body ?done
  case assign =>
    intro l x W K hK
    simp only [Blk.enc]
    gi_wp2
    exact hK
  case body =>
    rintro l pre x W ⟨⟨hA, hZ⟩, hB⟩ hx
    have hpos := hTw.pos
    have hTW : Tabs W := hTw.below hB (by omega)
    have hWp := hTW.pos
    obtain ⟨H, hH⟩ : ∃ H, runV beginH (pre.map Blk.bytes) = H := ⟨_, rfl⟩
    have hok : H.ok := hH ▸ runV_ok beginH_ok _
    have hrun : runV beginH ((pre ++ [x]).map Blk.bytes) = mixV H tabK (schedL x.bytes) := by rw [List.map_append, List.map_singleton, runV_snoc, hH]; rfl
    rw [hH] at hA
    have hsch := schedule_any (some ⟨x.b, x.off, none⟩) x.cap x.bytes x.len x.lt
    have hmix := mixed_any H hok (schedL x.bytes) (schedL_len _) (schedL_lt x.lt)
    obtain ⟨V, hV⟩ : ∃ V, mixV H tabK (schedL x.bytes) = V := ⟨_, rfl⟩
    rw [hV] at hmix hrun
    have hAl := hA.lt
    have hAr : ∀ w2, Below W.heap.size W w2 → Arr w2 (s + 1) 145 (u32s H.list) := fun w2 h => hA.below h hAl
    have hbWd : Below W.heap.size W W.drew := (Below.refl _ W).drew
    have hfin : ∀ (w2 w3 : World), Below W.heap.size W w2 → Arr w3 (s + 1) 145 (u32s V.list) → Below (s + 1) w2 w3 → (w3.heap.size = w2.heap.size ∧ ∀ k, k ≠ s + 1 → w3.heap[k]? = w2.heap[k]?) →
        KeepsFrom w'.heap.size W w3 ∧ KeepB (s + 1) W w3 ∧ ((Arr w3 (s + 1) 145 (u32s (runV beginH ((pre ++ [x]).map Blk.bytes)).list) ∧ Arr w3 s 90 (u8s (List.replicate 32 0))) ∧ Below s w w3) := by
      intro w2 w3 h2 h3 h4 h5
      have hs3 : W.heap.size ≤ w3.heap.size := by have := h2.size; omega
      have hsame : ∀ k, k < W.heap.size → k ≠ s + 1 → w3.heap[k]? = W.heap[k]? := fun k hk hne => (h5.2 k hne).trans (h2.block k hk)
      refine ⟨⟨hs3, fun k o _ hk ho => ?_⟩, ⟨hs3, fun k cs t fr hne hk => (hsame k (Array.getElem?_eq_some_iff.1 hk).1 hne).trans hk⟩, ⟨by rw [hrun]; exact h3, ?_⟩, (hB.trans (h2.mono (by omega))).trans (h4.mono (by omega))⟩
      · refine (hsame k (Array.getElem?_eq_some_iff.1 hk).1 ?_).trans hk
        rintro rfl
        rw [show W.heap[s + 1]? = _ from hA] at hk
        cases hk
        simp [Obj.isCells] at ho
      · exact (hsame s (by omega) (by omega)).trans hZ
    clear hA hZ hH hV
    gi_wp2
    refine wpIn_region_any (by kernel_rfl) ?_
    change wpAnyIn _ _ _ _ _ _ _ _ _ (World.drew _)
    refine wpAnyIn_ready (rs := [0, 1]) (by kernel_rfl) (by simp) ?_
    refine AllReadyIn.cons rfl (fun K hK => ?_) (AllReadyIn.cons rfl (fun K hK => ?_) AllReadyIn.nil)
    · refine stepIn_of rfl (opIn_load_arr 145 (.tmp 3) rfl (s + 1) rfl (hAr W.drew hbWd) Tryd.underlying145 rfl Tryd.size145 rfl ?_)
      refine hK _ _ ?_
      clear hK K
      refine wpAnyIn_ready (rs := [1]) (by kernel_rfl) (by simp) ?_
      refine AllReadyIn.cons rfl (fun K hK => ?_) AllReadyIn.nil
      go_simp
      refine hK _ _ ?_
      clear hK K
      refine wpAnyIn_ready (rs := [2]) (by kernel_rfl) (by simp) ?_
      refine AllReadyIn.cons rfl (fun K hK => ?_) AllReadyIn.nil
      go_simp
      refine ⟨trivial, ?_⟩
      refine (CallsIn.inRound l (callsIn_wide.2 (hsch W.drew (show RdN W.drew.heap.size W.drew _ _ from hx.rd)))).mono ?_
      rintro e w1 ⟨rfl, hbl1⟩
      have hbw1 : Below W.heap.size W w1 := (Below.refl _ W).drew.trans hbl1
      refine hK _ _ ?_
      clear hK K
      refine wpAnyIn_ready (rs := [3]) (by kernel_rfl) (by simp) ?_
      refine AllReadyIn.cons rfl (fun K hK => ?_) AllReadyIn.nil
      go_simp
      refine ⟨trivial, ?_⟩
      refine (CallsIn.inRound l (callsIn_wide.2 (hmix w1 (hTW.below hbw1 (by omega))))).mono ?_
      rintro e w2 ⟨rfl, hbl2⟩
      have hbw2 : Below W.heap.size W w2 := hbw1.trans (hbl2.mono hbw1.size)
      refine hK _ _ ?_
      clear hK K
      refine wpAnyIn_ready (rs := [4]) (by kernel_rfl) (by simp) ?_
      refine AllReadyIn.cons rfl (fun K hK => ?_) AllReadyIn.nil
      refine stepIn_of rfl (opIn_store_arr 145 (.tmp 3) (.tmp 15) rfl (s + 1) rfl rfl (hAr w2 hbw2) Tryd.size145 rfl rfl (u32s_one _) ?_)
      intro w3 A3 B3 O3
      refine hK _ _ ?_
      clear hK K
      refine wpAnyIn_done (by kernel_rfl) ?_ _
      exact hfin w2 w3 hbw2 A3.out B3.out O3.out
    · go_simp
      refine hK _ _ ?_
      clear hK K
      refine wpAnyIn_ready (rs := [0, 2]) (by kernel_rfl) (by simp) ?_
      refine AllReadyIn.cons rfl (fun K hK => ?_) (AllReadyIn.cons rfl (fun K hK => ?_) AllReadyIn.nil)
      · refine stepIn_of rfl (opIn_load_arr 145 (.tmp 3) rfl (s + 1) rfl (hAr W.drew hbWd) Tryd.underlying145 rfl Tryd.size145 rfl ?_)
        refine hK _ _ ?_
        clear hK K
        refine wpAnyIn_ready (rs := [2]) (by kernel_rfl) (by simp) ?_
        refine AllReadyIn.cons rfl (fun K hK => ?_) AllReadyIn.nil
        go_simp
        refine ⟨trivial, ?_⟩
        refine (CallsIn.inRound l (callsIn_wide.2 (hsch W.drew (show RdN W.drew.heap.size W.drew _ _ from hx.rd)))).mono ?_
        rintro e w1 ⟨rfl, hbl1⟩
        have hbw1 : Below W.heap.size W w1 := (Below.refl _ W).drew.trans hbl1
        refine hK _ _ ?_
        clear hK K
        refine wpAnyIn_ready (rs := [3]) (by kernel_rfl) (by simp) ?_
        refine AllReadyIn.cons rfl (fun K hK => ?_) AllReadyIn.nil
        go_simp
        refine ⟨trivial, ?_⟩
        refine (CallsIn.inRound l (callsIn_wide.2 (hmix w1 (hTW.below hbw1 (by omega))))).mono ?_
        rintro e w2 ⟨rfl, hbl2⟩
        have hbw2 : Below W.heap.size W w2 := hbw1.trans (hbl2.mono hbw1.size)
        refine hK _ _ ?_
        clear hK K
        refine wpAnyIn_ready (rs := [4]) (by kernel_rfl) (by simp) ?_
        refine AllReadyIn.cons rfl (fun K hK => ?_) AllReadyIn.nil
        refine stepIn_of rfl (opIn_store_arr 145 (.tmp 3) (.tmp 15) rfl (s + 1) rfl rfl (hAr w2 hbw2) Tryd.size145 rfl rfl (u32s_one _) ?_)
        intro w3 A3 B3 O3
        refine hK _ _ ?_
        clear hK K
        refine wpAnyIn_done (by kernel_rfl) ?_ _
        exact hfin w2 w3 hbw2 A3.out B3.out O3.out
      · go_simp
        refine ⟨trivial, ?_⟩
        refine (CallsIn.inRound l (callsIn_wide.2 (hsch W.drew (show RdN W.drew.heap.size W.drew _ _ from hx.rd)))).mono ?_
        rintro e w1 ⟨rfl, hbl1⟩
        have hbw1 : Below W.heap.size W w1 := (Below.refl _ W).drew.trans hbl1
        refine hK _ _ ?_
        clear hK K
        refine wpAnyIn_ready (rs := [0]) (by kernel_rfl) (by simp) ?_
        refine AllReadyIn.cons rfl (fun K hK => ?_) AllReadyIn.nil
        refine stepIn_of rfl (opIn_load_arr 145 (.tmp 3) rfl (s + 1) rfl (hAr w1 hbw1) Tryd.underlying145 rfl Tryd.size145 rfl ?_)
        refine hK _ _ ?_
        clear hK K
        refine wpAnyIn_ready (rs := [3]) (by kernel_rfl) (by simp) ?_
        refine AllReadyIn.cons rfl (fun K hK => ?_) AllReadyIn.nil
        go_simp
        refine ⟨trivial, ?_⟩
        refine (CallsIn.inRound l (callsIn_wide.2 (hmix w1 (hTW.below hbw1 (by omega))))).mono ?_
        rintro e w2 ⟨rfl, hbl2⟩
        have hbw2 : Below W.heap.size W w2 := hbw1.trans (hbl2.mono hbw1.size)
        refine hK _ _ ?_
        clear hK K
        refine wpAnyIn_ready (rs := [4]) (by kernel_rfl) (by simp) ?_
        refine AllReadyIn.cons rfl (fun K hK => ?_) AllReadyIn.nil
        refine stepIn_of rfl (opIn_store_arr 145 (.tmp 3) (.tmp 15) rfl (s + 1) rfl rfl (hAr w2 hbw2) Tryd.size145 rfl rfl (u32s_one _) ?_)
        intro w3 A3 B3 O3
        refine hK _ _ ?_
        clear hK K
        refine wpAnyIn_done (by kernel_rfl) ?_ _
        exact hfin w2 w3 hbw2 A3.out B3.out O3.out
  case done =>
    rintro D ys W hD hS ⟨⟨hA, hZ⟩, hB⟩ hK
    obtain ⟨V, hV⟩ : ∃ V, runV beginH (ys.map Blk.bytes) = V := ⟨_, rfl⟩
    have hVok : V.ok := hV ▸ runV_ok beginH_ok _
    have HRV : Hid (Unit → outV V = R) := fun _ => by rw [← HR.out (), sumL, ← hS, hV]
    rw [hV] at hA
    clear hV hS HH
    have hAl := hA.lt
    have hDl : D < W.heap.size := (Array.getElem?_eq_some_iff.1 hK).1
    have AN : Arr (W.alloc (.cells (u8s (List.replicate 32 0)).toArray 90)) W.heap.size 90 (u8s ((outV V).take (4 * 0) ++ (List.replicate 32 0).drop (4 * 0))) := Arr.new W 90 (u8s (List.replicate 32 0))
    have AM := hA.alloc (.cells (u8s (List.replicate 32 0)).toArray 90)
    have AZ := hZ.alloc (.cells (u8s (List.replicate 32 0)).toArray 90)
    have BM := hB.alloc (show s ≤ W.heap.size by omega) (.cells (u8s (List.replicate 32 0)).toArray 90)
    have KM : (W.alloc (.cells (u8s (List.replicate 32 0)).toArray 90)).heap[D]? = some (.deferred (some [])) := (Below.heap_alloc _ _ _ hDl).trans hK
    obtain ⟨g, hg⟩ : ∃ g, W.heap.size = g := ⟨_, rfl⟩
    have HA := Lib.hid hA
    gi_wp2_with (first
      | (refine wpListIn_plain rfl fun K hK => opIn_load_arr 145 (.tmp 3) rfl (s + 1) rfl (HA.out.alloc _) Tryd.underlying145 rfl Tryd.size145 rfl (hK _ _ ?_); clear hK K))
    obtain ⟨WN, hWN⟩ : ∃ WN, W.alloc (.cells (u8s (List.replicate 32 0)).toArray 90) = WN := ⟨_, rfl⟩
    rw [hWN] at AN AM AZ BM KM
    have hWN2 : W.alloc (.cells #[.int .u8 0, .int .u8 0, .int .u8 0, .int .u8 0, .int .u8 0, .int .u8 0, .int .u8 0, .int .u8 0, .int .u8 0, .int .u8 0, .int .u8 0, .int .u8 0, .int .u8 0, .int .u8 0, .int .u8 0, .int .u8 0, .int .u8 0, .int .u8 0, .int .u8 0, .int .u8 0, .int .u8 0, .int .u8 0, .int .u8 0, .int .u8 0, .int .u8 0, .int .u8 0, .int .u8 0, .int .u8 0, .int .u8 0, .int .u8 0, .int .u8 0, .int .u8 0] 90) = WN := hWN
    rw [hWN2]
    clear hWN hWN2 AZ0 hZ hB hA
    rw [hg] at AN hDl
    have hVl : ∀ k, k < 8 → ∃ y, V.list[k]? = some y := fun k hk => ⟨_, List.getElem?_eq_getElem hk⟩
    try rw [hg]
    gi_loopw [17] (fun iv wr => ∃ k : Nat, k ≤ 8 ∧ iv = .int .i64 k ∧ Hid (Arr wr g 90 (u8s ((outV V).take (4 * k) ++ (List.replicate 32 0).drop (4 * k)))) ∧ Hid (Arr wr s 90 (u8s (List.replicate 32 0))) ∧ Hid (Below s w wr) ∧ Hid (wr.heap[D]? = some (.deferred (some [])))) (fun iv _ => 8 - (intOf iv).toNat)
    case atStart => exact ⟨0, by omega, rfl, AN, AZ, BM, KM⟩
    case round =>
      obtain ⟨k, hk, rfl, AK, AS, BK, KK⟩ := hrel
      clear AN AZ BM KM AM
      by_cases hlt : k < 8
      · obtain ⟨y, hy⟩ := hVl k hlt
        have hix : (u32s V.list).toArray[k]? = some (.int .u32 y) := by simpa using u32s_get hy
        have hrun := fun W => run_index_arr (P := Tryd.prog) Tryd.underlying145 Tryd.underlying102 Tryd.size102 hlt hix W
        obtain ⟨o0, o1, o2, o3⟩ := outV_get hy
        have hyl := V_lt hVok hy
        obtain ⟨j, hj⟩ : ∃ j, 4 * k = j := ⟨_, rfl⟩
        rw [hj] at o0 o1 o2 o3 AK
        have hc : ∀ i, i < 32 → ∃ z, ((outV V).take j ++ (List.replicate 32 0).drop j)[i]? = some z := fun i hi => ⟨_, List.getElem?_eq_getElem (by simp [outV_len]; omega)⟩
        obtain ⟨z0, hz0⟩ := hc j (by omega)
        obtain ⟨z1, hz1⟩ := hc (j + 1) (by omega)
        obtain ⟨z2, hz2⟩ := hc (j + 2) (by omega)
        obtain ⟨z3, hz3⟩ := hc (j + 3) (by omega)
        have c0 : wr.cell? ⟨g, j, none⟩ = some (.int .u8 z0) := by rw [AK.out.cell]; exact u8s_get hz0
        have c1 : wr.cell? ⟨g, j + 1, none⟩ = some (.int .u8 z1) := by rw [AK.out.cell]; exact u8s_get hz1
        have c2 : wr.cell? ⟨g, j + 2, none⟩ = some (.int .u8 z2) := by rw [AK.out.cell]; exact u8s_get hz2
        have c3 : wr.cell? ⟨g, j + 3, none⟩ = some (.int .u8 z3) := by rw [AK.out.cell]; exact u8s_get hz3
        have f0 := AK.out.frozen j
        have f1 := AK.out.frozen (j + 1)
        have f2 := AK.out.frozen (j + 2)
        have f3 := AK.out.frozen (j + 3)
        have hji : (4 : Int) * (k : Int) = (j : Int) := by omega
        clear hc hz0 hz1 hz2 hz3 hy hix
        gi_wp2
        have hl : (outV V).length = (List.replicate 32 0 : List Nat).length := by rw [outV_len, List.length_replicate]
        have e0 := set_step hl o0
        have e1 := set_step hl o1
        have e2 := set_step hl o2
        have e3 := set_step hl o3
        have hb4 : Below g wr ((((wr.setCell ⟨g, j, none⟩ (.int .u8 ((y : Int) / 16777216))).setCell ⟨g, j + 1, none⟩ (.int .u8 ((y : Int) / 65536 % 256))).setCell ⟨g, j + 2, none⟩ (.int .u8 ((y : Int) / 256 % 256))).setCell ⟨g, j + 3, none⟩ (.int .u8 ((y : Int) % 256))) :=
          ((((Below.refl g wr).setCell (p := ⟨g, j, none⟩) (Nat.le_refl _) _).setCell (p := ⟨g, j + 1, none⟩) (Nat.le_refl _) _).setCell (p := ⟨g, j + 2, none⟩) (Nat.le_refl _) _).setCell (p := ⟨g, j + 3, none⟩) (Nat.le_refl _) _
        refine ⟨⟨k + 1, by omega, by go_num, ?_, AS.out.below hb4 (by omega), BK.out.trans (hb4.mono (by omega)), (hb4.block D (by omega)).trans KK.out⟩, by simp [intOf]; omega⟩
        have v0 : ((y / 2 ^ 24 % 256 : Nat) : Int) = (y : Int) / 16777216 := by omega
        have v1 : ((y / 2 ^ 16 % 256 : Nat) : Int) = (y : Int) / 65536 % 256 := by omega
        have v2 : ((y / 2 ^ 8 % 256 : Nat) : Int) = (y : Int) / 256 % 256 := by omega
        have v3 : ((y % 256 : Nat) : Int) = (y : Int) % 256 := by omega
        have h := (((AK.out.set j (.int .u8 ((y : Int) / 16777216))).set (j + 1) (.int .u8 ((y : Int) / 65536 % 256))).set (j + 2) (.int .u8 ((y : Int) / 256 % 256))).set (j + 3) (.int .u8 ((y : Int) % 256))
        rw [← v0, ← v1, ← v2, ← v3, ← u8s_set, ← u8s_set, ← u8s_set, ← u8s_set, e0, e1, e2, e3] at h
        rw [← v0, ← v1, ← v2, ← v3, show 4 * (k + 1) = j + 3 + 1 by omega]
        exact h
      · obtain rfl : k = 8 := by omega
        have e32 : (outV V).take (4 * 8) ++ (List.replicate 32 0).drop (4 * 8) = R := by rw [HRV.out (), List.take_of_length_le (by rw [← HRV.out (), outV_len]; decide), List.drop_of_length_le (by simp), List.append_nil]
        have hRl : R.length = 32 := by rw [← HRV.out (), outV_len]
        rw [e32] at AK
        rw [show ((8 : Nat) : Int) = 8 from rfl]
        gi_wp2_with (first
          | (refine wpListIn_plain rfl fun K hK => opIn_load_arr 90 (.tmp 5) rfl g rfl AK.out Tryd.underlying90 rfl Tryd.size90 (by rw [u8s_len, hRl]) (hK _ _ ?_); clear hK K)
          | (refine wpListIn_plain rfl fun K hK => opIn_store_arr 90 (.tmp 2) (.tmp 48) rfl _ rfl rfl AS.out Tryd.size90 (by rw [u8s_len, hRl]) (by rw [u8s_len, List.length_replicate]) (u8s_one _) ?_; intro W5 A5 B5 O5; refine hK _ _ ?_; clear hK K))
        have K5 : W5.heap[D]? = some (.deferred (some [])) := (O5.out.2 D (by omega)).trans KK.out
        have P5 := KeepB.putObj 0 (.deferred none) K5 rfl
        refine ⟨by simp, .inl ⟨_, _, rfl, run_takeDeferred K5, ?_⟩⟩
        refine ⟨.agg (u8s R).toArray, ?_, rfl, by rw [hs]; exact (BK.out.trans B5.out).trans (belowK_b (n₀ := s) (w := w') (by omega) W5 D _ _ hD K5 rfl rfl)⟩
        exact results_arr rfl rfl (A5.out.keepB P5 (by have := hTw.pos; omega)) Tryd.underlying90 rfl Tryd.size90 (by rw [u8s_len, hRl])
end Go.Proofs.YthdlcpnmldhllaaDoor.sl

/-
  THE PROGRAM: bytes behind the key's, each changed by a mask.
-/
namespace Go.Proofs.YthdlcpnmldhllaaDoor.sl
open Go.RowKit
theorem Tryd.size127 : (Tryd.prog.info? 127).map (·.size) = some 64 := by kernel_rfl
set_option maxHeartbeats 1600000 in
set_option maxRecDepth 100000 in
theorem behind_any (key : List Nat) (hkl : key.length = 64) (hkb : ∀ x ∈ key, x < 256) (mk : Nat) (hmk : mk < 256) (a : Option Addr) (cap : Nat) (b : List Nat) (hlen : b.length ≤ 70368744177664) (w : World) (hr : RdN w.heap.size w a b) :
    Calls Tryd.prog 63 #[.agg (u8s key).toArray, .int .u8 mk, .slice a b.length cap] w fun e w' => (∃ g c, e = .returned (.slice (some ⟨g, 0, none⟩) (64 + b.length) c) ∧ 64 + b.length ≤ c ∧ RdN w'.heap.size w' (some ⟨g, 0, none⟩) (maskL key mk ++ b)) ∧ Below w.heap.size w w' := by
  obtain ⟨i0, hi, hz0, hz1, hz2⟩ := info_parts Tryd.info5
  have AK : ∀ o : Obj, Arr (w.alloc (.cells (u8s key).toArray 127)) w.heap.size 127 (u8s key) := fun _ => Arr.new w 127 (u8s key)
  obtain ⟨W1, hmake, hown, hgr⟩ := run_make_own (P := Tryd.prog) (w.alloc (.cells (u8s key).toArray 127)) w.heap.size 35 5 i0 (.int .u8 0) 1 Tryd.underlying35 hi hz0 hz1 .i64 .i64 (64 + b.length) (by rw [hz2]; omega) (by unfold maxLen; omega) (by simp)
  rw [show ((64 + b.length : Nat) : Int) = 64 + (b.length : Int) by omega] at hmake
  have BW1 : Below w.heap.size w W1 := ((Below.refl _ w).alloc (Nat.le_refl _) _).grown hgr (by simp) (fun k hk => by cases hk)
  have A1 : Arr W1 w.heap.size 127 (u8s key) := (hgr.block _ (by simp) (by simp)).trans (AK (.cells #[] 0))
  have HOW := Lib.hid hown
  have HB1 := Lib.hid BW1
  have HA1 := Lib.hid A1
  have hkx : ∀ k : Nat, k < 64 → ∃ x, key[k]? = some x ∧ x < 256 := fun k hk => ⟨_, List.getElem?_eq_getElem (by omega), hkb _ (List.getElem_mem _)⟩
  clear hown hgr BW1 A1 AK
  go_enter Tryd.func63, Tryd.ntmps63
  go_wp2_with (refine wpList_load_arr rfl 127 (.tmp 3) rfl w.heap.size rfl HA1.out Tryd.underlying127 rfl Tryd.size127 (by rw [u8s_len, hkl]) ?_)
  clear hmake
  go_loopw [7, 15] (fun v kv wr => ∃ k : Nat, k ≤ 64 ∧ kv = .int .i64 k ∧ Hid (wr.ownsRow w.heap.size 5 1 v ((maskL key mk).take k).length (u8s ((maskL key mk).take k))) ∧ Hid (Below w.heap.size w wr)) (fun _ kv _ => 64 - (intOf kv).toNat)
  case atStart => exact ⟨0, by omega, rfl, by simpa [Hid, u8s] using HOW.out, HB1⟩
  case round =>
    obtain ⟨k, hk, rfl, HO, HB⟩ := hrel
    clear HOW HB1 HA1
    by_cases hlt : k < 64
    · obtain ⟨x, hx, hx8⟩ := hkx k hlt
      have hix : (u8s key).toArray[k]? = some (.int .u8 x) := by simpa using u8s_get hx
      have hrun := fun W => run_index_arr (P := Tryd.prog) Tryd.underlying127 Tryd.underlying5 Tryd.size5 hlt hix W
      have hxor := u8_xor_nat x mk hx8 hmk
      have hnext : (maskL key mk).take (k + 1) = (maskL key mk).take k ++ [x ^^^ mk] := by
        rw [List.take_add_one, maskL, List.getElem?_map, hx]; rfl
      have hsz := HB.out.size
      have hkl2 : ((maskL key mk).take k).length ≤ 64 := by rw [List.length_take]; omega
      obtain ⟨l, hl⟩ : ∃ l, (maskL key mk).take k = l := ⟨_, rfl⟩
      rw [hl] at HO hnext hkl2
      have HN := Lib.hid hnext
      clear hix hx hl hkx hnext
      go_wp2_with (at_builtin; refine wpList_append_bytes (bs := [x ^^^ mk]) (n₀ := wr.heap.size + 1) hi hz0 hz1 hz2 rfl _ _ rfl w.heap.size _ l rfl (HO.out.alloc _) rfl rfl ?c1 ?c2 ?c3 ?c4)
      case c1 => exact RdN.arr (Arr.new wr 5 (u8s [x ^^^ mk])) (by omega)
      case c2 => simp only [List.length_singleton]; omega
      case c3 => simp; omega
      intro v' w1 HO1 HB1
      go_wp2
      go_roundw
      case rel => exact ⟨k + 1, by omega, by go_num, by rw [HN.out]; simpa using HO1, (HB.out.alloc hsz _).trans HB1.out⟩
      case measure => simp [intOf]; omega
    · obtain rfl : k = 64 := by omega
      have e64 : (maskL key mk).take 64 = maskL key mk := List.take_of_length_le (by simp [maskL, hkl])
      rw [e64] at HO
      have hml : (maskL key mk).length = 64 := by simp [maskL, hkl]
      have hsz := HB.out.size
      have hrb := hr.below HB.out (Nat.le_refl _)
      go_wp2_with (at_builtin; refine wpList_append_bytes (bs := b) (n₀ := w.heap.size) hi hz0 hz1 hz2 rfl _ _ rfl w.heap.size _ (maskL key mk) rfl HO.out rfl rfl hrb ?c2 hsz ?_)
      case c2 => rw [hml]; omega
      intro v' w1 HO1 HB1
      go_wp2
      go_ret
      have ho := HO1.out
      have hll : (maskL key mk ++ b).length = 64 + b.length := by rw [List.length_append, hml]
      rw [← hll] at ho
      obtain ⟨g, c, rfl, h1, _, _, h4⟩ := own_rd ho (by rw [List.length_append, hml]; omega)
      rw [List.length_append, hml] at h1
      refine ⟨⟨g, c, ?_, h1, h4⟩, HB.out.trans HB1.out⟩
      rw [List.length_append, hml]
      rfl
end Go.Proofs.YthdlcpnmldhllaaDoor.sl

/-
  THE PROGRAM: the sum by a key.
-/
namespace Go.Proofs.YthdlcpnmldhllaaDoor.sl
open Go.RowKit
theorem outV_lt (V : V8) : ∀ x ∈ outV V, x < 256 := by
  intro x hx
  obtain ⟨y, _, hy⟩ := List.mem_flatMap.1 hx
  simp only [out4, List.mem_cons, List.not_mem_nil, or_false] at hy
  omega
theorem full_len (key : List Nat) : (full key).length = 64 := by
  have : (keyL key).length ≤ 64 := by
    unfold keyL
    split
    · have h : (sumL key).length = 32 := outV_len _
      omega
    · omega
  simp [full]
  omega
theorem full_lt {key : List Nat} (h : ∀ x ∈ key, x < 256) : ∀ x ∈ full key, x < 256 := by
  intro x hx
  rcases List.mem_append.1 hx with hx | hx
  · unfold keyL at hx
    split at hx
    · exact outV_lt _ x hx
    · exact h x hx
  · rw [(List.mem_replicate.1 hx).2]; decide
theorem maskL_lt {l : List Nat} (h : ∀ x ∈ l, x < 256) {m : Nat} (hm : m < 256) : ∀ x ∈ maskL l m, x < 256 := by
  intro x hx
  obtain ⟨y, hy, rfl⟩ := List.mem_map.1 hx
  exact Nat.xor_lt_two_pow (n := 8) (h y hy) hm
set_option maxHeartbeats 1600000 in
set_option maxRecDepth 100000 in
theorem pmac_any (kA : Option Addr) (kc : Nat) (key : List Nat) (hkb : ∀ x ∈ key, x < 256) (hkc : key.length ≤ kc) (hkl : key.length ≤ 1000000) (a : Option Addr) (cap : Nat) (b : List Nat) (hb : ∀ x ∈ b, x < 256) (hlen : b.length ≤ 1000000) (w : World) (hkr : RdN w.heap.size w kA key) (hr : RdN w.heap.size w a b) (hT : Tabs w) :
    Calls Tryd.prog 36 #[.slice kA key.length kc, .slice a b.length cap] w fun e w' => e = .returned (.agg (u8s (macL key b)).toArray) ∧ Below w.heap.size w w' := by
  refine (callsIn_wide (n := 3)).1 ?_
  by_cases hlong : 64 < key.length
  · refine callsIn_of_wp Tryd.func36 rfl trivial ?_ rfl
    simp only [Tryd.ntmps36, List.size_toArray, List.length_cons, List.length_nil, Nat.reduceAdd, Nat.reduceSub, Array.replicate_succ, Array.replicate_zero, List.push_toArray, List.append_toArray, List.nil_append, List.cons_append]
    have hKe : full key = sumL key ++ (List.replicate 64 0).drop (sumL key).length := by rw [full, keyL, if_pos hlong, List.drop_replicate]
    have hS1 := psum_any kA kc key hkb hkc (by omega)
    obtain ⟨SK, hSK⟩ : ∃ SK, sumL key = SK := ⟨_, rfl⟩
    have hSl : SK.length = 32 := by rw [← hSK]; rfl
    have hSb : ∀ x ∈ SK, x < 256 := by rw [← hSK]; exact outV_lt _
    rw [hSK] at hS1 hKe
    clear hSK
    gi_wp2_with (first
      | (refine ⟨trivial, ?_⟩; gi_at_call 62; refine (callsIn_wide.2 (hS1 _ (hkr.below ((Below.refl w.heap.size w).alloc (Nat.le_refl _) _) (Nat.le_refl _) |>.mono (by simp)) (hT.below ((Below.refl w.heap.size w).alloc (Nat.le_refl _) _) hT.pos))).mono ?_; rintro e w1 ⟨rfl, hb1⟩; have HB1 := Lib.hid hb1; clear hb1)
      | (refine wpListIn_plain rfl fun K hK => opIn_store_arr 90 (.tmp 5) (.tmp 12) rfl w1.heap.size rfl rfl (show Arr _ w1.heap.size 90 (u8s (List.replicate 32 0)) from Arr.new w1 90 (u8s (List.replicate 32 0))) Tryd.size90 (by rw [u8s_len, hSl]) rfl (u8s_one _) ?_; intro W0 AS0 HBS HOS; refine hK _ _ ?_; clear hK K)
      | (refine wpListIn_plain rfl fun K hK => opIn_copy_bytes (.tmp 14) (.tmp 15) rfl (bs := SK) (n₀ := W0.heap.size) rfl rfl hSl (Arr.new W0 127 (u8s (List.replicate 64 0))) ?c1 ?c2 ?c3 ?c4))
    case c1 => exact (RdN.arr (n₀ := W0.heap.size) AS0.out AS0.out.lt).below ((Below.refl W0.heap.size W0).alloc (Nat.le_refl _) _) (Nat.le_refl _)
    case c2 => rw [hSl, List.length_replicate]; decide
    case c3 => rw [hSl]; decide
    intro W6 A6 B6 S6
    refine hK _ _ ?_
    clear hK K
    have BW1 := Lib.hid (((Below.refl w.heap.size w).alloc (Nat.le_refl _) (.cells (u8s (List.replicate 32 0)).toArray 90)).trans (HB1.out.mono (by simp)))
    have hs1 : w.heap.size + 1 ≤ w1.heap.size := by have := HB1.out.size; simpa using this
    have BW0 : Below w.heap.size w W0 := (BW1.out.alloc (by omega) _).trans (HBS.out.mono (by omega))
    have AZ1 : Arr w1 w.heap.size 90 (u8s (List.replicate 32 0)) := (Arr.new w 90 (u8s (List.replicate 32 0))).below HB1.out (by simp)
    have AZ0 : Arr W0 w.heap.size 90 (u8s (List.replicate 32 0)) := (AZ1.alloc _).same HOS.out.2 (by omega)
    have hs0 : w.heap.size < W0.heap.size := AZ0.lt
    have AZ6 : Arr W6 w.heap.size 90 (u8s (List.replicate 32 0)) := (AZ0.alloc _).below B6.out hs0
    have BW6 : Below w.heap.size w W6 := (BW0.alloc (by omega) _).trans (B6.out.mono (by omega))
    obtain ⟨gF, hgF⟩ : ∃ gF, W0.heap.size = gF := ⟨_, rfl⟩
    have hs6 : W6.heap.size = gF + 1 := by rw [S6.out]; simp; omega
    have hsF : w.heap.size < gF := by omega
    have AF6 : Arr W6 gF 127 (u8s (full key)) := by rw [hKe, hSl, ← hgF]; exact A6.out
    try rw [hgF]
    clear A6 B6 S6 BW1 hs1 BW0 AZ1 AZ0 hs0 hgF HB1 AS0 HBS HOS hS1 hSl hSb hKe
    have hfl := full_len key
    have hfb := full_lt hkb
    have hpos := hT.pos
    have TW6 : Tabs W6 := hT.below BW6 hpos
    have hL1l : (maskL (full key) 54 ++ b).length = 64 + b.length := by simp [maskL, hfl]
    have hL1b : ∀ x ∈ maskL (full key) 54 ++ b, x < 256 := fun x hx => (List.mem_append.1 hx).elim (maskL_lt hfb (by decide) x) (hb x)
    have hb54 := behind_any (full key) hfl hfb 54 (by decide) a cap b (by omega) W6 ((hr.below BW6 (Nat.le_refl _)).mono (by omega))
    have hps := fun g c (hc : 64 + b.length ≤ c) => psum_any (some ⟨g, 0, none⟩) c (maskL (full key) 54 ++ b) hL1b (by rw [hL1l]; exact hc) (by rw [hL1l]; omega)
    have hmac : sumL (maskL (full key) 92 ++ sumL (maskL (full key) 54 ++ b)) = macL key b := rfl
    obtain ⟨T1, hT1⟩ : ∃ T1, sumL (maskL (full key) 54 ++ b) = T1 := ⟨_, rfl⟩
    have hT1l : T1.length = 32 := by rw [← hT1]; rfl
    have hT1b : ∀ x ∈ T1, x < 256 := by rw [← hT1]; exact outV_lt _
    rw [hL1l, hT1] at hps
    rw [hT1] at hmac
    obtain ⟨R, hR⟩ : ∃ R, macL key b = R := ⟨_, rfl⟩
    have hRl : R.length = 32 := by rw [← hR]; rfl
    have HRe : Hid (Unit → macL key b = R) := fun _ => hR
    rw [hR] at hmac
    have hL2l : (maskL (full key) 92 ++ T1).length = 64 + 32 := by simp [maskL, hfl, hT1l]
    have hL2b : ∀ x ∈ maskL (full key) 92 ++ T1, x < 256 := fun x hx => (List.mem_append.1 hx).elim (maskL_lt hfb (by decide) x) (hT1b x)
    have HT1 := Lib.hid hT1
    clear hT1 hR
    gi_wp2_with (first
      | (refine wpListIn_plain rfl fun K hK => opIn_load_arr 127 (.tmp 6) rfl gF rfl AF6 Tryd.underlying127 rfl Tryd.size127 (by rw [u8s_len, full_len]) (hK _ _ ?_); clear hK K)
      | (refine ⟨trivial, ?_⟩; gi_at_call 63; refine (callsIn_wide.2 hb54).mono ?_; rintro e w7 ⟨⟨g7, c7, rfl, hc7, hr7⟩, hb7⟩)
      | (refine ⟨trivial, ?_⟩; gi_at_call 62; refine (callsIn_wide.2 (hps g7 c7 hc7 w7 hr7 (TW6.below hb7 (by omega)))).mono ?_; rintro e w8 ⟨rfl, hb8⟩)
      | (refine wpListIn_plain rfl fun K hK => opIn_store_arr 90 (.tmp 7) (.tmp 20) rfl w8.heap.size rfl rfl (show Arr _ w8.heap.size 90 (u8s (List.replicate 32 0)) from Arr.new w8 90 (u8s (List.replicate 32 0))) Tryd.size90 (by rw [u8s_len, hT1l]) rfl (u8s_one _) ?_; intro W9 A9 B9 O9; refine hK _ _ ?_; clear hK K))
    have hb78 : Below W6.heap.size W6 w8 := hb7.trans (hb8.mono hb7.size)
    have hs8 : W6.heap.size ≤ w8.heap.size := hb78.size
    have BS9 : Below W6.heap.size W6 W9 := (hb78.alloc hs8 _).trans (B9.out.mono hs8)
    have AF9 : Arr W9 gF 127 (u8s (full key)) := AF6.below BS9 (by omega)
    have AZ9 : Arr W9 w.heap.size 90 (u8s (List.replicate 32 0)) := AZ6.below BS9 (by omega)
    have BW9 : Below w.heap.size w W9 := BW6.trans (BS9.mono (by omega))
    have TW9 : Tabs W9 := hT.below BW9 hpos
    have hs9 := A9.out.lt
    have hsw : w.heap.size < W9.heap.size := AZ9.lt
    have hRT : RdN W9.heap.size W9 (some ⟨w8.heap.size, 0, none⟩) T1 := RdN.arr A9.out hs9
    have hbh := behind_any (full key) hfl hfb 92 (by decide) (some ⟨w8.heap.size, 0, none⟩) 32 T1 (by omega) W9.drew (show RdN W9.drew.heap.size W9.drew _ _ from hRT)
    rw [hT1l] at hbh
    clear hb7 hb8 hb78 hs8 BS9 AF6 AZ6 BW6 TW6 hps hb54 hr7 O9 B9
    refine wpIn_region_any (by kernel_rfl) ?_
    change wpAnyIn _ _ _ _ _ _ _ _ _ (World.drew _)
    refine wpAnyIn_ready (rs := [0, 1]) (by kernel_rfl) (by simp) ?_
    refine AllReadyIn.cons rfl (fun K hK => ?_) (AllReadyIn.cons rfl (fun K hK => ?_) AllReadyIn.nil)
    · refine stepIn_of rfl (opIn_load_arr 127 (.tmp 6) rfl gF rfl (show Arr W9.drew _ _ _ from AF9) Tryd.underlying127 rfl Tryd.size127 (by rw [u8s_len, full_len]) ?_)
      refine hK _ _ ?_
      clear hK K
      refine wpAnyIn_ready (rs := [1]) (by kernel_rfl) (by simp) ?_
      refine AllReadyIn.cons rfl (fun K hK => ?_) AllReadyIn.nil
      go_simp
      refine hK _ _ ?_
      clear hK K
      refine wpAnyIn_ready (rs := [2]) (by kernel_rfl) (by simp) ?_
      refine AllReadyIn.cons rfl (fun K hK => ?_) AllReadyIn.nil
      go_simp
      refine ⟨trivial, ?_⟩
      refine (callsIn_wide.2 hbh).mono ?_
      rintro e w10 ⟨⟨g10, c10, rfl, hc10, hr10⟩, hb10⟩
      refine hK _ _ ?_
      clear hK K
      have hbw10 : Below W9.heap.size W9 w10 := (Below.refl _ W9).drew.trans hb10
      have hs10 := psum_any (some ⟨g10, 0, none⟩) c10 (maskL (full key) 92 ++ T1) hL2b (by rw [hL2l]; exact hc10) (by rw [hL2l]; decide) w10 hr10 (TW9.below hbw10 (by omega))
      rw [hL2l, hmac] at hs10
      refine wpAnyIn_ready (rs := [3]) (by kernel_rfl) (by simp) ?_
      refine AllReadyIn.cons rfl (fun K hK => ?_) AllReadyIn.nil
      go_simp
      refine ⟨trivial, ?_⟩
      refine (callsIn_wide.2 hs10).mono ?_
      rintro e w11 ⟨rfl, hb11⟩
      refine hK _ _ ?_
      clear hK K
      have hbw11 : Below W9.heap.size W9 w11 := hbw10.trans (hb11.mono hbw10.size)
      refine wpAnyIn_ready (rs := [4]) (by kernel_rfl) (by simp) ?_
      refine AllReadyIn.cons rfl (fun K hK => ?_) AllReadyIn.nil
      refine stepIn_of rfl (opIn_store_arr 90 (.tmp 4) (.tmp 24) rfl w.heap.size rfl rfl (AZ9.below hbw11 (by omega)) Tryd.size90 (by rw [u8s_len, hRl]) (by rw [u8s_len, List.length_replicate]) (u8s_one _) ?_)
      intro W12 A12 B12 O12
      refine hK _ _ ?_
      clear hK K
      refine wpAnyIn_done (by kernel_rfl) ?_ _
      gi_wp2
      refine bodyPost_ret (results_arr rfl rfl A12.out Tryd.underlying90 rfl Tryd.size90 (by rw [u8s_len, hRl])) rfl ?_
      exact ⟨by rw [HRe.out ()], (BW9.trans (hbw11.mono (by omega))).trans B12.out⟩
    · go_simp
      refine hK _ _ ?_
      clear hK K
      refine wpAnyIn_ready (rs := [0]) (by kernel_rfl) (by simp) ?_
      refine AllReadyIn.cons rfl (fun K hK => ?_) AllReadyIn.nil
      refine stepIn_of rfl (opIn_load_arr 127 (.tmp 6) rfl gF rfl (show Arr W9.drew _ _ _ from AF9) Tryd.underlying127 rfl Tryd.size127 (by rw [u8s_len, full_len]) ?_)
      refine hK _ _ ?_
      clear hK K
      refine wpAnyIn_ready (rs := [2]) (by kernel_rfl) (by simp) ?_
      refine AllReadyIn.cons rfl (fun K hK => ?_) AllReadyIn.nil
      go_simp
      refine ⟨trivial, ?_⟩
      refine (callsIn_wide.2 hbh).mono ?_
      rintro e w10 ⟨⟨g10, c10, rfl, hc10, hr10⟩, hb10⟩
      refine hK _ _ ?_
      clear hK K
      have hbw10 : Below W9.heap.size W9 w10 := (Below.refl _ W9).drew.trans hb10
      have hs10 := psum_any (some ⟨g10, 0, none⟩) c10 (maskL (full key) 92 ++ T1) hL2b (by rw [hL2l]; exact hc10) (by rw [hL2l]; decide) w10 hr10 (TW9.below hbw10 (by omega))
      rw [hL2l, hmac] at hs10
      refine wpAnyIn_ready (rs := [3]) (by kernel_rfl) (by simp) ?_
      refine AllReadyIn.cons rfl (fun K hK => ?_) AllReadyIn.nil
      go_simp
      refine ⟨trivial, ?_⟩
      refine (callsIn_wide.2 hs10).mono ?_
      rintro e w11 ⟨rfl, hb11⟩
      refine hK _ _ ?_
      clear hK K
      have hbw11 : Below W9.heap.size W9 w11 := hbw10.trans (hb11.mono hbw10.size)
      refine wpAnyIn_ready (rs := [4]) (by kernel_rfl) (by simp) ?_
      refine AllReadyIn.cons rfl (fun K hK => ?_) AllReadyIn.nil
      refine stepIn_of rfl (opIn_store_arr 90 (.tmp 4) (.tmp 24) rfl w.heap.size rfl rfl (AZ9.below hbw11 (by omega)) Tryd.size90 (by rw [u8s_len, hRl]) (by rw [u8s_len, List.length_replicate]) (u8s_one _) ?_)
      intro W12 A12 B12 O12
      refine hK _ _ ?_
      clear hK K
      refine wpAnyIn_done (by kernel_rfl) ?_ _
      gi_wp2
      refine bodyPost_ret (results_arr rfl rfl A12.out Tryd.underlying90 rfl Tryd.size90 (by rw [u8s_len, hRl])) rfl ?_
      exact ⟨by rw [HRe.out ()], (BW9.trans (hbw11.mono (by omega))).trans B12.out⟩
  · refine callsIn_of_wp Tryd.func36 rfl trivial ?_ rfl
    simp only [Tryd.ntmps36, List.size_toArray, List.length_cons, List.length_nil, Nat.reduceAdd, Nat.reduceSub, Array.replicate_succ, Array.replicate_zero, List.push_toArray, List.append_toArray, List.nil_append, List.cons_append]
    have hKe : full key = key ++ (List.replicate 64 0).drop key.length := by rw [full, keyL, if_neg hlong, List.drop_replicate]
    obtain ⟨W6, hcopy, A6, B6, S6⟩ := run_copy_u8 (P := Tryd.prog) (dCap := 64) (sCap := kc) (dLen := 64) Tryd.underlying35 Tryd.size5 3 (Arr.new2 w (.cells (u8s (List.replicate 32 0)).toArray 90) 127 (u8s (List.replicate 64 0))) (hkr.below (((Below.refl w.heap.size w).alloc (Nat.le_refl _) (.cells (u8s (List.replicate 32 0)).toArray 90)).alloc (by simp) (.cells (u8s (List.replicate 64 0)).toArray 127)) (Nat.le_refl _)) (by rw [List.length_replicate]; omega) (by omega)
    have hcopy2 : (Builtin.copy_ #[35, 35] 3 #[.slice (some ⟨w.heap.size + 1, 0, none⟩) 64 64, .slice kA key.length kc]).run Tryd.prog ((w.alloc (.cells #[.int .u8 0, .int .u8 0, .int .u8 0, .int .u8 0, .int .u8 0, .int .u8 0, .int .u8 0, .int .u8 0, .int .u8 0, .int .u8 0, .int .u8 0, .int .u8 0, .int .u8 0, .int .u8 0, .int .u8 0, .int .u8 0, .int .u8 0, .int .u8 0, .int .u8 0, .int .u8 0, .int .u8 0, .int .u8 0, .int .u8 0, .int .u8 0, .int .u8 0, .int .u8 0, .int .u8 0, .int .u8 0, .int .u8 0, .int .u8 0, .int .u8 0, .int .u8 0] 90)).alloc (.cells #[.int .u8 0, .int .u8 0, .int .u8 0, .int .u8 0, .int .u8 0, .int .u8 0, .int .u8 0, .int .u8 0, .int .u8 0, .int .u8 0, .int .u8 0, .int .u8 0, .int .u8 0, .int .u8 0, .int .u8 0, .int .u8 0, .int .u8 0, .int .u8 0, .int .u8 0, .int .u8 0, .int .u8 0, .int .u8 0, .int .u8 0, .int .u8 0, .int .u8 0, .int .u8 0, .int .u8 0, .int .u8 0, .int .u8 0, .int .u8 0, .int .u8 0, .int .u8 0, .int .u8 0, .int .u8 0, .int .u8 0, .int .u8 0, .int .u8 0, .int .u8 0, .int .u8 0, .int .u8 0, .int .u8 0, .int .u8 0, .int .u8 0, .int .u8 0, .int .u8 0, .int .u8 0, .int .u8 0, .int .u8 0, .int .u8 0, .int .u8 0, .int .u8 0, .int .u8 0, .int .u8 0, .int .u8 0, .int .u8 0, .int .u8 0, .int .u8 0, .int .u8 0, .int .u8 0, .int .u8 0, .int .u8 0, .int .u8 0, .int .u8 0, .int .u8 0] 127)) = .ok (goInt key.length) W6 := hcopy
    clear hcopy
    have AZ6 : Arr W6 w.heap.size 90 (u8s (List.replicate 32 0)) := ((Arr.new w 90 (u8s (List.replicate 32 0))).alloc _).below B6 (by omega)
    have BW6 : Below w.heap.size w W6 := (((Below.refl w.heap.size w).alloc (Nat.le_refl _) _).alloc (by simp) _).trans (B6.mono (by omega))
    have hs6 : W6.heap.size = (w.heap.size + 1) + 1 := by rw [S6]; simp
    have hsF : w.heap.size < w.heap.size + 1 := by omega
    have AF6 : Arr W6 (w.heap.size + 1) 127 (u8s (full key)) := by rw [hKe]; exact A6
    clear A6 B6 S6 hKe
    have hfl := full_len key
    have hfb := full_lt hkb
    have hpos := hT.pos
    have TW6 : Tabs W6 := hT.below BW6 hpos
    have hL1l : (maskL (full key) 54 ++ b).length = 64 + b.length := by simp [maskL, hfl]
    have hL1b : ∀ x ∈ maskL (full key) 54 ++ b, x < 256 := fun x hx => (List.mem_append.1 hx).elim (maskL_lt hfb (by decide) x) (hb x)
    have hb54 := behind_any (full key) hfl hfb 54 (by decide) a cap b (by omega) W6 ((hr.below BW6 (Nat.le_refl _)).mono (by omega))
    have hps := fun g c (hc : 64 + b.length ≤ c) => psum_any (some ⟨g, 0, none⟩) c (maskL (full key) 54 ++ b) hL1b (by rw [hL1l]; exact hc) (by rw [hL1l]; omega)
    have hmac : sumL (maskL (full key) 92 ++ sumL (maskL (full key) 54 ++ b)) = macL key b := rfl
    obtain ⟨T1, hT1⟩ : ∃ T1, sumL (maskL (full key) 54 ++ b) = T1 := ⟨_, rfl⟩
    have hT1l : T1.length = 32 := by rw [← hT1]; rfl
    have hT1b : ∀ x ∈ T1, x < 256 := by rw [← hT1]; exact outV_lt _
    rw [hL1l, hT1] at hps
    rw [hT1] at hmac
    obtain ⟨R, hR⟩ : ∃ R, macL key b = R := ⟨_, rfl⟩
    have hRl : R.length = 32 := by rw [← hR]; rfl
    have HRe : Hid (Unit → macL key b = R) := fun _ => hR
    rw [hR] at hmac
    have hL2l : (maskL (full key) 92 ++ T1).length = 64 + 32 := by simp [maskL, hfl, hT1l]
    have hL2b : ∀ x ∈ maskL (full key) 92 ++ T1, x < 256 := fun x hx => (List.mem_append.1 hx).elim (maskL_lt hfb (by decide) x) (hT1b x)
    have HT1 := Lib.hid hT1
    clear hT1 hR
    gi_wp2_with (first
      | (refine wpListIn_plain rfl fun K hK => opIn_load_arr 127 (.tmp 6) rfl (w.heap.size + 1) rfl AF6 Tryd.underlying127 rfl Tryd.size127 (by rw [u8s_len, full_len]) (hK _ _ ?_); clear hK K)
      | (refine ⟨trivial, ?_⟩; gi_at_call 63; refine (callsIn_wide.2 hb54).mono ?_; rintro e w7 ⟨⟨g7, c7, rfl, hc7, hr7⟩, hb7⟩)
      | (refine ⟨trivial, ?_⟩; gi_at_call 62; refine (callsIn_wide.2 (hps g7 c7 hc7 w7 hr7 (TW6.below hb7 (by omega)))).mono ?_; rintro e w8 ⟨rfl, hb8⟩)
      | (refine wpListIn_plain rfl fun K hK => opIn_store_arr 90 (.tmp 7) (.tmp 20) rfl w8.heap.size rfl rfl (show Arr _ w8.heap.size 90 (u8s (List.replicate 32 0)) from Arr.new w8 90 (u8s (List.replicate 32 0))) Tryd.size90 (by rw [u8s_len, hT1l]) rfl (u8s_one _) ?_; intro W9 A9 B9 O9; refine hK _ _ ?_; clear hK K))
    have hb78 : Below W6.heap.size W6 w8 := hb7.trans (hb8.mono hb7.size)
    have hs8 : W6.heap.size ≤ w8.heap.size := hb78.size
    have BS9 : Below W6.heap.size W6 W9 := (hb78.alloc hs8 _).trans (B9.out.mono hs8)
    have AF9 : Arr W9 (w.heap.size + 1) 127 (u8s (full key)) := AF6.below BS9 (by omega)
    have AZ9 : Arr W9 w.heap.size 90 (u8s (List.replicate 32 0)) := AZ6.below BS9 (by omega)
    have BW9 : Below w.heap.size w W9 := BW6.trans (BS9.mono (by omega))
    have TW9 : Tabs W9 := hT.below BW9 hpos
    have hs9 := A9.out.lt
    have hsw : w.heap.size < W9.heap.size := AZ9.lt
    have hRT : RdN W9.heap.size W9 (some ⟨w8.heap.size, 0, none⟩) T1 := RdN.arr A9.out hs9
    have hbh := behind_any (full key) hfl hfb 92 (by decide) (some ⟨w8.heap.size, 0, none⟩) 32 T1 (by omega) W9.drew (show RdN W9.drew.heap.size W9.drew _ _ from hRT)
    rw [hT1l] at hbh
    clear hb7 hb8 hb78 hs8 BS9 AF6 AZ6 BW6 TW6 hps hb54 hr7 O9 B9
    refine wpIn_region_any (by kernel_rfl) ?_
    change wpAnyIn _ _ _ _ _ _ _ _ _ (World.drew _)
    refine wpAnyIn_ready (rs := [0, 1]) (by kernel_rfl) (by simp) ?_
    refine AllReadyIn.cons rfl (fun K hK => ?_) (AllReadyIn.cons rfl (fun K hK => ?_) AllReadyIn.nil)
    · refine stepIn_of rfl (opIn_load_arr 127 (.tmp 6) rfl (w.heap.size + 1) rfl (show Arr W9.drew _ _ _ from AF9) Tryd.underlying127 rfl Tryd.size127 (by rw [u8s_len, full_len]) ?_)
      refine hK _ _ ?_
      clear hK K
      refine wpAnyIn_ready (rs := [1]) (by kernel_rfl) (by simp) ?_
      refine AllReadyIn.cons rfl (fun K hK => ?_) AllReadyIn.nil
      go_simp
      refine hK _ _ ?_
      clear hK K
      refine wpAnyIn_ready (rs := [2]) (by kernel_rfl) (by simp) ?_
      refine AllReadyIn.cons rfl (fun K hK => ?_) AllReadyIn.nil
      go_simp
      refine ⟨trivial, ?_⟩
      refine (callsIn_wide.2 hbh).mono ?_
      rintro e w10 ⟨⟨g10, c10, rfl, hc10, hr10⟩, hb10⟩
      refine hK _ _ ?_
      clear hK K
      have hbw10 : Below W9.heap.size W9 w10 := (Below.refl _ W9).drew.trans hb10
      have hs10 := psum_any (some ⟨g10, 0, none⟩) c10 (maskL (full key) 92 ++ T1) hL2b (by rw [hL2l]; exact hc10) (by rw [hL2l]; decide) w10 hr10 (TW9.below hbw10 (by omega))
      rw [hL2l, hmac] at hs10
      refine wpAnyIn_ready (rs := [3]) (by kernel_rfl) (by simp) ?_
      refine AllReadyIn.cons rfl (fun K hK => ?_) AllReadyIn.nil
      go_simp
      refine ⟨trivial, ?_⟩
      refine (callsIn_wide.2 hs10).mono ?_
      rintro e w11 ⟨rfl, hb11⟩
      refine hK _ _ ?_
      clear hK K
      have hbw11 : Below W9.heap.size W9 w11 := hbw10.trans (hb11.mono hbw10.size)
      refine wpAnyIn_ready (rs := [4]) (by kernel_rfl) (by simp) ?_
      refine AllReadyIn.cons rfl (fun K hK => ?_) AllReadyIn.nil
      refine stepIn_of rfl (opIn_store_arr 90 (.tmp 4) (.tmp 24) rfl w.heap.size rfl rfl (AZ9.below hbw11 (by omega)) Tryd.size90 (by rw [u8s_len, hRl]) (by rw [u8s_len, List.length_replicate]) (u8s_one _) ?_)
      intro W12 A12 B12 O12
      refine hK _ _ ?_
      clear hK K
      refine wpAnyIn_done (by kernel_rfl) ?_ _
      gi_wp2
      refine bodyPost_ret (results_arr rfl rfl A12.out Tryd.underlying90 rfl Tryd.size90 (by rw [u8s_len, hRl])) rfl ?_
      exact ⟨by rw [HRe.out ()], (BW9.trans (hbw11.mono (by omega))).trans B12.out⟩
    · go_simp
      refine hK _ _ ?_
      clear hK K
      refine wpAnyIn_ready (rs := [0]) (by kernel_rfl) (by simp) ?_
      refine AllReadyIn.cons rfl (fun K hK => ?_) AllReadyIn.nil
      refine stepIn_of rfl (opIn_load_arr 127 (.tmp 6) rfl (w.heap.size + 1) rfl (show Arr W9.drew _ _ _ from AF9) Tryd.underlying127 rfl Tryd.size127 (by rw [u8s_len, full_len]) ?_)
      refine hK _ _ ?_
      clear hK K
      refine wpAnyIn_ready (rs := [2]) (by kernel_rfl) (by simp) ?_
      refine AllReadyIn.cons rfl (fun K hK => ?_) AllReadyIn.nil
      go_simp
      refine ⟨trivial, ?_⟩
      refine (callsIn_wide.2 hbh).mono ?_
      rintro e w10 ⟨⟨g10, c10, rfl, hc10, hr10⟩, hb10⟩
      refine hK _ _ ?_
      clear hK K
      have hbw10 : Below W9.heap.size W9 w10 := (Below.refl _ W9).drew.trans hb10
      have hs10 := psum_any (some ⟨g10, 0, none⟩) c10 (maskL (full key) 92 ++ T1) hL2b (by rw [hL2l]; exact hc10) (by rw [hL2l]; decide) w10 hr10 (TW9.below hbw10 (by omega))
      rw [hL2l, hmac] at hs10
      refine wpAnyIn_ready (rs := [3]) (by kernel_rfl) (by simp) ?_
      refine AllReadyIn.cons rfl (fun K hK => ?_) AllReadyIn.nil
      go_simp
      refine ⟨trivial, ?_⟩
      refine (callsIn_wide.2 hs10).mono ?_
      rintro e w11 ⟨rfl, hb11⟩
      refine hK _ _ ?_
      clear hK K
      have hbw11 : Below W9.heap.size W9 w11 := hbw10.trans (hb11.mono hbw10.size)
      refine wpAnyIn_ready (rs := [4]) (by kernel_rfl) (by simp) ?_
      refine AllReadyIn.cons rfl (fun K hK => ?_) AllReadyIn.nil
      refine stepIn_of rfl (opIn_store_arr 90 (.tmp 4) (.tmp 24) rfl w.heap.size rfl rfl (AZ9.below hbw11 (by omega)) Tryd.size90 (by rw [u8s_len, hRl]) (by rw [u8s_len, List.length_replicate]) (u8s_one _) ?_)
      intro W12 A12 B12 O12
      refine hK _ _ ?_
      clear hK K
      refine wpAnyIn_done (by kernel_rfl) ?_ _
      gi_wp2
      refine bodyPost_ret (results_arr rfl rfl A12.out Tryd.underlying90 rfl Tryd.size90 (by rw [u8s_len, hRl])) rfl ?_
      exact ⟨by rw [HRe.out ()], (BW9.trans (hbw11.mono (by omega))).trans B12.out⟩
end Go.Proofs.YthdlcpnmldhllaaDoor.sl

/-
  WHAT EVERY LAW OF THE HASH BEGINS WITH: the tables as the program's text lays them; bytes that came in; 'awake'.
-/
namespace Go.Proofs.YthdlcpnmldhllaaDoor.sl
open Go.RowKit Go.ChangeShapes Go.WideShapes
set_option linter.unusedVariables false

section
variable {H : Type} {enc : TypeId × Value → H} {P : Program} {w : World} {sp : Nat → Bool} {held : Bool} {fuel : Nat}
/-- An array of numbers, by its datum. -/
theorem arr_ints {t e : TypeId} {k : IntKind} {n : Nat} {cs : List Value} {d : DataW H} {p : List MemPlace} (ht : P.underlying t = some (.array n e)) (he : P.underlying e = some (.int k)) (hc : P.cellsOf e = 1)
    (h : DataW.trod enc P w 0 sp held fuel t cs = some (d, p)) (zs : List Int) (hx : d = DataW.agg (zs.map fun z => DataW.lit (Lit.int k z))) : ∀ (i : Nat) (z : Int), zs[i]? = some z → cs[i]? = some (Value.int k z) := by
  obtain ⟨xs, m, rfl, hx1, hlen, hn, hel⟩ := DataW.trod_array ht h
  injection hx1 with hx1 _
  rw [hx] at hx1
  injection hx1 with hx1
  have hzl : zs.length = n := by have := congrArg List.length hx1; simpa [hn] using this
  intro i z hz
  have hi : i < n := by rw [← hzl]; exact (List.getElem?_eq_some_iff.1 hz).1
  have h0 := hel i hi
  rw [hc, Nat.mul_one] at h0
  obtain ⟨y, hy⟩ : ∃ y, xs[i]? = some y := ⟨_, List.getElem?_eq_getElem (by omega)⟩
  rw [hy] at h0
  obtain ⟨q, e1, e2, _⟩ := DataW.trod_int he h0
  have e3 : (zs.map fun z => (DataW.lit (.int k z) : DataW H))[i]? = some y.1 := by rw [hx1, List.getElem?_map, hy]; rfl
  rw [List.getElem?_map, hz, e2] at e3
  simp only [Option.map_some, Option.some.injEq, DataW.lit.injEq, Lit.int.injEq, true_and] at e3
  subst e3
  have e4 : ((cs.drop i).take 1)[0]? = some (.int k z) := by rw [e1]; rfl
  rw [List.getElem?_take, if_pos (by decide), List.getElem?_drop, Nat.add_zero] at e4
  exact e4
end
theorem gStart : Tryd.prog.globalNamed "selvage/sha.start" = some 1 := by kernel_rfl
theorem gK : Tryd.prog.globalNamed "selvage/sha.k" = some 2 := by kernel_rfl
theorem tStart : (Tryd.prog.globals[1]?).map (·.type) = some 145 := by kernel_rfl
theorem tK : (Tryd.prog.globals[2]?).map (·.type) = some 149 := by kernel_rfl
theorem tabs_of {W : World} (h : laidMetH Tryd.prog [("selvage/sha.start", Rows.laid_selvage_sha_start), ("selvage/sha.k", Rows.laid_selvage_sha_k), ("selvage/wire.places", Rows.laid_selvage_wire_places)] W) : Tabs W := by
  rw [MakeChecks.laidMetH_plain _ _ _ (by kernel_rfl)] at h
  obtain ⟨ps, ⟨g0, t0, cs0, f0, p0, q0, hg0, ht0, hv0, hd0, hrest⟩, hx⟩ := h
  obtain ⟨⟨g1, t1, cs1, f1, p1, q1, hg1, ht1, hv1, hd1, _⟩, _⟩ := hrest
  obtain rfl := Option.some.inj (gStart.symm.trans hg0)
  obtain rfl := Option.some.inj (tStart.symm.trans ht0)
  obtain rfl := Option.some.inj (gK.symm.trans hg1)
  obtain rfl := Option.some.inj (tK.symm.trans ht1)
  have e0 := arr_ints Tryd.underlying145 Tryd.underlying102 (by kernel_rfl) hd0 (beginH.list.map fun n : Nat => (n : Int)) rfl
  have e1 := arr_ints Tryd.underlying149 Tryd.underlying102 (by kernel_rfl) hd1 (tabK.map fun n : Nat => (n : Int)) rfl
  refine ⟨fun j v hv => ?_, fun j v hv => ?_⟩
  · obtain ⟨n, hn, rfl⟩ : ∃ n : Nat, beginH.list[j]? = some n ∧ Value.int .u32 (n : Int) = v := by
      unfold u32s at hv
      rw [List.getElem?_map] at hv
      exact Option.map_eq_some_iff.1 hv
    have h := e0 j n (by rw [List.getElem?_map, hn]; rfl)
    rw [Nat.zero_add, World.var?_cell hg0 hv0 j]
    simpa using h
  · obtain ⟨n, hn, rfl⟩ : ∃ n : Nat, tabK[j]? = some n ∧ Value.int .u32 (n : Int) = v := by
      unfold u32s at hv
      rw [List.getElem?_map] at hv
      exact Option.map_eq_some_iff.1 hv
    have h := e1 j n (by rw [List.getElem?_map, hn]; rfl)
    rw [Nat.zero_add, World.var?_cell hg1 hv1 j]
    simpa using h
theorem door_met (os : Os) (args : Array Value) : laidMetH Tryd.prog [("selvage/sha.start", Rows.laid_selvage_sha_start), ("selvage/sha.k", Rows.laid_selvage_sha_k), ("selvage/wire.places", Rows.laid_selvage_wire_places)] ((World.doorLaid Tryd.prog 400 os).forCall (fun _ _ => 0) ⟨#[], args, []⟩).memory :=
  laidMetH_of_parts3 (fuel := 8) (laidMet_of_run' 8 (by kernel_rfl) (by kernel_rfl)) (by kernel_rfl) (by kernel_rfl)

/-- Bytes as they came in. -/
def InB (w : World) (a : Option Addr) (len cap : Nat) (b : List Nat) : Prop := b.length = len ∧ len ≤ cap ∧ cap ≤ maxLen ∧ (∀ x ∈ b, x < 256) ∧ RdN w.heap.size w a b
theorem inB_of {H : Type} {enc : TypeId × Value → H} {W : World} {held : Bool} {fuel : Nat} {a : Option Addr} {len cap : Nat} {d : DataW H} {p : List MemPlace} (hf : DataW.trod enc Tryd.prog W 0 (fun _ => true) held fuel 35 [.slice a len cap] = some (d, p)) : ∃ b, InB W a len cap b := by
  rcases open_ints Tryd.underlying35 Tryd.underlying5 (by kernel_rfl) hf with ⟨hcs, _⟩ | ⟨x, l, c, zs, hcs, _, hl, hm, hz, _, hcell, hwz⟩
  · simp at hcs
    obtain ⟨rfl, rfl, rfl⟩ := hcs
    exact ⟨[], rfl, Nat.le_refl _, Nat.zero_le _, fun x hx => by simp at hx, RdN.nil _ _ _⟩
  · simp at hcs
    obtain ⟨rfl, rfl, rfl⟩ := hcs
    have hz' : zs.length = cap := by simpa using hz
    have hw : ∀ z ∈ zs, 0 ≤ z ∧ z ≤ 255 := fun z hz => by simpa [Lit.wf, IntKind.min, IntKind.max, IntKind.signed, IntKind.bits] using hwz z hz
    refine ⟨(zs.take len).map Int.toNat, by simp; omega, hl, hm, fun y hy => ?_, fun hp => ?_⟩
    · obtain ⟨z, hz, rfl⟩ := List.mem_map.1 hy
      have := hw z (List.mem_of_mem_take hz)
      omega
    · simp at hp
      obtain ⟨b, off, rfl, hcc⟩ := ints_at hcell (by omega)
      refine ⟨b, off, rfl, World.block_lt_of_cell? W _ (hcc 0 (by omega)), fun j y hy => ?_⟩
      rw [List.getElem?_map, List.getElem?_take] at hy
      split at hy
      · rename_i hj
        rw [hcc j (by omega), List.getD_eq_getElem?_getD, List.getElem?_eq_getElem (by omega)]
        rw [List.getElem?_eq_getElem (by omega)] at hy
        simp at hy
        have := hw _ (List.getElem_mem (l := zs) (n := j) (by omega))
        subst hy
        simp
        omega
      · cases hy

theorem sum_abc : sumL [97, 98, 99] = [186, 120, 22, 191, 143, 1, 207, 234, 65, 65, 64, 222, 93, 174, 34, 35, 176, 3, 97, 163, 150, 23, 122, 156, 180, 16, 255, 97, 242, 0, 21, 173] := by decide +kernel
/-- The bytes of a text that the program holds, behind the conversion that marks them. -/
theorem lit_rd (w : World) (b : List Nat) (fr : Nat × Nat) : RdN (w.heap.size + 1) (w.alloc (.cells (u8s b).toArray 5 fr)) (some ⟨w.heap.size, 0, none⟩) b := fun _ =>
  ⟨w.heap.size, 0, rfl, Nat.lt_succ_self _, fun j x hx => by
    rw [Nat.zero_add, Joins.cell_alloc_mark_at w _ 5 fr _ j rfl]
    simpa using u8s_get hx⟩
end Go.Proofs.YthdlcpnmldhllaaDoor.sl

/-
  TWO EQUAL SUMS ARE EQUAL, as the law compares arrays; bytes as a string.
-/
namespace Go.Proofs.YthdlcpnmldhllaaDoor.sl
open Go.RowKit
theorem mapM_some {α β : Type} {f : α → Option β} : ∀ (l : List α), (∀ x ∈ l, ∃ y, f x = some y) → ∃ ys, l.mapM f = some ys := by
  intro l
  induction l with
  | nil => intro _; exact ⟨[], rfl⟩
  | cons x l ih =>
    intro h
    obtain ⟨y, hy⟩ := h x (by simp)
    obtain ⟨ys, hys⟩ := ih fun z hz => h z (by simp [hz])
    exact ⟨y :: ys, by rw [List.mapM_cons, hy, hys]; rfl⟩
theorem keys24 {l : List Nat} (hl : l.length = 32) (hb : ∀ x ∈ l, x < 256) : ∃ la, Tryd.prog.keyLits 2 90 (u8s l) = some la := by
  have c24 : Tryd.prog.cellsOf 90 = 32 := by kernel_rfl
  have c5 : Tryd.prog.cellsOf 5 = 1 := by kernel_rfl
  obtain ⟨ys, hys⟩ := mapM_some (f := fun i => Tryd.prog.keyLits 1 5 (((u8s l).drop (i * 1)).take 1)) (List.range 32) (fun i hi => by
    have hi' : i < l.length := by rw [hl]; exact List.mem_range.1 hi
    obtain ⟨x, hx⟩ : ∃ x, l[i]? = some x := ⟨_, List.getElem?_eq_getElem hi'⟩
    have hx8 := hb x (List.mem_of_getElem? hx)
    have e : ((u8s l).drop (i * 1)).take 1 = [.int .u8 x] := by
      rw [Nat.mul_one, u8s_drop, u8s_take, List.take_one, List.head?_drop, hx]; rfl
    refine ⟨[.int .u8 x], ?_⟩
    rw [e]
    have hw : (Lit.int .u8 (x : Int)).wf = true := by simp [Lit.wf, IntKind.min, IntKind.max, IntKind.signed, IntKind.bits]; omega
    simp [Program.keyLits, Tryd.underlying5, hw])
  refine ⟨ys.flatten, ?_⟩
  unfold Program.keyLits
  simp only [Tryd.underlying90, c24, c5, u8s_len, hl, if_true]
  rw [hys]
  rfl
theorem eq24 {l : List Nat} (hl : l.length = 32) (hb : ∀ x ∈ l, x < 256) (W : World) : (Op.equalIn 10000 90 (.agg (u8s l).toArray) (.agg (u8s l).toArray)).run Tryd.prog W = .ok true W := by
  obtain ⟨la, hk⟩ := keys24 hl hb
  have c24 : Tryd.prog.cellsOf 90 = 32 := by kernel_rfl
  have hf : (Value.agg (u8s l).toArray).formed Tryd.prog 90 = true := by
    simp [Value.formed, Tryd.underlying90, c24, u8s_len, hl]
  obtain ⟨r, h1, h2⟩ := run_equalIn_deep (P := Tryd.prog) 9998 2 90 (by kernel_rfl) W 2 2 (.agg (u8s l).toArray) (.agg (u8s l).toArray) _ _ hf hf hk hk
  rw [h2.2 rfl] at h1
  exact h1
theorem conv_rdN {n₀ : Nat} {W : World} {a : Option Addr} {b : List Nat} (h : RdN n₀ W a b) {len : Nat} (hl : b.length = len) (cap : Nat) : ∃ s, ∀ W', (W'.heap = W.heap ∨ Below n₀ W W') → (convert 35 9 (.slice a len cap)).run Tryd.prog W' = .ok (.string s) W' := by
  subst hl
  refine ⟨strOfNums (b.map fun n : Nat => (n : Int)), fun W' hW => ?_⟩
  by_cases hz : 0 < b.length
  · obtain ⟨bb, off, rfl, hbb, hc⟩ := h hz
    exact run_convert_bytes_arg W' 35 5 Tryd.underlying35 Tryd.underlying5 bb off _ cap (b.map fun n : Nat => (n : Int)) (by simp) (fun i hi => by
      have hi' : i < b.length := by simpa using hi
      have e := hc i b[i] (List.getElem?_eq_getElem hi')
      have e2 : W'.cell? ⟨bb, off + i, none⟩ = W.cell? ⟨bb, off + i, none⟩ := by
        rcases hW with hW | hW
        · unfold World.cell?; rw [hW]
        · exact hW.cell (p := ⟨bb, off + i, none⟩) hbb
      rw [e2, e, List.getD_eq_getElem?_getD, List.getElem?_map, List.getElem?_eq_getElem hi']
      rfl) 9 Tryd.underlying9
  · obtain rfl : b = [] := List.eq_nil_of_length_eq_zero (by omega)
    cases a with
    | none => exact run_convert_bytes_nil W' 35 5 Tryd.underlying35 Tryd.underlying5 _ cap 9 Tryd.underlying9
    | some x =>
      rw [List.length_nil, run_convert_bytes_string W' 35 9 5 _ _ cap Tryd.underlying35 Tryd.underlying5 Tryd.underlying9]
      exact run_bytesToString W' x 0 cap [] (by simp [loadCells, loadCellsFrom, Sem.run_pure])
end Go.Proofs.YthdlcpnmldhllaaDoor.sl

/-
  NOUGHTS PUT BEHIND BYTES: 'append(s, make([]byte, n)...)'.
-/
namespace Go.Proofs.YthdlcpnmldhllaaDoor.sl
open Go.RowKit
theorem zero_u8 (m : Nat) : Builtin.zeroCells (Value.int .u8 0).cells m = (u8s (List.replicate m 0)).toArray := by
  apply Array.ext
  · simp [Builtin.zeroCells, u8s, Value.cells]
  · intro i h1 h2
    simp [Builtin.zeroCells, u8s, Value.cells, Nat.mod_one]
theorem run_append_zeros {i0 : TypeInfo} (hi : Tryd.prog.info? 5 = some i0) (hz0 : i0.zero = some (.int .u8 0)) (hz1 : i0.size = 1) (hz2 : i0.bytes = 1) {W : World} {base : Nat} {v : Value} {l : List Nat} (hown : W.ownsRow base 5 1 v l.length (u8s l)) (m : Nat) (hlen : l.length + m ≤ 1000) (hbase : base ≤ W.heap.size) (ty : TypeId) :
    ∃ v' w', (Builtin.append_ #[35, 3] ty #[v, .int .i64 m]).run Tryd.prog W = .ok v' w' ∧ w'.ownsRow base 5 1 v' (l.length + m) (u8s (l ++ List.replicate m 0)) ∧ W.grownBy w' v.ownBlock := by
  have wm : IntKind.i64.wrap (m : Int) = m := by rw [IntKind.wrap_i64]; omega
  have n1 : ¬ ((m : Int) < 0) := by omega
  have n2 : ¬ (281474976710656 < (m : Int)) := by omega
  have w0 : IntKind.i64.wrap 0 = 0 := by decide
  by_cases hm : m = 0
  · subst hm
    refine ⟨v, W, ?_, by simpa using hown, ⟨rfl, rfl, rfl, Nat.le_refl _, fun _ _ _ => rfl⟩⟩
    rcases hown.2 with ⟨rfl, hn0⟩ | ⟨g, cap, cur, rfl, hbg, hg, hnc, hcm, hcs, htake⟩
    · simp [Builtin.append_, run_underlying Tryd.underlying35, run_underlying Tryd.underlying3, sizeOf, typeInfo, hi, hz2, asInt, asIntOf, w0]
    · simp [Builtin.append_, run_underlying Tryd.underlying35, run_underlying Tryd.underlying3, sizeOf, typeInfo, hi, hz2, asInt, asIntOf, w0, hnc, storeCells]
  have hgl : (u8s (l ++ List.replicate m 0)).length = (l.length + m) * 1 := by rw [u8s_len, List.length_append, List.length_replicate, Nat.mul_one]
  have grown : ∀ (old : Nat), old < l.length + m → ∀ (row : Option Nat),
      (W.drew.alloc (.cells ((u8s l).toArray ++ (u8s (List.replicate m 0)).toArray ++ Builtin.zeroCells (Value.int .u8 0).cells (grownCap W (l.length + m) old 5 - (l.length + m))) 5)).ownsRow base 5 1
        (.slice (some ⟨W.heap.size, 0, none⟩) (l.length + m) (grownCap W (l.length + m) old 5)) (l.length + m) (u8s (l ++ List.replicate m 0)) ∧
      W.grownBy (W.drew.alloc (.cells ((u8s l).toArray ++ (u8s (List.replicate m 0)).toArray ++ Builtin.zeroCells (Value.int .u8 0).cells (grownCap W (l.length + m) old 5 - (l.length + m))) 5)) row := by
    intro old ho row
    have hge := grownCap_ge W (l.length + m) old 5
    have hcm := grownCap_le_maxLen W (l.length + m) old 5 (by unfold maxLen; omega)
    refine ⟨⟨hgl, .inr ⟨W.heap.size, _, _, rfl, hbase, heap_alloc_new W.drew _, hge, hcm, ?_, ?_⟩⟩, ⟨rfl, rfl, rfl, by simp, fun k hk _ => Below.heap_alloc W.drew _ k hk⟩⟩
    · rw [zero_u8]
      simp only [Array.size_append, List.size_toArray, u8s_len, List.length_replicate]
      omega
    · rw [u8s_append, zero_u8]
      simp only [Array.toList_append]
      rw [List.take_append_of_le_length (by simp [u8s_len])]
      exact List.take_of_length_le (by simp [u8s_len])
  rcases hown.2 with ⟨rfl, hn0⟩ | ⟨g, cap, cur, rfl, hbg, hg, hnc, hcm, hcs, htake⟩
  · obtain rfl : l = [] := List.eq_nil_of_length_eq_zero hn0
    have hgr := grown 0 (by omega) (Value.ownBlock (.slice none 0 0))
    refine ⟨_, _, ?_, hgr.1, hgr.2⟩
    have hfit : ¬ (281474976710656 < Builtin.nextslicecap m 0) := by rw [nextslicecap_zero (by omega)]; simp at hlen; omega
    have h63 : ¬ (9223372036854775807 < (m : Int)) := by simp at hlen; omega
    simp [Builtin.append_, run_underlying Tryd.underlying35, run_underlying Tryd.underlying3, sizeOf, typeInfo, zeroValue, hi, hz0, hz1, hz2, asInt, asIntOf, wm, n1, n2, hm, hfit, h63, Question.forced, Builtin.firstCells, newRow, grownCap, zero_u8, u8s]
  · by_cases hroom : l.length + m ≤ cap
    · have hst := run_storeCells_at Tryd.prog g l.length 5 (u8s (List.replicate m 0)) 0 cur W hg (by rw [u8s_len, List.length_replicate]; omega) u8s_mem
      simp only [Nat.add_zero] at hst
      refine ⟨_, _, by simp [Builtin.append_, run_underlying Tryd.underlying35, run_underlying Tryd.underlying3, sizeOf, typeInfo, zeroValue, hi, hz0, hz1, hz2, asInt, asIntOf, wm, n1, n2, hm, hroom, zero_u8, Addr.add_lit, hst]; rfl, ⟨hgl, .inr ⟨g, cap, _, rfl, hbg, setRow_heap W g cur _ 5 _ hg, hroom, hcm, ?_, ?_⟩⟩, ⟨rfl, rfl, rfl, by simp, fun k _ hk => setRow_other W g k _ (fun e => hk (by simp [Value.ownBlock, e]))⟩⟩
      · simp [u8s_len]
        omega
      · rw [u8s_append, ← htake]
        simp
        rw [← List.append_assoc]
        exact List.take_left' (by simp only [List.length_append, List.length_take, Array.length_toList, u8s_len, List.length_replicate]; omega)
    · have hgr := grown cap (by omega) (Value.ownBlock (.slice (some ⟨g, 0, none⟩) l.length cap))
      refine ⟨_, _, ?_, hgr.1, hgr.2⟩
      have holds : ∀ j u, (u8s l)[j]? = some u → W.cell? ((⟨g, 0, none⟩ : Addr).add j) = some u := hown.cells (g := g) rfl
      have hfo := run_firstCells_some (P := Tryd.prog) W.drew 1 l.length ⟨g, 0, none⟩ l.length cap (u8s l) (by rw [u8s_len, Nat.mul_one]) (by simpa using holds)
      have hfit : ¬ (281474976710656 < Builtin.nextslicecap (l.length + m) cap) := by
        have h := growslice_fits (need := l.length + m) (old := cap) (bytes := 1) (by omega) (by omega)
        omega
      have h63 : ¬ (9223372036854775807 < ((l.length : Int) + (m : Int))) := by omega
      simp [Builtin.append_, run_underlying Tryd.underlying35, run_underlying Tryd.underlying3, sizeOf, typeInfo, zeroValue, hi, hz0, hz1, hz2, asInt, asIntOf, wm, n1, n2, hm, hroom, hfit, h63, Question.forced, hfo, newRow, grownCap, zero_u8]
theorem wpList_append_zeros {w : World} {ops : Array Oper} {rest : List Oper} {o : Oper} {a : Act} {Q : Exit → Act → World → Prop} {i0 : TypeInfo} (hi : Tryd.prog.info? 5 = some i0) (hz0 : i0.zero = some (.int .u8 0)) (hz1 : i0.size = 1) (hz2 : i0.bytes = 1) (hgd : o.guard = none) (s x : Operand)
    (ho : o.op = .call { callee := .builtin .append, args := #[s, x], argTypes := #[35, 3] }) (base : Nat) (v : Value) (l : List Nat) (hs : a.eval s = v) (hown : w.ownsRow base 5 1 v l.length (u8s l))
    {m : Nat} (hx : a.eval x = .int .i64 m) (hlen : l.length + m ≤ 1000) (hbase : base ≤ w.heap.size)
    (h : ∀ v' w', Hid (w'.ownsRow base 5 1 v' (l.length + m) (u8s (l ++ List.replicate m 0))) → Hid (Below base w w') → wpList Tryd.prog ops Q rest (a.put o.dst v') w') : wpList Tryd.prog ops Q (o :: rest) a w := by
  obtain ⟨v', w', hrun, h1, h2⟩ := run_append_zeros hi hz0 hz1 hz2 hown m hlen hbase o.type
  refine wpList_plain hgd fun K hK => ?_
  unfold Oper.wp
  simp [execOp, ho, resolve, invoke, builtin, hs, hx, hrun, Result.andThen]
  exact hK _ _ (h v' w' h1 ((Below.refl base w).grown h2 hbase fun k hk => (hown.lt k hk).1))
end Go.Proofs.YthdlcpnmldhllaaDoor.sl

/-
  ShaKeys: the walk of the law.
-/
namespace Go.Proofs.YthdlcpnmldhllaaDoor.sl
open Go.RowKit
theorem mac_zeros {key : List Nat} {n : Nat} (h : key.length + n ≤ 64) (b : List Nat) : macL (key ++ List.replicate n 0) b = macL key b := by
  have e : full (key ++ List.replicate n 0) = full key := by
    unfold full keyL
    rw [if_neg (by simp; omega), if_neg (by omega), List.append_assoc, List.length_append, List.length_replicate, List.replicate_append_replicate, show n + (64 - (key.length + n)) = 64 - key.length by omega]
  unfold macL
  rw [e]
/-- What is owned can be read, empty or not. -/
theorem own_rd0 {w : World} {base : Nat} {v : Value} {l : List Nat} {n : Nat} (h : w.ownsRow base 5 1 v n (u8s l)) (hn : l.length = n) : ∃ ad c, v = .slice ad n c ∧ n ≤ c ∧ RdN w.heap.size w ad l := by
  subst hn
  by_cases h0 : 0 < l.length
  · obtain ⟨g, c, rfl, h1, _, _, h4⟩ := own_rd h h0
    exact ⟨_, c, rfl, h1, h4⟩
  · obtain rfl : l = [] := List.eq_nil_of_length_eq_zero (by omega)
    rcases h.2 with ⟨rfl, _⟩ | ⟨g, cap, cur, rfl, _, _, h1, _⟩
    · exact ⟨none, 0, rfl, Nat.le_refl _, RdN.nil _ _ _⟩
    · exact ⟨_, cap, rfl, h1, RdN.nil _ _ _⟩
theorem own_empty (w : World) (base : Nat) (hb : base ≤ w.heap.size) : (w.alloc (.cells #[] 5)).ownsRow base 5 1 (.slice (some ⟨w.heap.size, 0, none⟩) 0 0) 0 [] :=
  ⟨rfl, .inr ⟨w.heap.size, 0, #[], rfl, hb, heap_alloc_new w _, Nat.le_refl _, Nat.zero_le _, rfl, rfl⟩⟩
end Go.Proofs.YthdlcpnmldhllaaDoor.sl

/-
  NUMBERS OF MANY DIGITS of 2^16, the lowest first.
-/
namespace Go.Proofs.YthdlcpnmldhllaaDoor.sl
def val : List Nat → Nat
  | [] => 0
  | d :: l => d + 65536 * val l
theorem val_set : ∀ (l : List Nat) (i x y : Nat), l[i]? = some y → val (l.set i x) + 65536 ^ i * y = val l + 65536 ^ i * x := by
  intro l
  induction l with
  | nil => intro i x y h; simp at h
  | cons d l ih =>
    intro i x y h
    cases i with
    | zero => simp at h; subst h; simp [val]; omega
    | succ i =>
      have h1 := ih i x y (by simpa using h)
      simp only [List.set_cons_succ, val, Nat.pow_succ]
      have e1 : 65536 ^ i * 65536 * y = 65536 * (65536 ^ i * y) := by rw [Nat.mul_comm (65536 ^ i), Nat.mul_assoc]
      have e2 : 65536 ^ i * 65536 * x = 65536 * (65536 ^ i * x) := by rw [Nat.mul_comm (65536 ^ i), Nat.mul_assoc]
      rw [e1, e2]
      omega
theorem val_ge : ∀ (l : List Nat) (i y : Nat), l[i]? = some y → 65536 ^ i * y ≤ val l := by
  intro l
  induction l with
  | nil => intro i y h; simp at h
  | cons d l ih =>
    intro i y h
    cases i with
    | zero => simp at h; subst h; simp [val]
    | succ i =>
      have h1 := ih i y (by simpa using h)
      have e1 : 65536 ^ (i + 1) * y = 65536 * (65536 ^ i * y) := by rw [Nat.pow_succ, Nat.mul_comm (65536 ^ i), Nat.mul_assoc]
      rw [e1]
      simp only [val]
      omega
theorem val_lt : ∀ (l : List Nat), (∀ d ∈ l, d < 65536) → val l < 65536 ^ l.length := by
  intro l
  induction l with
  | nil => intro _; simp [val]
  | cons d l ih =>
    intro h
    have h1 := ih fun x hx => h x (List.mem_cons_of_mem _ hx)
    have h2 := h d (List.mem_cons_self ..)
    simp only [val, List.length_cons, Nat.pow_succ]
    omega
theorem val_take (l : List Nat) (i y : Nat) (h : l[i]? = some y) : val (l.take (i + 1)) = val (l.take i) + 65536 ^ i * y := by
  induction l generalizing i with
  | nil => simp at h
  | cons d l ih =>
    cases i with
    | zero => simp at h; subst h; simp [val]
    | succ i =>
      have h1 := ih i (by simpa using h)
      simp only [List.take_succ_cons, val, h1, Nat.pow_succ]
      rw [Nat.mul_add, ← Nat.mul_assoc, Nat.mul_comm 65536 (65536 ^ i)]
      omega
theorem val_take_le (l : List Nat) (i : Nat) : val (l.take i) ≤ val l := by
  induction l generalizing i with
  | nil => simp [val]
  | cons d l ih =>
    cases i with
    | zero => simp [val]
    | succ i => have := ih i; simp only [List.take_succ_cons, val]; omega
theorem val_zeros (n : Nat) : val (List.replicate n 0) = 0 := by
  induction n with
  | zero => rfl
  | succ n ih => rw [List.replicate_succ, val, ih]
theorem val_carry {o : List Nat} {c d e : Nat} (hd : o[c]? = some d) (he : o[c + 1]? = some e) : val ((o.set (c + 1) (e + d / 65536)).set c (d % 65536)) = val o := by
  have h1 := val_set o (c + 1) (e + d / 65536) e he
  have h2 := val_set (o.set (c + 1) (e + d / 65536)) c (d % 65536) d (by rw [List.getElem?_set, if_neg (by omega)]; exact hd)
  obtain ⟨P, hP⟩ : ∃ P, 65536 ^ c = P := ⟨_, rfl⟩
  rw [Nat.pow_succ, hP, Nat.mul_add] at h1
  rw [hP] at h2
  have h3 : P * d = P * 65536 * (d / 65536) + P * (d % 65536) := by
    rw [Nat.mul_assoc, ← Nat.mul_add, Nat.div_add_mod]
  omega
theorem val_room {o : List Nat} {c d n : Nat} (hd : o[c]? = some d) (h1 : 65536 ≤ d) (hv : val o < 65536 ^ n) : c + 1 < n := by
  have h2 := val_ge o c d hd
  have h3 : 65536 ^ (c + 1) ≤ 65536 ^ c * d := by rw [Nat.pow_succ]; exact Nat.mul_le_mul_left _ h1
  have h4 : 65536 ^ (c + 1) < 65536 ^ n := by omega
  exact (Nat.pow_lt_pow_iff_right (by decide)).1 h4
/-- The product's part so far stays below. -/
theorem val_bound {a b : List Nat} (ha : ∀ d ∈ a, d < 65536) (hb : ∀ d ∈ b, d < 65536) {i x : Nat} (hx : a[i]? = some x) (k : Nat) : val (a.take i) * val b + 65536 ^ i * x * val (b.take k) < 65536 ^ (a.length + b.length) := by
  have h1 := val_take a i x hx
  have h2 := val_take_le a (i + 1)
  have h3 := val_take_le b k
  have h4 := val_lt a ha
  have h5 := val_lt b hb
  have h6 : val (a.take i) * val b + 65536 ^ i * x * val (b.take k) ≤ val (a.take (i + 1)) * val b := by
    rw [h1, Nat.add_mul]
    exact Nat.add_le_add_left (Nat.mul_le_mul_left _ h3) _
  have h7 : val (a.take (i + 1)) * val b ≤ val a * val b := Nat.mul_le_mul_right _ h2
  have h8 : val a * val b < 65536 ^ a.length * 65536 ^ b.length := by
    have hp : 0 < 65536 ^ a.length := Nat.pow_pos (by decide)
    exact Nat.lt_of_le_of_lt (Nat.mul_le_mul_right _ (Nat.le_of_lt h4)) ((Nat.mul_lt_mul_left hp).2 h5)
  rw [Nat.pow_add]
  omega
end Go.Proofs.YthdlcpnmldhllaaDoor.sl

/-
  THE DOCUMENT: two numbers of many digits, multiplied.
-/
namespace Go.Proofs.YthdlcpnmldhllaaDoor.sl
open Go.RowKit
def i64s (l : List Nat) : List Value := l.map fun n : Nat => Value.int .i64 (n : Int)
theorem i64s_len (l : List Nat) : (i64s l).length = l.length := by simp [i64s]
theorem i64s_get {l : List Nat} {i n : Nat} (h : l[i]? = some n) : (i64s l)[i]? = some (.int .i64 n) := by simp [i64s, h]
theorem i64s_set (l : List Nat) (i n : Nat) : i64s (l.set i n) = (i64s l).set i (.int .i64 n) := by simp [i64s, List.map_set]
theorem Tryd.info3 : (Tryd.prog.info? 3).map (fun i => (i.zero, i.size, i.bytes)) = some (some (.int .i64 0), 1, 8) := by kernel_rfl
theorem made_i64 (c : Nat) : madeCells (Value.int .i64 0).cells (c * 1) = (i64s (List.replicate c 0)).toArray := by
  apply Array.ext
  · simp [madeCells, i64s]
  · intro i h1 h2
    simp [madeCells, i64s, Value.cells, Nat.mod_one]
end Go.Proofs.YthdlcpnmldhllaaDoor.sl

/-
  THE DOCUMENT: is a number of many digits above another one?
-/
namespace Go.Proofs.YthdlcpnmldhllaaDoor.sl
open Go.RowKit
theorem val_tail : ∀ (o : List Nat) (n : Nat), (∀ (i d : Nat), n ≤ i → o[i]? = some d → d = 0) → val (o.take n) = val o := by
  intro o
  induction o with
  | nil => intro n _; simp [val]
  | cons x o ih =>
    intro n h
    cases n with
    | zero =>
      have hx := h 0 x (Nat.le_refl _) rfl
      have h0 := ih 0 fun i d _ hd => h (i + 1) d (Nat.zero_le _) (by simpa using hd)
      simp only [List.take_zero, val] at h0 ⊢
      omega
    | succ n =>
      have h1 := ih n fun i d hi hd => h (i + 1) d (by omega) (by simpa using hd)
      simp only [List.take_succ_cons, val, h1]
def aboveN (o : List Nat) (p n : Nat) : Bool := decide (p * 65536 ^ n < val o)
theorem above_high {o : List Nat} {p n i x : Nat} (hp : p < 65536) (hx : o[i]? = some x) (hi : n < i) (h0 : x ≠ 0) : aboveN o p n = true := by
  have h1 := val_ge o i x hx
  have h2 : 65536 ^ (n + 1) ≤ 65536 ^ i := Nat.pow_le_pow_right (by decide) hi
  have h3 : 65536 ^ i * 1 ≤ 65536 ^ i * x := Nat.mul_le_mul_left _ (by omega)
  have h4 : p * 65536 ^ n < 65536 * 65536 ^ n := (Nat.mul_lt_mul_right (Nat.pow_pos (by decide))).2 hp
  rw [Nat.pow_succ, Nat.mul_comm (65536 ^ n)] at h2
  exact decide_eq_true (by omega)
theorem above_mid {o : List Nat} {p n t : Nat} (hb : ∀ d ∈ o, d < 65536) (ht : o[n]? = some t) (hz : ∀ (i d : Nat), n + 1 ≤ i → o[i]? = some d → d = 0) (hne : t ≠ p) : aboveN o p n = decide (p < t) := by
  have h1 := val_tail o (n + 1) hz
  have h2 := val_take o n t ht
  have h3 := val_lt (o.take n) fun d hd => hb d (List.mem_of_mem_take hd)
  have h4 : 65536 ^ (o.take n).length ≤ 65536 ^ n := Nat.pow_le_pow_right (by decide) (List.length_take_le _ _)
  unfold aboveN
  obtain ⟨P, hP⟩ : ∃ P, 65536 ^ n = P := ⟨_, rfl⟩
  rw [hP] at h2 h4 ⊢
  by_cases hlt : p < t
  · have h5 : P * (p + 1) ≤ P * t := Nat.mul_le_mul_left _ hlt
    rw [Nat.mul_add, Nat.mul_comm P p] at h5
    have hP0 : 0 < P := by rw [← hP]; exact Nat.pow_pos (by decide)
    rw [decide_eq_true hlt]
    exact decide_eq_true (by omega)
  · have h5 : P * (t + 1) ≤ P * p := Nat.mul_le_mul_left _ (by omega)
    rw [Nat.mul_add, Nat.mul_comm P p] at h5
    rw [decide_eq_false hlt]
    exact decide_eq_false (by omega)
theorem above_low {o : List Nat} {p n i x : Nat} (ht : o[n]? = some p) (hi : i < n) (hx : o[i]? = some x) (h0 : x ≠ 0) : aboveN o p n = true := by
  have h2 := val_take o n p ht
  have h3 := val_take_le o (n + 1)
  have h4 := val_ge (o.take n) i x (by rw [List.getElem?_take, if_pos hi]; exact hx)
  have h5 : 0 < 65536 ^ i * x := Nat.mul_pos (Nat.pow_pos (by decide)) (by omega)
  rw [Nat.mul_comm (65536 ^ n)] at h2
  exact decide_eq_true (by omega)
theorem above_not {o : List Nat} {p n : Nat} (ht : o[n]? = some p) (hz : ∀ (i d : Nat), n + 1 ≤ i → o[i]? = some d → d = 0) (hl : ∀ (i d : Nat), i < n → o[i]? = some d → d = 0) : aboveN o p n = false := by
  have h1 := val_tail o (n + 1) hz
  have h2 := val_take o n p ht
  have h3 : val (o.take n) = 0 := by
    have h := val_tail (o.take n) 0 fun i d _ hd => by
      rw [List.getElem?_take] at hd
      split at hd
      · exact hl i d (by assumption) hd
      · cases hd
    simpa [val] using h.symm
  rw [Nat.mul_comm (65536 ^ n)] at h2
  exact decide_eq_false (by omega)
end Go.Proofs.YthdlcpnmldhllaaDoor.sl

/-
  THE DOCUMENT: the first 32 bits of the fractional part of a root.
-/
namespace Go.Proofs.YthdlcpnmldhllaaDoor.sl
open Go.RowKit
/-- The root, before its whole part is cut off. -/
def IsRoot (p pw x : Nat) : Prop := x ^ pw ≤ p * 65536 ^ (2 * pw) ∧ p * 65536 ^ (2 * pw) < (x + 1) ^ pw
theorem val3 {y : Nat} (_ : y < 137438953472) : val [y % 65536, y / 65536 % 65536, y / 65536 / 65536] = y := by
  simp only [val]
  omega
theorem root_one {p pw x y : Nat} (hp : 0 < pw) (hx : IsRoot p pw x) (hy : IsRoot p pw y) : x = y := by
  have h1 : x < y + 1 := (Nat.pow_lt_pow_iff_left (by omega)).1 (Nat.lt_of_le_of_lt hx.1 hy.2)
  have h2 : y < x + 1 := (Nat.pow_lt_pow_iff_left (by omega)).1 (Nat.lt_of_le_of_lt hy.1 hx.2)
  omega
end Go.Proofs.YthdlcpnmldhllaaDoor.sl

/-
  THE DOCUMENT: the first 64 primes.
-/
namespace Go.Proofs.YthdlcpnmldhllaaDoor.sl
open Go.RowKit
def primes : List Nat := [2, 3, 5, 7, 11, 13, 17, 19, 23, 29, 31, 37, 41, 43, 47, 53, 59, 61, 67, 71, 73, 79, 83, 89, 97, 101, 103, 107, 109, 113, 127, 131, 137, 139, 149, 151, 157, 163, 167, 173, 179, 181, 191, 193, 197, 199, 211, 223, 227, 229, 233, 239, 241, 251, 257, 263, 269, 271, 277, 281, 283, 293, 307, 311]
def cntP (p : Nat) : Nat := (primes.filter (· ≤ p)).length
def upP (p k : Nat) : Bool := (List.range k).all fun j => decide (j < 2) || p % j != 0
theorem upP_succ {p k : Nat} (hk : 2 ≤ k) : upP p (k + 1) = (upP p k && (p % k != 0)) := by
  unfold upP
  rw [List.range_succ, List.all_append]
  simp only [List.all_cons, List.all_nil, Bool.and_true, decide_eq_false (show ¬ k < 2 by omega), Bool.false_or]
theorem upP_two (p : Nat) : upP p 2 = true := by simp [upP, List.range_succ]
theorem up_exit : ∀ p < 312, ∀ k < 19, ((k = 2 ∨ (k - 1) * (k - 1) ≤ p) ∧ 2 ≤ k ∧ 2 ≤ p ∧ p < k * k) → upP p k = primes.contains p := by decide +kernel
theorem cnt_step : ∀ p < 311, cntP (p + 1) = (if primes.contains (p + 1) then cntP p + 1 else cntP p) ∧ (primes.contains (p + 1) = true → primes[cntP p]? = some (p + 1)) := by decide +kernel
theorem cnt_room : ∀ p < 312, cntP p < 64 → p < 311 := by decide +kernel
end Go.Proofs.YthdlcpnmldhllaaDoor.sl

/-
  THE TABLES ARE THOSE OF THE ROOTS.
-/
namespace Go.Proofs.YthdlcpnmldhllaaDoor.sl
theorem roots3 : ∀ i < 64, ∃ r < 8, (r * 4294967296 + tabK.getD i 0) ^ 3 ≤ primes.getD i 0 * 65536 ^ (2 * 3) ∧ primes.getD i 0 * 65536 ^ (2 * 3) < (r * 4294967296 + tabK.getD i 0 + 1) ^ 3 := by decide +kernel
theorem roots2 : ∀ i < 8, ∃ r < 8, (r * 4294967296 + beginH.list.getD i 0) ^ 2 ≤ primes.getD i 0 * 65536 ^ (2 * 2) ∧ primes.getD i 0 * 65536 ^ (2 * 2) < (r * 4294967296 + beginH.list.getD i 0 + 1) ^ 2 := by decide +kernel
theorem root_k {i q k x : Nat} (hi : i < 64) (hq : primes[i]? = some q) (hk : tabK[i]? = some k) (hx : IsRoot q 3 x) : x % 4294967296 = k := by
  obtain ⟨r, _, h1, h2⟩ := roots3 i hi
  have e1 : primes.getD i 0 = q := by rw [List.getD_eq_getElem?_getD, hq]; rfl
  have e2 : tabK.getD i 0 = k := by rw [List.getD_eq_getElem?_getD, hk]; rfl
  rw [e1, e2] at h1 h2
  have hkl := tabK_lt k (List.mem_of_getElem? hk)
  rw [root_one (by decide) hx ⟨h1, h2⟩]
  omega
theorem root_h {i q k x : Nat} (hi : i < 8) (hq : primes[i]? = some q) (hk : beginH.list[i]? = some k) (hkl : k < 4294967296) (hx : IsRoot q 2 x) : x % 4294967296 = k := by
  obtain ⟨r, _, h1, h2⟩ := roots2 i hi
  have e1 : primes.getD i 0 = q := by rw [List.getD_eq_getElem?_getD, hq]; rfl
  have e2 : beginH.list.getD i 0 = k := by rw [List.getD_eq_getElem?_getD, hk]; rfl
  rw [e1, e2] at h1 h2
  rw [root_one (by decide) hx ⟨h1, h2⟩]
  omega
end Go.Proofs.YthdlcpnmldhllaaDoor.sl

/-
  THE DOCUMENT's padding of the whole.
-/
namespace Go.Proofs.YthdlcpnmldhllaaDoor.sl
open Go.RowKit
theorem own_base {w : World} {base base' : Nat} {e : TypeId} {size n : Nat} {v : Value} {xs : List Value} (h : w.ownsRow base e size v n xs) (hb : base' ≤ base) : w.ownsRow base' e size v n xs :=
  ⟨h.1, h.2.imp id fun ⟨g, cap, cur, hv, hg, rest⟩ => ⟨g, cap, cur, hv, by omega, rest⟩⟩
end Go.Proofs.YthdlcpnmldhllaaDoor.sl

/-
  THE DOCUMENT: what a block makes of H.
-/
namespace Go.Proofs.YthdlcpnmldhllaaDoor.sl
open Go.RowKit
/-- The row of words behind so many of them. -/
def curW (b : List Nat) (t : Nat) : List Nat := if t < 16 then (words16 b).take t ++ (List.replicate 64 0).drop t else moreP (t - 16) b
theorem curW_zero (b : List Nat) : curW b 0 = List.replicate 64 0 := by simp [curW]
theorem curW_16 (b : List Nat) : (words16 b).take 16 ++ (List.replicate 64 0).drop 16 = moreP 0 b := by
  rw [List.take_of_length_le (by rw [words16_len]; decide)]; rfl
theorem curW_len (b : List Nat) {t : Nat} (ht : t ≤ 64) : (curW b t).length = 64 := by
  unfold curW
  split
  · simp [words16_len]; omega
  · exact moreP_len (by omega) b
theorem curW_low {b : List Nat} {t : Nat} (ht : t < 16) : (curW b t).set t (word ((b.drop (4 * t)).take 4)) = curW b (t + 1) := by
  have hx : (words16 b)[t]? = some (word ((b.drop (4 * t)).take 4)) := by simp [words16, ht]
  have h : ((words16 b).take t ++ (List.replicate 64 0).drop t).set t (word ((b.drop (4 * t)).take 4)) = (words16 b).take (t + 1) ++ (List.replicate 64 0).drop (t + 1) := by
    apply List.ext_getElem?
    intro i
    have hl : (words16 b).length = 16 := words16_len b
    rw [List.getElem?_set]
    by_cases hi : t = i
    · subst hi
      rw [if_pos rfl, if_pos (by simp; omega), List.getElem?_append_left (by simp; omega), List.getElem?_take, if_pos (by omega), hx]
    · rw [if_neg hi]
      by_cases hi2 : i < t
      · rw [List.getElem?_append_left (by simp; omega), List.getElem?_append_left (by simp; omega), List.getElem?_take, List.getElem?_take, if_pos hi2, if_pos (by omega)]
      · rw [List.getElem?_append_right (by simp; omega), List.getElem?_append_right (by simp; omega), List.getElem?_drop, List.getElem?_drop]
        congr 1
        simp
        omega
  unfold curW
  rw [if_pos ht, h]
  by_cases h15 : t + 1 < 16
  · rw [if_pos h15]
  · rw [if_neg h15, show t + 1 = 16 by omega]; exact curW_16 b
theorem curW_high {b : List Nat} {t : Nat} (ht : 16 ≤ t) : curW b t = moreP (t - 16) b := by unfold curW; rw [if_neg (by omega)]
theorem word4 {b : List Nat} {t x0 x1 x2 x3 : Nat} (h0 : b[4 * t]? = some x0) (h1 : b[4 * t + 1]? = some x1) (h2 : b[4 * t + 2]? = some x2) (h3 : b[4 * t + 3]? = some x3) : word ((b.drop (4 * t)).take 4) = x0 * 16777216 + x1 * 65536 + x2 * 256 + x3 := by
  have e : (b.drop (4 * t)).take 4 = [x0, x1, x2, x3] := by
    apply List.ext_getElem?
    intro i
    rw [List.getElem?_take]
    match i with
    | 0 => rw [if_pos (by decide), List.getElem?_drop]; exact h0
    | 1 => rw [if_pos (by decide), List.getElem?_drop]; exact h1
    | 2 => rw [if_pos (by decide), List.getElem?_drop]; exact h2
    | 3 => rw [if_pos (by decide), List.getElem?_drop]; exact h3
    | i + 4 => rw [if_neg (by omega)]; rfl
  rw [e]
  simp [word]
  omega
theorem cell_set_other {W : World} {g i j : Nat} {u v : Value} (h : W.cell? ⟨g, i, none⟩ = some v) (hne : ¬ i = j) : (W.setCell ⟨g, j, none⟩ u).cell? ⟨g, i, none⟩ = some v := by
  exact (World.cell?_setCell_other W ⟨g, j, none⟩ ⟨g, i, none⟩ u (by intro e; injection e with _ e; exact hne e.symm)).trans h
end Go.Proofs.YthdlcpnmldhllaaDoor.sl

/-
  THE DOCUMENT's sum, where its tables are what they are.
-/
namespace Go.Proofs.YthdlcpnmldhllaaDoor.sl
open Go.RowKit Go.Shelf
attribute [local go_sem] Oper.semAt_some
theorem outV_at {V : V8} {i y : Nat} (h : V.list[i / 4]? = some y) (_ : i < 32) : (outV V)[i]? = some (y / 2 ^ (24 - 8 * (i % 4)) % 256) := by
  obtain ⟨o0, o1, o2, o3⟩ := outV_get h
  have hc : i % 4 = 0 ∨ i % 4 = 1 ∨ i % 4 = 2 ∨ i % 4 = 3 := by omega
  rcases hc with e | e | e | e
  · rw [e]; rw [show 4 * (i / 4) = i by omega] at o0; exact o0
  · rw [e]; rw [show 4 * (i / 4) + 1 = i by omega] at o1; exact o1
  · rw [e]; rw [show 4 * (i / 4) + 2 = i by omega] at o2; exact o2
  · rw [e]; rw [show 4 * (i / 4) + 3 = i by omega] at o3; rw [o3]; simp
theorem padL_mod (b : List Nat) (n : Nat) : (padL b n).length % 64 = 0 := by
  have hb : (be (8 * n)).length = 8 := rfl
  simp only [padL, List.length_append, List.length_cons, List.length_replicate, hb]
  omega
end Go.Proofs.YthdlcpnmldhllaaDoor.sl

/-
  THE DOCUMENT's tables are H and K.
-/
namespace Go.Proofs.YthdlcpnmldhllaaDoor.sl
open Go.RowKit Go.Shelf
attribute [local go_sem] Oper.semAt_some
theorem results_two {fn : Func} {tmps : Array Value} {w : World} {g0 g1 : Nat} {t0 t1 : TypeId} {v0 v1 : List Value} (h : fn.results = #[.cell 0 145, .cell 1 149]) (h0 : tmps.getD 0 undef = .pointer (some ⟨g0, 0, none⟩)) (h1 : tmps.getD 1 undef = .pointer (some ⟨g1, 0, none⟩)) (a0 : Arr w g0 t0 v0) (a1 : Arr w g1 t1 v1) (l0 : v0.length = 8) (l1 : v1.length = 64) :
    (results fn tmps).run Tryd.prog w = .ok (.tuple #[.agg v0.toArray, .agg v1.toArray]) w := by
  have r0 := run_loadVar_row (P := Tryd.prog) w g0 t0 145 v0.toArray (0, 0) _ a0 Tryd.underlying145 rfl (by rw [Tryd.size145, ← l0]; rfl)
  have r1 := run_loadVar_row (P := Tryd.prog) w g1 t1 149 v1.toArray (0, 0) _ a1 Tryd.underlying149 rfl (by rw [Tryd.size149, ← l1]; rfl)
  have h0' : tmps[0]?.getD undef = .pointer (some ⟨g0, 0, none⟩) := by simpa using h0
  have h1' : tmps[1]?.getD undef = .pointer (some ⟨g1, 0, none⟩) := by simpa using h1
  simp [results, h, h0', h1', asAddr, r0, r1]
end Go.Proofs.YthdlcpnmldhllaaDoor.sl

namespace Go.Proofs.YthdlcpnmldhllaaDoor.sl
open Go.RowKit
/-- Bytes put behind bytes; besides, what the row's own block is not stays. -/
theorem wpList_append_grow {w : World} {ops : Array Oper} {rest : List Oper} {o : Oper} {a : Act} {Q : Exit → Act → World → Prop} {i0 : TypeInfo} (hi : Tryd.prog.info? 5 = some i0) (hz0 : i0.zero = some (.int .u8 0)) (hz1 : i0.size = 1) (hz2 : i0.bytes = 1) (hgd : o.guard = none) (s x : Operand)
    (ho : o.op = .call { callee := .builtin .append, args := #[s, x], argTypes := #[35, 35] }) (base : Nat) (v : Value) (l : List Nat) (hs : a.eval s = v) (hown : w.ownsRow base 5 1 v l.length (u8s l))
    {n₀ m c : Nat} {ad : Option Addr} {bs : List Nat} (hx : a.eval x = .slice ad m c) (hm : bs.length = m) (hr : RdN n₀ w ad bs) (hlen : l.length + bs.length ≤ 140737488355328) (hbase : base ≤ w.heap.size)
    (h : ∀ v' w', Hid (w'.ownsRow base 5 1 v' (l ++ bs).length (u8s (l ++ bs))) → Hid (w.grownBy w' v.ownBlock) → wpList Tryd.prog ops Q rest (a.put o.dst v') w') : wpList Tryd.prog ops Q (o :: rest) a w := by
  have go : ∀ ad', ad = some ad' → (∀ j u, (u8s bs)[j]? = some u → w.cell? (ad'.add j) = some u) → wpList Tryd.prog ops Q (o :: rest) a w := by
    rintro ad' rfl hn
    refine wpList_append_own _ hgd s x 35 ho base 5 i0 (.int .u8 0) 1 1 Tryd.underlying35 hi hz0 hz1 hz2 rfl (by decide) v _ _ hs hown ad' m c (u8s bs) hx (by rw [u8s_len, hm, Nat.mul_one]) hn u8s_mem (by unfold maxLen; omega) (by omega) hbase ?_
    intro v' w' h2 h3 _
    refine h v' w' ?_ h3
    unfold Hid
    rw [List.length_append, hm, u8s_append]
    exact h2
  by_cases h0 : bs = []
  · subst h0
    cases ad with
    | none =>
      refine wpList_plain hgd fun K hK => ?_
      subst hm
      have hrun := run_append_nil0 (P := Tryd.prog) (w := w) base 35 o.type 5 i0 1 Tryd.underlying35 hi hown c
      unfold Oper.wp
      simp only [List.length_nil] at hx
      simp [execOp, ho, resolve, invoke, builtin, hs, hx, hrun, Result.andThen]
      refine hK _ _ (h v w ?_ (World.grownBy.refl _ _))
      simpa [Hid] using hown
    | some ad' => exact go ad' rfl (fun j u hu => by simp [u8s] at hu)
  · obtain ⟨b, off, rfl, _, hc⟩ := hr (List.length_pos_iff.2 h0)
    refine go _ rfl fun j u hu => ?_
    have hj' : (bs[j]?).map (fun n : Nat => Value.int .u8 (n : Int)) = some u := by rw [← hu]; simp [u8s]
    cases hx2 : bs[j]? with
    | none => rw [hx2] at hj'; cases hj'
    | some y =>
      rw [hx2] at hj'
      cases hj'
      rw [show (⟨b, off, none⟩ : Addr).add j = ⟨b, off + j, none⟩ by unfold Addr.add; split <;> simp_all]
      exact hc j y hx2
theorem own_apart {w : World} {base base' : Nat} {v u : Value} {l m : List Nat} {x y : Nat} (h1 : w.ownsRow base 5 1 v l.length (u8s l)) (h2 : w.ownsRow base' 5 1 u m.length (u8s m)) (hx : l[0]? = some x) (hy : m[0]? = some y) (hne : x ≠ y) : v.ownBlock ≠ u.ownBlock := by
  intro e
  have l0 : 0 < l.length := (List.getElem?_eq_some_iff.1 hx).1
  have m0 : 0 < m.length := (List.getElem?_eq_some_iff.1 hy).1
  obtain ⟨g, c, rfl, _, _, _, r1⟩ := own_rd h1 l0
  obtain ⟨g2, c2, rfl, _, _, _, r2⟩ := own_rd h2 m0
  obtain rfl : g = g2 := by simpa [Value.ownBlock] using e
  obtain ⟨b, o, e1, _, c1⟩ := r1 l0
  obtain ⟨b', o', e2, _, c2⟩ := r2 m0
  injection e1 with e1; injection e1 with ea eb; subst ea eb
  injection e2 with e2; injection e2 with ea eb; subst ea eb
  have k1 := c1 0 x hx
  have k2 := c2 0 y hy
  rw [k1] at k2
  simp at k2
  omega
theorem mask_head {F : List Nat} {x : Nat} (hx : F[0]? = some x) (m : Nat) {k : Nat} (hk : 0 < k) : (maskL (F.take k) m)[0]? = some (x ^^^ m) := by
  rw [maskL, List.getElem?_map, List.getElem?_take, if_pos hk, hx]; rfl
theorem xor_apart (x : Nat) : x ^^^ 54 ≠ x ^^^ 92 := by
  intro e
  have h : x ^^^ (x ^^^ 54) = x ^^^ (x ^^^ 92) := by rw [e]
  rw [← Nat.xor_assoc, ← Nat.xor_assoc, Nat.xor_self, Nat.zero_xor, Nat.zero_xor] at h
  omega
theorem mask_take {F : List Nat} {k x : Nat} (hx : F[k]? = some x) (m : Nat) : maskL (F.take (k + 1)) m = maskL (F.take k) m ++ [x ^^^ m] := by
  rw [List.take_add_one, hx]; simp [maskL]
end Go.Proofs.YthdlcpnmldhllaaDoor.sl
