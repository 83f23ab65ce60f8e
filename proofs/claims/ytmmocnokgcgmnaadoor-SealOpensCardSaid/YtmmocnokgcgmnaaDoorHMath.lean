/-
  THE HASH AS MATHEMATICS: words are numbers below 2^32; what a block does to the eight words; the sum of bytes; the key's sum.
-/
import Derived.Test.YtmmocnokgcgmnaaDoorIter
namespace Go.Proofs.YtmmocnokgcgmnaaDoor

def rot (x n : Nat) : Nat := (x / 2 ^ n) ||| (x * 2 ^ (32 - n) % 4294967296)
theorem rot_lt {x : Nat} (h : x < 4294967296) (n : Nat) : rot x n < 4294967296 := by
  have h1 : x / 2 ^ n < 2 ^ 32 := Nat.lt_of_le_of_lt (Nat.div_le_self _ _) h
  have h2 : x * 2 ^ (32 - n) % 4294967296 < 2 ^ 32 := Nat.mod_lt _ (by decide)
  exact Nat.or_lt_two_pow h1 h2

/-- The four sums of turned words, the choice and the majority. -/
def bS0 (x : Nat) : Nat := rot x 2 ^^^ rot x 13 ^^^ rot x 22
def bS1 (x : Nat) : Nat := rot x 6 ^^^ rot x 11 ^^^ rot x 25
def lS0 (x : Nat) : Nat := rot x 7 ^^^ rot x 18 ^^^ x / 8
def lS1 (x : Nat) : Nat := rot x 17 ^^^ rot x 19 ^^^ x / 1024
def cho (e f g : Nat) : Nat := (e &&& f) ^^^ ((4294967295 - e) &&& g)
def maj (a b c : Nat) : Nat := (a &&& b) ^^^ (a &&& c) ^^^ (b &&& c)

theorem xor32 {a b : Nat} (h1 : a < 4294967296) (h2 : b < 4294967296) : a ^^^ b < 4294967296 := Nat.xor_lt_two_pow (n := 32) h1 h2
theorem and32 {a b : Nat} (h2 : b < 4294967296) : a &&& b < 4294967296 := Nat.and_lt_two_pow (n := 32) _ h2
theorem bS0_lt {x : Nat} (h : x < 4294967296) : bS0 x < 4294967296 := xor32 (xor32 (rot_lt h _) (rot_lt h _)) (rot_lt h _)
theorem bS1_lt {x : Nat} (h : x < 4294967296) : bS1 x < 4294967296 := xor32 (xor32 (rot_lt h _) (rot_lt h _)) (rot_lt h _)
theorem lS0_lt {x : Nat} (h : x < 4294967296) : lS0 x < 4294967296 := xor32 (xor32 (rot_lt h _) (rot_lt h _)) (by omega)
theorem lS1_lt {x : Nat} (h : x < 4294967296) : lS1 x < 4294967296 := xor32 (xor32 (rot_lt h _) (rot_lt h _)) (by omega)
theorem cho_lt {e f g : Nat} (hf : f < 4294967296) (hg : g < 4294967296) : cho e f g < 4294967296 := xor32 (and32 hf) (and32 hg)
theorem maj_lt {a b c : Nat} (hb : b < 4294967296) (hc : c < 4294967296) : maj a b c < 4294967296 := xor32 (xor32 (and32 hb) (and32 hc)) (and32 hc)

/-- The eight words. -/
structure V8 where
  a : Nat
  b : Nat
  c : Nat
  d : Nat
  e : Nat
  f : Nat
  g : Nat
  h : Nat
deriving DecidableEq
def V8.ok (s : V8) : Prop := s.a < 4294967296 ∧ s.b < 4294967296 ∧ s.c < 4294967296 ∧ s.d < 4294967296 ∧ s.e < 4294967296 ∧ s.f < 4294967296 ∧ s.g < 4294967296 ∧ s.h < 4294967296
def V8.list (s : V8) : List Nat := [s.a, s.b, s.c, s.d, s.e, s.f, s.g, s.h]
def addT (s : V8) (k x : Nat) : Nat := (s.h + bS1 s.e + cho s.e s.f s.g + k + x) % 4294967296
def addU (s : V8) : Nat := (bS0 s.a + maj s.a s.b s.c) % 4294967296
def rnd (s : V8) (k x : Nat) : V8 := ⟨(addT s k x + addU s) % 4294967296, s.a, s.b, s.c, (s.d + addT s k x) % 4294967296, s.e, s.f, s.g⟩
theorem rnd_ok {s : V8} (h : s.ok) (k x : Nat) : (rnd s k x).ok := by
  obtain ⟨ha, hb, hc, hd, he, hf, hg, hh⟩ := h
  exact ⟨Nat.mod_lt _ (by decide), ha, hb, hc, Nat.mod_lt _ (by decide), he, hf, hg⟩
def rnds (s : V8) : List (Nat × Nat) → V8
  | [] => s
  | q :: l => rnds (rnd s q.1 q.2) l
theorem rnds_snoc (s : V8) (l : List (Nat × Nat)) (q : Nat × Nat) : rnds s (l ++ [q]) = rnd (rnds s l) q.1 q.2 := by
  induction l generalizing s with
  | nil => rfl
  | cons x l ih => exact ih _
theorem rnds_ok {s : V8} (h : s.ok) (l : List (Nat × Nat)) : (rnds s l).ok := by
  induction l generalizing s with
  | nil => exact h
  | cons x l ih => exact ih (rnd_ok h _ _)
def addV (s t : V8) : V8 := ⟨(s.a + t.a) % 4294967296, (s.b + t.b) % 4294967296, (s.c + t.c) % 4294967296, (s.d + t.d) % 4294967296, (s.e + t.e) % 4294967296, (s.f + t.f) % 4294967296, (s.g + t.g) % 4294967296, (s.h + t.h) % 4294967296⟩
theorem addV_ok (s t : V8) : (addV s t).ok := by
  refine ⟨?_, ?_, ?_, ?_, ?_, ?_, ?_, ?_⟩ <;> exact Nat.mod_lt _ (by decide)

/-- The first eight words; the table. -/
def beginH : V8 := ⟨1779033703, 3144134277, 1013904242, 2773480762, 1359893119, 2600822924, 528734635, 1541459225⟩
theorem beginH_ok : beginH.ok := by unfold V8.ok; decide
def tabK : List Nat := [0x428a2f98, 0x71374491, 0xb5c0fbcf, 0xe9b5dba5, 0x3956c25b, 0x59f111f1, 0x923f82a4, 0xab1c5ed5,
  0xd807aa98, 0x12835b01, 0x243185be, 0x550c7dc3, 0x72be5d74, 0x80deb1fe, 0x9bdc06a7, 0xc19bf174,
  0xe49b69c1, 0xefbe4786, 0x0fc19dc6, 0x240ca1cc, 0x2de92c6f, 0x4a7484aa, 0x5cb0a9dc, 0x76f988da,
  0x983e5152, 0xa831c66d, 0xb00327c8, 0xbf597fc7, 0xc6e00bf3, 0xd5a79147, 0x06ca6351, 0x14292967,
  0x27b70a85, 0x2e1b2138, 0x4d2c6dfc, 0x53380d13, 0x650a7354, 0x766a0abb, 0x81c2c92e, 0x92722c85,
  0xa2bfe8a1, 0xa81a664b, 0xc24b8b70, 0xc76c51a3, 0xd192e819, 0xd6990624, 0xf40e3585, 0x106aa070,
  0x19a4c116, 0x1e376c08, 0x2748774c, 0x34b0bcb5, 0x391c0cb3, 0x4ed8aa4a, 0x5b9cca4f, 0x682e6ff3,
  0x748f82ee, 0x78a5636f, 0x84c87814, 0x8cc70208, 0x90befffa, 0xa4506ceb, 0xbef9a3f7, 0xc67178f2]
theorem tabK_len : tabK.length = 64 := by decide
theorem tabK_lt : ∀ x ∈ tabK, x < 4294967296 := by decide
/-- The program's mixing and the block's: the rounds, and H added. -/
def mixV (h : V8) (k w : List Nat) : V8 := addV h (rnds h (k.zip w))

/-- A word out of bytes. -/
def word (l : List Nat) : Nat := l.foldl (fun x b => x * 256 + b) 0
theorem word_snoc (l : List Nat) (b : Nat) : word (l ++ [b]) = word l * 256 + b := by simp [word]
theorem word_from : ∀ (l : List Nat) (x : Nat), (∀ b ∈ l, b < 256) → l.foldl (fun x b => x * 256 + b) x < (x + 1) * 256 ^ l.length := by
  intro l
  induction l with
  | nil => intro x _; simp
  | cons b l ih =>
    intro x h
    have h1 := ih (x * 256 + b) fun y hy => h y (List.mem_cons_of_mem _ hy)
    have h2 := h b (List.mem_cons_self ..)
    have h3 : (x * 256 + b + 1) * 256 ^ l.length ≤ ((x + 1) * 256) * 256 ^ l.length := Nat.mul_le_mul_right _ (by omega)
    rw [List.length_cons, Nat.pow_succ, Nat.mul_comm (256 ^ l.length) 256, ← Nat.mul_assoc]
    exact Nat.lt_of_lt_of_le h1 h3
theorem word_lt (l : List Nat) (h : ∀ b ∈ l, b < 256) : word l < 256 ^ l.length := by simpa [word] using word_from l 0 h

/-- The sixteen words of a block, and the 64 that are made of them. -/
def words16 (b : List Nat) : List Nat := (List.range 16).map fun j => word ((b.drop (4 * j)).take 4)
def nextW (l : List Nat) : Nat := (lS1 (l.getD (l.length - 2) 0) + l.getD (l.length - 7) 0 + lS0 (l.getD (l.length - 15) 0) + l.getD (l.length - 16) 0) % 4294967296
def more : Nat → List Nat → List Nat
  | 0, l => l
  | n + 1, l => more n (l ++ [nextW l])
theorem more_snoc (n : Nat) (l : List Nat) : more (n + 1) l = more n l ++ [nextW (more n l)] := by
  induction n generalizing l with
  | zero => rfl
  | succ n ih => rw [more, ih]; rfl
theorem more_len (n : Nat) (l : List Nat) : (more n l).length = l.length + n := by
  induction n generalizing l with
  | zero => rfl
  | succ n ih => rw [more, ih]; simp; omega
theorem words16_len (b : List Nat) : (words16 b).length = 16 := by simp [words16]
theorem words16_lt {b : List Nat} (hb : ∀ x ∈ b, x < 256) : ∀ x ∈ words16 b, x < 4294967296 := by
  intro x hx
  obtain ⟨j, _, rfl⟩ := List.mem_map.1 hx
  have h := word_lt ((b.drop (4 * j)).take 4) fun y hy => hb y (List.mem_of_mem_drop (List.mem_of_mem_take hy))
  have : 256 ^ ((b.drop (4 * j)).take 4).length ≤ 256 ^ 4 := Nat.pow_le_pow_right (by decide) (by simp; omega)
  have e : (256 : Nat) ^ 4 = 4294967296 := by decide
  omega
theorem more_lt (n : Nat) {l : List Nat} (h : ∀ x ∈ l, x < 4294967296) : ∀ x ∈ more n l, x < 4294967296 := by
  induction n generalizing l with
  | zero => exact h
  | succ n ih =>
    refine ih fun x hx => ?_
    rcases List.mem_append.1 hx with hx | hx
    · exact h x hx
    · rw [List.mem_singleton.1 hx]; exact Nat.mod_lt _ (by decide)
def schedL (b : List Nat) : List Nat := more 48 (words16 b)
theorem schedL_len (b : List Nat) : (schedL b).length = 64 := by rw [schedL, more_len, words16_len]
theorem schedL_lt {b : List Nat} (hb : ∀ x ∈ b, x < 256) : ∀ x ∈ schedL b, x < 4294967296 := more_lt _ (words16_lt hb)

/-- What a block makes of H; the blocks in a row. -/
def blockV (h : V8) (b : List Nat) : V8 := mixV h tabK (schedL b)
def runV (h : V8) (bs : List (List Nat)) : V8 := bs.foldl blockV h
/-- So many blocks of 64 bytes. -/
def cut64 : Nat → List Nat → List (List Nat)
  | 0, _ => []
  | n + 1, l => l.take 64 :: cut64 n (l.drop 64)
/-- A number's eight bytes, the most significant one first. -/
def be (n : Nat) : List Nat := [n / 2 ^ 56 % 256, n / 2 ^ 48 % 256, n / 2 ^ 40 % 256, n / 2 ^ 32 % 256, n / 2 ^ 24 % 256, n / 2 ^ 16 % 256, n / 2 ^ 8 % 256, n % 256]
/-- The padded bytes of the last part, with the length of the whole. -/
def padL (part : List Nat) (n : Nat) : List Nat := part ++ 128 :: (List.replicate ((119 - part.length % 64) % 64) 0 ++ be (8 * n))
def out4 (x : Nat) : List Nat := [x / 2 ^ 24 % 256, x / 2 ^ 16 % 256, x / 2 ^ 8 % 256, x % 256]
def outV (s : V8) : List Nat := s.list.flatMap out4
def sumL (b : List Nat) : List Nat := outV (runV beginH (cut64 ((padL b b.length).length / 64) (padL b b.length)))
theorem outV_len (s : V8) : (outV s).length = 32 := rfl
/-- The key's sum. -/
def keyL (key : List Nat) : List Nat := if key.length > 64 then sumL key else key
def full (key : List Nat) : List Nat := keyL key ++ List.replicate (64 - (keyL key).length) 0
def maskL (l : List Nat) (m : Nat) : List Nat := l.map (· ^^^ m)
def macL (key b : List Nat) : List Nat := sumL (maskL (full key) 92 ++ sumL (maskL (full key) 54 ++ b))
end Go.Proofs.YtmmocnokgcgmnaaDoor
