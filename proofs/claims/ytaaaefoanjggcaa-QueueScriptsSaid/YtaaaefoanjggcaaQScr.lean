/-
  QueueScripts: steps that came in; a new queue of the document's; both queues beside one another.
-/
import Derived.Test.YtaaaefoanjggcaaQRNext
namespace Go.Proofs.Ytaaaefoanjggcaa
set_option linter.unusedSimpArgs false
set_option linter.unusedVariables false
open Go.RowKit Go.ChangeShapes Go.WideShapes
theorem putR_len (R : List Job) (x : Job) : (putR R x).length ≤ R.length + 1 := by
  unfold putR
  split
  · simp
  · split
    · unfold repR; simp
    · omega
theorem fold_len : ∀ (l : List Job) (R : List Job), (l.foldl putR R).length ≤ R.length + l.length
  | [], R => by simp
  | x :: l, R => by
    have h1 := fold_len l (putR R x)
    have h2 := putR_len R x
    simp only [List.foldl_cons, List.length_cons]
    omega
theorem RefP.made (w : World) : RefP (w.alloc (.cells #[.slice none 0 0] 41)) w.heap.size w.heap.size [] :=
  ⟨_, heap_alloc_new w _, OwnJ.nil _ _ _, Nat.le_refl _, List.Pairwise.nil, by simp, by simp, fun y h => by simp at h⟩
/-- The document's new queue. -/
def RNewed (w : World) (R : List Job) (W : World) : Prop := RefP W w.heap.size w.heap.size R ∧ Below w.heap.size w W ∧ KeepO [41, 30] w W
theorem RNewed.put {w W W' : World} {R R' : List Job} (h : RNewed w R W) (k : REnd [41, 30] W w.heap.size w.heap.size R' W') : RNewed w R' W' := ⟨k.1, h.2.1.trans k.2.1, h.2.2.trans k.2.2⟩
set_option maxHeartbeats 1000000 in
set_option maxRecDepth 100000 in
theorem rnew_any (a : Option Addr) (cap : Nat) (l : List Job) (hl : l.length ≤ 200) (w : World) (hr : RdJ w.heap.size w a l) :
    Calls Try.prog 10 #[.slice a l.length cap] w fun e w' => e = .returned (.pointer (some ⟨w.heap.size, 0, none⟩)) ∧ RNewed w (allR l) w' := by
  have hal : Below w.heap.size w (w.alloc (.cells #[.slice none 0 0] 41)) := (Below.refl _ _).alloc (Nat.le_refl _) _
  have HAT : Hid (RNewed w ((l.take 0).foldl putR []) (w.alloc (.cells #[.slice none 0 0] 41))) := ⟨RefP.made w, hal, KeepO.below hal⟩
  have HR := Lib.hid hr
  obtain ⟨len, hlen⟩ : ∃ len, l.length = len := ⟨_, rfl⟩
  have HL := Lib.hid hlen
  rw [hlen] at hl ⊢
  clear hr hlen hal
  go_enter Try.func10, Try.ntmps10
  go_wp2
  generalize w.alloc (.cells #[.slice none 0 0] 41) = w0 at *
  go_loopw [4] (fun i wr => ∃ k : Nat, i = .int .i64 k ∧ k ≤ len ∧ Hid (RNewed w ((l.take k).foldl putR []) wr)) (fun i _ => len - (intOf i).toNat)
  case atStart => exact ⟨0, rfl, Nat.zero_le _, HAT⟩
  case round =>
    obtain ⟨k, rfl, hk, HA⟩ := hrel
    clear HAT
    by_cases hlt : k < len
    · obtain ⟨x, hx⟩ : ∃ x, l[k]? = some x := ⟨_, List.getElem?_eq_getElem (by have := HL.out; omega)⟩
      obtain ⟨⟨hxk, hxa⟩, b, off, ha, hb, x0, x1⟩ := HR.out k x hx
      subst ha
      have y0 := keepC HA.out.2.1 hb x0
      have y1 := keepC HA.out.2.1 hb x1
      have hll := fold_len (l.take k) []
      have hpt := rput_any HA.out.1 x hxk (by rw [List.length_take] at hll; simp at hll; omega)
      have hnx := fun W2 h => HA.out.put (W' := W2) (R' := putR ((l.take k).foldl putR []) x) h
      rw [← fold_put hx] at hpt hnx
      have HNX := Lib.hid hnx
      generalize newsR ((l.take k).foldl putR []) x = z at *
      clear hx x0 x1 hnx HA hll
      go_wp2_with (go_at_call 12; refine hpt.mono ?_; rintro e w2 ⟨rfl, he⟩; have HN := Lib.hid (HNX.out _ he); clear he)
      go_roundw
      case rel => exact ⟨k + 1, by go_num, by omega, HN⟩
      case measure => simp [intOf]; omega
    · obtain rfl : k = len := by omega
      have hF : RNewed w (allR l) wr := by
        have := HA.out
        rwa [List.take_of_length_le (by rw [HL.out]; omega)] at this
      have HF := Lib.hid hF
      clear hF HA
      go_wp2
      go_ret
      exact ⟨rfl, HF.out⟩
/-- Both queues. -/
structure Bo (u v : World) (n : Nat) (Q R : List Job) (W : World) : Prop where
  q : Newed u n Q W
  r : RefP W v.heap.size v.heap.size R
  le : u.heap.size ≤ v.heap.size
section
variable {u v W W' : World} {n : Nat} {Q R : List Job}
theorem Bo.mk2 (h : Newed u n Q v) (k : RNewed v R W) : Bo u v n Q R W := ⟨h.keepO k.2.2 (by decide) (by decide) k.2.1 h.bel.size, k.1, h.bel.size⟩
theorem Bo.below (h : Bo u v n Q R W) (k : Below W.heap.size W W') : Bo u v n Q R W' := ⟨h.q.below k, h.r.below k, h.le⟩
theorem Bo.doQ {m : Nat} {Q' : List Job} (h : Bo u v n Q R W) (q : Newed u m Q' W') (k : KQ W W') : Bo u v m Q' R W' := ⟨q, h.r.keepQ k, h.le⟩
theorem Bo.doR {R' : List Job} {ts : List TypeId} (h : Bo u v n Q R W) (e : REnd ts W v.heap.size v.heap.size R' W') (h1 : 51 ∉ ts) (h2 : 54 ∉ ts) : Bo u v n Q R' W' := ⟨h.q.keepO e.2.2 h1 h2 e.2.1 h.le, e.1, h.le⟩
theorem bqNext (h : Bo u v n Q R W) : Calls Try.prog 13 #[.pointer (some ⟨u.heap.size + 1, 0, none⟩)] W fun e w' => e = .returned (.tuple #[.agg #[.int .i64 (nextR Q).k, .int .i64 (nextR Q).a], .bool (nextIs Q)]) ∧ Bo u v n (restR Q) R w' ∧ KQ W w' :=
  (nextP h.q).mono fun e w' ⟨he, a, b⟩ => ⟨he, h.doQ a b, b⟩
theorem bqDrop (h : Bo u v n Q R W) (key : Int) (hk : InI key) : Calls Try.prog 15 #[.pointer (some ⟨u.heap.size + 1, 0, none⟩), .int .i64 key] W fun e w' => e = .returned (.bool (getR Q key).isSome) ∧ Bo u v n (dropR Q key) R w' ∧ KQ W w' :=
  (dropP h.q key hk).mono fun e w' ⟨he, a, b⟩ => ⟨he, h.doQ a b, b⟩
theorem bqAt (h : Bo u v n Q R W) (key : Int) (hk : InI key) : Calls Try.prog 17 #[.pointer (some ⟨u.heap.size + 1, 0, none⟩), .int .i64 key] W fun e w' => e = .returned (.tuple #[.int .i64 ((getR Q key).getD 0), .bool (getR Q key).isSome]) ∧ Bo u v n Q R w' ∧ KQ W w' :=
  (atP h.q key hk).mono fun e w' ⟨he, a, b⟩ => ⟨he, h.doQ a b, b⟩
theorem bqPut (h : Bo u v n Q R W) (x : Job) (hx : InI x.k) (hn : n < 1000000) : Calls Try.prog 11 #[.pointer (some ⟨u.heap.size + 1, 0, none⟩), .agg #[.int .i64 x.k, .int .i64 x.a]] W fun e w' => e = .returned (.bool (newsR Q x)) ∧ Bo u v (n + 1) (putR Q x) R w' ∧ KQ W w' :=
  (putP h.q x hx hn).mono fun e w' ⟨he, a, b⟩ => ⟨he, h.doQ a b, b⟩
theorem brNext (h : Bo u v n Q R W) : Calls Try.prog 14 #[.pointer (some ⟨v.heap.size, 0, none⟩)] W fun e w' => e = .returned (.tuple #[.agg #[.int .i64 (nextR R).k, .int .i64 (nextR R).a], .bool (nextIs R)]) ∧ Bo u v n Q (restR R) w' ∧ KeepO [41] W w' :=
  (rnext_any h.r).mono fun e w' ⟨he, a⟩ => ⟨he, h.doR a (by decide) (by decide), a.2.2⟩
theorem brDrop (h : Bo u v n Q R W) (key : Int) : Calls Try.prog 16 #[.pointer (some ⟨v.heap.size, 0, none⟩), .int .i64 key] W fun e w' => e = .returned (.bool (getR R key).isSome) ∧ Bo u v n Q (dropR R key) w' ∧ KeepO [41] W w' :=
  (rdrop_any h.r key).mono fun e w' ⟨he, a⟩ => ⟨he, h.doR a (by decide) (by decide), a.2.2⟩
theorem brAt (h : Bo u v n Q R W) (key : Int) : Calls Try.prog 18 #[.pointer (some ⟨v.heap.size, 0, none⟩), .int .i64 key] W fun e w' => e = .returned (.tuple #[.int .i64 ((getR R key).getD 0), .bool (getR R key).isSome]) ∧ W = w' := rat_any W h.r key
theorem brPut (h : Bo u v n Q R W) (x : Job) (hx : InI x.k) (hl : R.length < 1000) : Calls Try.prog 12 #[.pointer (some ⟨v.heap.size, 0, none⟩), .agg #[.int .i64 x.k, .int .i64 x.a]] W fun e w' => e = .returned (.bool (newsR R x)) ∧ Bo u v n Q (putR R x) w' ∧ KeepO [41, 30] W w' :=
  (rput_any h.r x hx hl).mono fun e w' ⟨he, a⟩ => ⟨he, h.doR a (by decide) (by decide), a.2.2⟩
end
/-- A step. -/
structure Stp where
  d : Int
  j : Job
/-- A row of steps that came in. -/
def RdS (n₀ : Nat) (W : World) (a : Option Addr) (l : List Stp) : Prop := ∀ (j : Nat) (s : Stp), l[j]? = some s → InI s.j.k ∧ ∃ b off, a = some ⟨b, off, none⟩ ∧ b < n₀ ∧ W.cell? ⟨b, off + j * 3, none⟩ = some (.int .i64 s.d) ∧ W.cell? ⟨b, off + j * 3 + 1, none⟩ = some (.int .i64 s.j.k) ∧ W.cell? ⟨b, off + j * 3 + 2, none⟩ = some (.int .i64 s.j.a)
instance : Inhabited Stp := ⟨⟨0, ⟨0, 0⟩⟩⟩
set_option maxRecDepth 100000 in
theorem step_raw {H : Type} {enc : TypeId × Value → H} {W : World} {held : Bool} {sp : Nat → Bool} {cs : List Value} {fuel : Nat} {r : DataW H × List MemPlace} (hf' : DataW.trod enc Try.prog W 0 sp held fuel 32 cs = some r) :
    ∃ s : Stp, cs = [.int .i64 s.d, .int .i64 s.j.k, .int .i64 s.j.a] ∧ InI s.j.k := by
  obtain ⟨d, ps⟩ := r
  obtain ⟨xs, n, _, _, hl, hlen, hel⟩ := DataW.trod_struct Try.underlying32 hf'
  rw [show Try.prog.cellsOf 32 = 3 from by kernel_rfl] at hl
  obtain ⟨c0, c1, c2, hc⟩ : ∃ c0 c1 c2, cs = [c0, c1, c2] := by
    match cs, hl with
    | [c0, c1, c2], _ => exact ⟨c0, c1, c2, rfl⟩
  rw [hc] at hel
  have h0 : DataW.trod enc Try.prog W 0 sp held n 3 (List.take (Try.prog.cellsOf 3) (List.drop 0 [c0, c1, c2])) = xs[0]? := hel 0 _ rfl
  have h1 : DataW.trod enc Try.prog W 0 sp held n 30 (List.take (Try.prog.cellsOf 30) (List.drop 1 [c0, c1, c2])) = xs[1]? := hel 1 _ rfl
  rw [show Try.prog.cellsOf 3 = 1 from by kernel_rfl] at h0
  rw [show Try.prog.cellsOf 30 = 2 from by kernel_rfl] at h1
  have hx2 : xs.length = 2 := by rw [hlen]; rfl
  rw [List.getElem?_eq_getElem (by omega)] at h0 h1
  obtain ⟨m, e0, _, w0⟩ := DataW.trod_int Try.underlying3 h0
  obtain ⟨x, e1, hk, ha⟩ := job_raw h1
  simp only [List.drop_zero, List.take_succ_cons, List.take_zero, List.cons.injEq, and_true] at e0
  simp only [List.drop_succ_cons, List.drop_zero, List.take_succ_cons, List.take_zero, List.cons.injEq, and_true] at e1
  obtain ⟨rfl, rfl⟩ := e1
  subst e0
  exact ⟨⟨m, x⟩, hc, hk⟩
theorem steps_of {H : Type} {enc : TypeId × Value → H} {W : World} {held : Bool} {a : Option Addr} {len cap : Nat} {d : DataW H} {ps : List MemPlace} (h : DataW.Trod enc Try.prog W 0 (fun _ => true) held 23 (.slice a len cap) d ps) :
    ∃ l : List Stp, l.length = len ∧ l.length ≤ 9223372036854775807 ∧ RdS W.heap.size W a l := by
  obtain ⟨fuel, hf⟩ := h
  have hf' : DataW.trod enc Try.prog W 0 (fun _ => true) held fuel 23 [.slice a len cap] = some (d, ps) := hf
  rcases Go.Deep.open_slice Try.underlying23 hf' with ⟨hcs, _⟩ | ⟨A, l, c, m, n, D, Pl, hcs, _, hl, hm, hmm, _, hall⟩
  · simp at hcs
    obtain ⟨rfl, rfl, rfl⟩ := hcs
    exact ⟨[], rfl, Nat.zero_le _, fun j kd hj => by simp at hj⟩
  · simp at hcs
    obtain ⟨rfl, rfl, rfl⟩ := hcs
    simp only [if_true] at hmm
    subst hmm
    rw [show Try.prog.cellsOf 32 = 3 from by kernel_rfl] at hall
    have hall2 : ∀ i', i' < m → ∃ q : Stp, W.cells? 0 (A.add (i' * 3)) 3 = some [.int .i64 q.d, .int .i64 q.j.k, .int .i64 q.j.a] ∧ InI q.j.k := by
      intro i' hi'
      obtain ⟨cs, hcs, htr⟩ := hall i' hi'
      obtain ⟨s, e1, hb⟩ := step_raw htr
      subst e1
      exact ⟨s, hcs, hb⟩
    obtain ⟨f, hf2⟩ := Go.Deep.choose_lt hall2
    refine ⟨(List.range len).map f, by simp, by simp; unfold maxLen at hm; omega, fun j kd hj => ?_⟩
    have hjl : j < len := by
      rcases Nat.lt_or_ge j len with h1 | h1
      · exact h1
      · rw [List.getElem?_eq_none (by simpa using h1)] at hj; cases hj
    obtain rfl : f j = kd := by simpa [hjl] using hj
    have cell : ∀ k, k < 3 → W.cell? (A.add (j * 3 + k)) = [Value.int .i64 (f j).d, .int .i64 (f j).j.k, .int .i64 (f j).j.a][k]? := fun k hk => by
      have := (World.cells?_some (hf2 j (by omega)).1).2.2 k hk
      rwa [Go.Deep.add_add] at this
    obtain ⟨b, off, spot⟩ := A
    have h0 := cell 0 (by decide)
    have h1 := cell 1 (by decide)
    have h2 := cell 2 (by decide)
    have h00 : W.cell? ((⟨b, off, spot⟩ : Addr).add (0 * 3 + 0)) = some (Value.int .i64 (f 0).d) := by
      have := (World.cells?_some (hf2 0 (by omega)).1).2.2 0 (by decide)
      rwa [Go.Deep.add_add] at this
    have hspot : spot = none := by simpa [Addr.add] using World.cell?_spot h00
    subst hspot
    have plain : ∀ k, (⟨b, off, none⟩ : Addr).add k = ⟨b, off + k, none⟩ := fun k => by unfold Addr.add; split <;> simp_all
    rw [plain] at h0 h1 h2
    exact ⟨(hf2 j (by omega)).2, b, off, rfl, World.block_lt_of_cell? W _ (h0.trans rfl), by simpa using h0, by simpa [Nat.add_assoc] using h1, by simpa [Nat.add_assoc] using h2⟩
/-- A step in a box. -/
def StB (W : World) (k : Nat) (s : Stp) : Prop := W.heap[k]? = some (.cells #[.int .i64 s.d, .int .i64 s.j.k, .int .i64 s.j.a] 32 (0, 0))
theorem StB.cells {W : World} {k : Nat} {s : Stp} (h : StB W k s) : W.cell? ⟨k, 0, none⟩ = some (.int .i64 s.d) ∧ W.cell? ⟨k, 1, none⟩ = some (.int .i64 s.j.k) ∧ W.cell? ⟨k, 2, none⟩ = some (.int .i64 s.j.a) := by
  unfold StB at h
  exact ⟨by simp [World.cell?, h], by simp [World.cell?, h], by simp [World.cell?, h]⟩
theorem StB.lt {W : World} {k : Nat} {s : Stp} (h : StB W k s) : k < W.heap.size := (Array.getElem?_eq_some_iff.1 h).1
theorem StB.keepQ {W W' : World} {k : Nat} {s : Stp} (h : StB W k s) (q : KQ W W') : StB W' k s := q.2 _ _ _ _ (by decide) (by decide) h
theorem StB.keepO {W W' : World} {k : Nat} {s : Stp} {ts : List TypeId} (h : StB W k s) (q : KeepO ts W W') (h1 : 32 ∉ ts) : StB W' k s := q.cells h1 h
theorem StB.alloc {W : World} {k : Nat} {s : Stp} (h : StB W k s) (o : Obj) : StB (W.alloc o) k s := (heap_alloc_old W o h.lt).trans h
end Go.Proofs.Ytaaaefoanjggcaa
