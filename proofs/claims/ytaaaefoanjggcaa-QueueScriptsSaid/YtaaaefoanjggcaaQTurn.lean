/-
  A JOB is put into the queue nearer than it was; any job.
-/
import Derived.Test.YtaaaefoanjggcaaQPut
namespace Go.Proofs.Ytaaaefoanjggcaa
set_option linter.unusedSimpArgs false
set_option linter.unusedVariables false
open Go.RowKit
section
variable {base qb mb n : Nat} {g : Option Nat} {R : List Job} {w W : World}
set_option maxHeartbeats 4000000 in
set_option maxRecDepth 100000 in
theorem put_turn {l : List Job} {f : Int → Option Int} {v : Value} {i : Nat} (hp : PI f l) (hok : Ok l l.length) (hq : QS w base qb mb g n f l v) (x : Job) (hx : InI x.k) (hf : f x.k = some (i : Int)) (hi : i < l.length) (hk : (at' l i).k = x.k) (hl : x.a < (at' l i).a) :
    Calls Try.prog 11 #[.pointer (some ⟨qb, 0, none⟩), .agg #[.int .i64 x.k, .int .i64 x.a]] w fun e w' => e = .returned (.bool true) ∧ ∃ w1, Fr qb mb g w w1 ∧ Put1 w1 base qb mb n g (l.set i x) w' := by
  have hal : Below w.heap.size w ((w.alloc (.cells #[.int .i64 x.k, .int .i64 x.a] 30)).drew) := ((Below.refl _ _).alloc (Nat.le_refl _) _).drew
  have hbx : BxJ 30 ((w.alloc (.cells #[.int .i64 x.k, .int .i64 x.a] 30)).drew).drew w.heap.size x := BxJ.new 30 w x
  have q1 := hq.below hal
  obtain ⟨c0, c1, f0, hqs⟩ := hq.cells
  have hlk := q1.map.look hx _ rfl
  rw [hf] at hlk
  simp only [Option.getD_some, Option.isSome_some] at hlk
  have hls := less_any x (at' l i)
  have hnl : decide (lessJ x (at' l i)) = true := decide_eq_true (by unfold lessJ; omega)
  rw [hnl] at hls
  obtain ⟨W1, hW1⟩ : ∃ W1, (w.alloc (.cells #[.int .i64 x.k, .int .i64 x.a] 30)).drew = W1 := ⟨_, rfl⟩
  rw [hW1] at hbx hal
  have q1d : QS W1.drew base qb mb g n f l v := by rw [← hW1]; exact q1.same fun _ _ _ => rfl
  obtain ⟨b, c, rfl, hgb, hc, hmx⟩ := q1d.has hi
  obtain ⟨x0, x1⟩ := q1d.own.cell (at_some hi)
  have e1 := q1d.cells
  have hln : l.length ≤ 1000000 := by have := hq.len; have := hq.n; omega
  obtain ⟨V1, hV1⟩ : ∃ V, W1.drew = V := ⟨_, rfl⟩
  have hV := hal.drew
  have hbxs : w.heap.size < V1.heap.size := by rw [← hV1]; exact hbx.lt
  rw [hV1] at hbx x0 x1 e1 hV q1d
  have hH : ∀ W3, Below V1.heap.size V1 W3 → QS W3 base qb mb g n f l (.slice (some ⟨b, 0, none⟩) l.length c) ∧ BxJ 30 W3 w.heap.size x := fun W3 h3 => ⟨q1d.below h3, hbx.same (h3.block _ hbxs)⟩
  have hfin : ∀ W3, Below V1.heap.size V1 W3 → ∃ W4, ((W3.setCell ⟨b, i * 2, none⟩ (.int .i64 x.k)).setCell ⟨b, i * 2 + 1, none⟩ (.int .i64 x.a)).drew = W4 ∧ Calls Try.prog 22 #[.iface 53 (.pointer (some ⟨qb, 0, none⟩)), .int .i64 i] W4 fun e w' => e = .returned (.tuple #[]) ∧ ∃ w1, Fr qb mb g w w1 ∧ Put1 w1 base qb mb n g (l.set i x) w' := fun W3 h3 => by
    obtain ⟨qd, bd⟩ := hH W3 h3
    obtain ⟨q2, fr2⟩ := qd.setJob i x hx
    refine ⟨_, rfl, ?_⟩
    have hfx := fix_any _ ⟨_, q2.same (W' := ((W3.setCell ⟨b, i * 2, none⟩ (.int .i64 x.k)).setCell ⟨b, i * 2 + 1, none⟩ (.int .i64 x.a)).drew) fun _ _ _ => rfl⟩ (hp.turn hi hk) i (by rw [List.length_set]; exact hi) (by rw [List.length_set]; exact downOk_set hok hi)
    exact hfx.mono fun e w' ⟨he, hp1⟩ => ⟨he, _, ((Fr.of_below (qb := qb) (mb := mb) (g := g) (hV.trans (h3.mono hV.size)))).trans fr2.drew, hp1⟩
  have hcl : ∀ W3, Below V1.heap.size V1 W3 → (W3.cell? ⟨qb, 0, none⟩ = some (.slice (some ⟨b, 0, none⟩) l.length c) ∧ W3.cell? ⟨w.heap.size, 0, none⟩ = some (.int .i64 x.k) ∧ W3.cell? ⟨w.heap.size, 1, none⟩ = some (.int .i64 x.a) ∧ (W3.cell? ⟨b, i * 2, none⟩ = some (.int .i64 (at' l i).k) ∧ W3.cell? ⟨b, i * 2 + 1, none⟩ = some (.int .i64 (at' l i).a)) ∧ W3.frozen? ⟨b, i * 2, none⟩ = false ∧ W3.frozen? ⟨b, i * 2 + 1, none⟩ = false) := fun W3 h3 => by
    obtain ⟨qd, bd⟩ := hH W3 h3
    exact ⟨qd.cells.1, bd.cells.1, bd.cells.2.1, qd.own.cell (at_some hi), qd.own.frozen _, qd.own.frozen _⟩
  obtain ⟨b0, b1, _, _⟩ := hbx.cells
  obtain ⟨d0, d1, _, _⟩ := e1
  have HW1 := Lib.hid hW1
  have HV1 := Lib.hid hV1
  have HFIN := Lib.hid hfin
  have HCL := Lib.hid hcl
  generalize at' l i = y at *
  generalize l.length = len at *
  clear hal hbx q1 hq hf hl hk hnl q1d hW1 hV1 hV hH hfin hcl hp hok hbxs
  go_enter Try.func11, Try.ntmps11
  go_wp2
  go_region
  rw [HW1.out]
  go_wp2
  refine region_tail 9 (by kernel_rfl) (by kernel_rfl) V1 HV1.out ?_
  simp only [List.take_succ_cons, List.take_zero, List.drop_succ_cons, List.drop_zero]
  repeat still_step
  refine wpStill_nil ?_
  go_wp2_with (go_at_call 21; refine (hls _).mono ?_; rintro e w3 ⟨rfl, he⟩; have HE := Lib.hid he; clear he)
  obtain ⟨k0, k1, k2, ⟨k3, k4⟩, k5, k6⟩ := HCL.out _ HE.out
  obtain ⟨W4, hW4, hfx⟩ := HFIN.out _ HE.out
  have HW4 := Lib.hid hW4
  clear hW4
  go_region
  rw [HW4.out]
  go_wp2_with (go_at_call 22; refine hfx.mono ?_; rintro e w5 ⟨rfl, hpt⟩)
  go_ret
  exact ⟨rfl, hpt⟩
theorem QG.more (h : QG w base qb mb n g R) {m : Nat} (hm : n ≤ m) (hm2 : m ≤ 1000000) : QG w base qb mb m g R := by
  obtain ⟨l, ⟨⟨f, a, v, q⟩, c⟩, d⟩ := h
  exact ⟨l, ⟨⟨f, a, v, ⟨q.box, q.own, q.row, q.map.mono hm, q.keys, Nat.le_trans q.len hm, hm2, q.bq, q.bm, q.ne, q.nm, q.nq⟩⟩, c⟩, d⟩
theorem put_any (h : QG w base qb mb n g R) (x : Job) (hx : InI x.k) (hn : n < 1000000) :
    Calls Try.prog 11 #[.pointer (some ⟨qb, 0, none⟩), .agg #[.int .i64 x.k, .int .i64 x.a]] w fun e w' => e = .returned (.bool (newsR R x)) ∧ PutEnd w base qb mb (n + 1) g (putR R x) w' := by
  have hnd := h.nd
  have h0 := h
  obtain ⟨l, ⟨⟨f, hp, v, hq⟩, hok⟩, p⟩ := h
  cases hf : f x.k with
  | none =>
    obtain ⟨e1, e2⟩ := putR_none (f_none hp p hf)
    rw [e1, e2]
    exact put_new hp hq hok x hx hn hf p
  | some i =>
    obtain ⟨m, rfl, hm, hkm, hg⟩ := f_some hp p hf
    by_cases hl : x.a < (at' l m).a
    · obtain ⟨e1, e2⟩ := putR_less hg hl
      rw [e1, e2]
      refine (put_turn hp hok hq x hx hf hm hkm hl).mono fun e w' ⟨he, w1, hf1, hp1⟩ => ⟨he, ?_⟩
      obtain ⟨g', a1, a2, a3⟩ := put_end hf1 hp1 (set_rep hnd p hm hkm)
      exact ⟨g', a1, a2.more (by omega) (by omega), a3⟩
    · obtain ⟨e1, e2⟩ := putR_stay hg hl
      rw [e1, e2]
      exact (put_stay hq x hx hf hm hkm hl).mono fun e w' ⟨he, hb⟩ => ⟨he, g, .inl rfl, (h0.below hb).more (by omega) (by omega), Fr.of_below hb⟩
/-- A row of jobs that came in. -/
def RdJ (n₀ : Nat) (W : World) (a : Option Addr) (l : List Job) : Prop := ∀ (j : Nat) (x : Job), l[j]? = some x → (InI x.k ∧ InI x.a) ∧ ∃ b off, a = some ⟨b, off, none⟩ ∧ b < n₀ ∧ W.cell? ⟨b, off + j * 2, none⟩ = some (.int .i64 x.k) ∧ W.cell? ⟨b, off + j * 2 + 1, none⟩ = some (.int .i64 x.a)
theorem RdJ.below {n₀ : Nat} {W W' : World} {a : Option Addr} {l : List Job} (h : RdJ n₀ W a l) {B : Nat} (hb : Below B W W') (hB : n₀ ≤ B) : RdJ n₀ W' a l := fun j x hj => by
  obtain ⟨hp, b, off, e, hbn, c0, c1⟩ := h j x hj
  exact ⟨hp, b, off, e, hbn, keepC hb (by show b < B; omega) c0, keepC hb (by show b < B; omega) c1⟩
theorem RdJ.mono {n₀ n₁ : Nat} {W : World} {a : Option Addr} {l : List Job} (h : RdJ n₀ W a l) (hn : n₀ ≤ n₁) : RdJ n₁ W a l := fun j x hj => by
  obtain ⟨hp, b, off, e, hbn, r⟩ := h j x hj
  exact ⟨hp, b, off, e, by omega, r⟩
def allR (l : List Job) : List Job := l.foldl putR []
theorem fold_put {l : List Job} {k : Nat} {x : Job} (h : l[k]? = some x) : (l.take (k + 1)).foldl putR [] = putR ((l.take k).foldl putR []) x := by
  rw [List.take_add_one, h, List.foldl_append]
  rfl
theorem QG.made (W : World) : QG ((W.alloc (.map #[] 0)).alloc (.cells #[.slice none 0 0, .map (some W.heap.size)] 51)) W.heap.size (W.heap.size + 1) W.heap.size 0 none [] := by
  refine ⟨[], ⟨⟨fun _ => none, ⟨fun i hi => by simp at hi, fun k i h => by cases h⟩, _, ⟨?_, OwnJ.nil _ _ _, rfl, ?_, fun x hx => by simp at hx, by simp, by omega, by omega, Nat.le_refl _, by simp, by simp, by omega⟩⟩, fun c h0 hc => by simp at hc⟩, List.Perm.refl _⟩
  · have := heap_alloc_new (W.alloc (.map #[] 0)) (.cells #[.slice none 0 0, .map (some W.heap.size)] 51)
    rwa [World.size_alloc] at this
  · exact (MapF.made W).same (heap_alloc_old _ _ (by simp))
/-- A queue of one's own, and the world of before. -/
def Newed (w : World) (n : Nat) (R : List Job) (W : World) : Prop := ∃ g, QG W w.heap.size (w.heap.size + 1) w.heap.size n g R ∧ Below w.heap.size w W
theorem Newed.put {w W1 W2 : World} {n : Nat} {R R' : List Job} (h : ∃ g, QG W1 w.heap.size (w.heap.size + 1) w.heap.size n g R ∧ Below w.heap.size w W1 ∧ PutEnd W1 w.heap.size (w.heap.size + 1) w.heap.size (n + 1) g R' W2) : Newed w (n + 1) R' W2 := by
  obtain ⟨g, hq, hb, g', h1, h2, h3⟩ := h
  obtain ⟨a1, a2, a3, a4, _⟩ := hq.at
  exact ⟨g', h2, hb.trans (h3.below a1 a2 a3 (by omega))⟩
set_option maxHeartbeats 2000000 in
set_option maxRecDepth 100000 in
theorem new_any (a : Option Addr) (cap : Nat) (l : List Job) (hl : l.length ≤ 1000) (w : World) (hr : RdJ w.heap.size w a l) :
    Calls Try.prog 9 #[.slice a l.length cap] w fun e w' => e = .returned (.pointer (some ⟨w.heap.size + 1, 0, none⟩)) ∧ Newed w l.length (allR l) w' := by
  have hat : Newed w 0 ((l.take 0).foldl putR []) ((w.alloc (.map #[] 0)).alloc (.cells #[.slice none 0 0, .map (some w.heap.size)] 51)) := ⟨none, QG.made w, ((Below.refl _ _).alloc (Nat.le_refl _) _).alloc (by simp) _⟩
  have HAT := Lib.hid hat
  have HR := Lib.hid hr
  have hmm := @run_makeMap Try.prog
  obtain ⟨len, hlen⟩ : ∃ len, l.length = len := ⟨_, rfl⟩
  rw [hlen] at hl ⊢
  have HL := Lib.hid hlen
  clear hat hr hlen
  go_enter Try.func9, Try.ntmps9
  go_wp2
  generalize ((w.alloc (.map #[] 0)).alloc (.cells #[.slice none 0 0, .map (some w.heap.size)] 51)) = w0 at *
  go_loopw [12] (fun i wr => ∃ k : Nat, i = .int .i64 k ∧ k ≤ len ∧ Hid (Newed w k ((l.take k).foldl putR []) wr)) (fun i _ => len - (intOf i).toNat)
  case atStart => exact ⟨0, rfl, Nat.zero_le _, HAT⟩
  case round =>
    obtain ⟨k, rfl, hk, HA⟩ := hrel
    clear HAT
    by_cases hlt : k < len
    · obtain ⟨x, hx⟩ : ∃ x, l[k]? = some x := ⟨_, List.getElem?_eq_getElem (by have := HL.out; omega)⟩
      obtain ⟨⟨hxk, _⟩, b, off, ha, hb, x0, x1⟩ := HR.out k x hx
      subst ha
      obtain ⟨g, hq, hbl⟩ := HA.out
      have y0 := keepC hbl hb x0
      have y1 := keepC hbl hb x1
      have hal : Below wr.heap.size wr (wr.alloc (.cells #[.int .i64 x.k, .int .i64 x.a] 30)) := (Below.refl _ _).alloc (Nat.le_refl _) _
      have hpt := put_any (hq.below hal) x hxk (by omega)
      have hnx := fun W2 (h : PutEnd _ _ _ _ _ g _ W2) => Newed.put (W2 := W2) (R' := putR ((l.take k).foldl putR []) x) ⟨g, hq.below hal, hbl.trans (hal.mono hbl.size), h⟩
      rw [← fold_put hx] at hpt hnx
      have HNX := Lib.hid hnx
      generalize newsR ((l.take k).foldl putR []) x = z at *
      clear hx x0 x1 hq hbl hal hnx HA
      go_wp2_with (go_at_call 11; refine hpt.mono ?_; rintro e w2 ⟨rfl, he⟩; have HN := Lib.hid (HNX.out _ he); clear he)
      go_roundw
      case rel => exact ⟨k + 1, by go_num, by omega, HN⟩
      case measure => simp [intOf]; omega
    · obtain rfl : k = len := by omega
      have hF : Newed w k (allR l) wr := by
        have := HA.out
        rwa [List.take_of_length_le (by rw [HL.out]; omega)] at this
      have HF := Lib.hid hF
      clear hF HA
      go_wp2
      go_ret
      exact ⟨rfl, HF.out⟩
end
end Go.Proofs.Ytaaaefoanjggcaa
