/-
  THE PROGRAM'S Age.
-/
import Derived.Test.YtpaooddmgcekhaaGreatVGet
import Derived.Test.YtpaooddmgcekhaaGreatVSort
namespace Go.Proofs.YtpaooddmgcekhaaGreat.ti
set_option linter.unusedSimpArgs false
set_option linter.unusedVariables false
open Go.RowKit Go.Maps
theorem perm_same {α : Type} : ∀ {l m : List α}, l.Nodup → m.Nodup → (∀ x, x ∈ l ↔ x ∈ m) → l.Perm m
  | [], m, _, _, h => by
    cases m with
    | nil => exact List.Perm.nil
    | cons y m => exact absurd ((h y).2 (by simp)) (by simp)
  | a :: l, m, hl, hm, h => by
    obtain ⟨m1, m2, rfl⟩ := List.append_of_mem ((h a).1 (by simp))
    obtain ⟨ha, hl⟩ := List.nodup_cons.1 hl
    have hp : (m1 ++ a :: m2).Perm (a :: (m1 ++ m2)) := List.perm_middle
    obtain ⟨hb, hm⟩ := List.nodup_cons.1 (hp.nodup_iff.1 hm)
    refine ((perm_same hl hm fun x => ?_).cons a).trans hp.symm
    constructor
    · intro hx
      have := hp.mem_iff.1 ((h x).1 (List.mem_cons_of_mem _ hx))
      rcases List.mem_cons.1 this with rfl | q
      · exact absurd hx ha
      · exact q
    · intro hx
      have := (h x).2 (hp.mem_iff.2 (List.mem_cons_of_mem _ hx))
      rcases List.mem_cons.1 this with rfl | q
      · exact absurd hx hb
      · exact q
/-- What is there yet; what is over, and gone. -/
def curK (L : List EnK) (now : Int) (left : Lit → Bool) : List EnK := L.filter fun x => decide (now < x.e.exp) || left (keyL x.e.id)
def goneK (L : List EnK) (now : Int) (left : Lit → Bool) : List EnK := L.filter fun x => !decide (now < x.e.exp) && !left (keyL x.e.id)
def strike (left : Lit → Bool) (i : TId) : Lit → Bool := fun z => left z && !z.sameKey (keyL i)
section
variable {L : List EnK} {now : Int} {left : Lit → Bool} {y : EnK}
theorem idK_eq (hn : ((L.map entK).map Prod.fst).Nodup) {x : EnK} (hx : x ∈ L) (hy : y ∈ L) (e : x.e.id = y.e.id) : x = y := by
  rw [List.map_map] at hn
  induction L with
  | nil => cases hx
  | cons a L ih =>
    rw [List.map_cons, List.nodup_cons] at hn
    rcases List.mem_cons.1 hx with hx | hx
    · rcases List.mem_cons.1 hy with hy | hy
      · rw [hx, hy]
      · exact absurd (List.mem_map.2 ⟨y, hy, by rw [← hx]; exact e.symm⟩) hn.1
    · rcases List.mem_cons.1 hy with hy | hy
      · exact absurd (List.mem_map.2 ⟨x, hx, by rw [← hy]; exact e⟩) hn.1
      · exact ih hn.2 hx hy
theorem ndK (hn : ((L.map entK).map Prod.fst).Nodup) : L.Nodup := by
  rw [List.map_map] at hn
  refine List.Pairwise.imp ?_ (List.pairwise_map.1 (show List.Pairwise (· ≠ ·) (L.map _) from hn))
  rintro a b hab rfl
  exact hab rfl
theorem strike_at (hL : ∀ x ∈ L, okI x.e.id) {x : EnK} (hx : x ∈ L) (hy : y ∈ L) : strike left y.e.id (keyL x.e.id) = (left (keyL x.e.id) && !decide (x.e.id = y.e.id)) := by
  unfold strike
  rw [keyL_same (hL x hx) (hL y hy)]
theorem cur_drop (hn : ((L.map entK).map Prod.fst).Nodup) (hL : ∀ x ∈ L, okI x.e.id) (hy : y ∈ L) (h : ¬ now < y.e.exp) : restK (curK L now left) y.e.id = curK L now (strike left y.e.id) := by
  unfold restK curK
  rw [List.filter_filter]
  apply List.filter_congr
  intro x hx
  rw [strike_at hL hx hy]
  by_cases e : x.e.id = y.e.id
  · obtain rfl := idK_eq hn hx hy e
    simp [h]
  · simp [e]
theorem cur_stay (hn : ((L.map entK).map Prod.fst).Nodup) (hL : ∀ x ∈ L, okI x.e.id) (hy : y ∈ L) (h : now < y.e.exp) : curK L now (strike left y.e.id) = curK L now left := by
  unfold curK
  apply List.filter_congr
  intro x hx
  rw [strike_at hL hx hy]
  by_cases e : x.e.id = y.e.id
  · obtain rfl := idK_eq hn hx hy e
    simp [h]
  · simp [e]
theorem gone_stay (hn : ((L.map entK).map Prod.fst).Nodup) (hL : ∀ x ∈ L, okI x.e.id) (hy : y ∈ L) (h : now < y.e.exp) : goneK L now (strike left y.e.id) = goneK L now left := by
  unfold goneK
  apply List.filter_congr
  intro x hx
  rw [strike_at hL hx hy]
  by_cases e : x.e.id = y.e.id
  · obtain rfl := idK_eq hn hx hy e
    simp [h]
  · simp [e]
theorem gone_add (hn : ((L.map entK).map Prod.fst).Nodup) (hL : ∀ x ∈ L, okI x.e.id) (hy : y ∈ L) (h : ¬ now < y.e.exp) (hl : left (keyL y.e.id) = true) : (goneK L now (strike left y.e.id)).Perm (goneK L now left ++ [y]) := by
  have hnd := ndK hn
  refine perm_same (hnd.filter _) ?_ fun x => ?_
  · rw [List.nodup_append]
    refine ⟨hnd.filter _, by simp, fun a ha b hb => ?_⟩
    simp at hb
    subst hb
    rintro rfl
    have := (List.mem_filter.1 ha).2
    simp [hl] at this
  · unfold goneK
    rw [List.mem_append, List.mem_filter, List.mem_filter]
    constructor
    · rintro ⟨hx, hq⟩
      rw [strike_at hL hx hy] at hq
      by_cases e : x.e.id = y.e.id
      · exact .inr (by simp [idK_eq hn hx hy e])
      · exact .inl ⟨hx, by simpa [e] using hq⟩
    · rintro (⟨hx, hq⟩ | hq)
      · refine ⟨hx, ?_⟩
        rw [strike_at hL hx hy]
        simp at hq ⊢
        exact ⟨hq.1, .inl hq.2⟩
      · simp at hq
        subst hq
        refine ⟨hy, ?_⟩
        rw [strike_at hL hy hy]
        simp
        omega
end
theorem strike_twice {left : Lit → Bool} {i : TId} : (fun z => strike left i z && !z.sameKey (keyL i)) = strike left i := by
  funext z
  unfold strike
  cases left z <;> cases z.sameKey (keyL i) <;> rfl
theorem RangeV.drop {W : World} {b r n cnt : Nat} {M : List IdV} {left : Lit → Bool} (h : RangeV W b r n M left cnt) {mt et : TypeId} (hmt : Tryz.prog.underlying mt = some (.map 33 et)) {i : TId} (hi : okI i) (ty : TypeId) :
    ∃ W' cnt', (Builtin.delete_ #[mt, 33] ty #[.map (some b), aggI i]).run Tryz.prog W = .ok (.tuple #[]) W' ∧ RangeV W' b r n (restV M i) (fun z => left z && !z.sameKey (keyL i)) cnt' ∧ cnt' ≤ cnt ∧ W.mapTurned W' b := by
  obtain ⟨es, hr, hp, hn, hL⟩ := h
  obtain ⟨W', cnt', h1, h2, h3, h4⟩ := hr.drop KT hmt (keyT hi) ty
  exact ⟨W', cnt', h1, ⟨_, h2, perm_del hp hL hi, nd_filter _ hn, fun o q => hL o (restV_mem.1 q).1⟩, h3, h4⟩
/-- What Age leaves. -/
def AgeE (room : Int) (K : List EnT) (now : Int) (n0 pb mb : Nat) (w : World) (e : Ending) (w' : World) : Prop :=
  ∃ v, e = .returned v ∧ OwnE 33 4 cellsI w' w.heap.size v (ageD K now).1 ∧ ProgD w' n0 pb mb room (ageD K now).2 ∧ w.grownBy w' (some mb)
set_option maxHeartbeats 3200000 in
set_option maxRecDepth 100000 in
theorem dage_bad {w : World} {n0 pb mb : Nat} {room : Int} {K : List EnT} (h : ProgD w n0 pb mb room K) (now : Int) (hm : ¬ momD now) : Calls Tryz.prog 24 #[.pointer (some ⟨pb, 0, none⟩), .int .i64 now] w (AgeE room K now n0 pb mb w) := by
  have he : ageD K now = ([], K) := by unfold ageD; rw [if_neg hm]
  unfold AgeE
  rw [he]
  have ht := dtime_any now
  rw [decide_eq_false hm] at ht
  have HP := Lib.hid h
  clear h hm he
  go_enter Tryz.func24, Tryz.ntmps24
  go_wp2_with (go_at_call 34; refine (ht _).mono ?_; rintro e w1 ⟨rfl, hww⟩; have hww := hww.symm; subst hww)
  go_ret
  exact ⟨_, rfl, OwnE.nil _ _, HP.out, ⟨rfl, rfl, rfl, Nat.le_refl _, fun _ _ _ => rfl⟩⟩
/-- Where the loop of Age stands. -/
structure AgeS (w : World) (mb r n : Nat) (M : List IdV) (G : List EnK) (left : Lit → Bool) (cnt : Nat) (v : Value) (W : World) : Prop where
  rg : RangeV W mb r n M left cnt
  gr : w.grownBy W (some mb)
  row : ∃ D : List EnK, D.Perm G ∧ OwnE 33 4 cellsI W w.heap.size v (D.map fun x => x.e.id)
section
variable {w W W' : World} {mb r n cnt : Nat} {M : List IdV} {G : List EnK} {left : Lit → Bool} {v : Value}
theorem AgeS.iter (h : AgeS w mb r n M G left cnt v W) : (∃ es c, W.heap[mb]? = some (.map es c)) ∧ ∃ a b c d, W.heap[r]? = some (.mapIter a b c d) := by
  obtain ⟨es, hr, _⟩ := h.rg
  obtain ⟨cs, clock, since, seen, c0, hb, _, _, _, hrr, _⟩ := hr
  exact ⟨⟨_, _, hb⟩, ⟨_, _, _, _, hrr⟩⟩
theorem AgeS.grown (h : AgeS w mb r n M G left cnt v W) (hb : Below W.heap.size W W') : AgeS w mb r n M G left cnt v W' := by
  obtain ⟨D, hD, hO⟩ := h.row
  exact ⟨h.rg.kept (grown_below hb none) (by simp) (by simp), h.gr.andThen (grown_below hb none) (fun j e => by cases e), ⟨D, hD, hO.below hb⟩⟩
/-- The iterator goes on. -/
theorem AgeS.next (h : AgeS w mb r n M G left cnt v W) (hr : w.heap.size ≤ r) {left' : Lit → Bool} {cnt' : Nat} (hg : W.grownBy W' (some r)) (hrg : RangeV W' mb r n M left' cnt') : AgeS w mb r n M G left' cnt' v W' := by
  obtain ⟨D, hD, hO⟩ := h.row
  obtain ⟨_, a, b, c, d, hit⟩ := h.iter
  refine ⟨hrg, h.gr.andThen hg (fun j e => by cases e; exact .inl hr), ⟨D, hD, hO.same fun g hgv => ?_⟩⟩
  obtain ⟨cur, hcur⟩ := hO.block hgv
  exact hg.block g (Array.getElem?_eq_some_iff.1 hcur).1 (fun e => by rw [Option.some.inj e, hit] at hcur; cases hcur)
/-- An entry is struck. -/
theorem AgeS.struck (h : AgeS w mb r n M G left cnt v W) {M' : List IdV} {left' : Lit → Bool} {cnt' : Nat} (ht : W.mapTurned W' mb) (hrg : RangeV W' mb r n M' left' cnt') : AgeS w mb r n M' G left' cnt' v W' := by
  obtain ⟨D, hD, hO⟩ := h.row
  obtain ⟨⟨es, c, hm⟩, _⟩ := h.iter
  refine ⟨hrg, h.gr.andThen ht.grown (fun j e => by cases e; exact .inr rfl), ⟨D, hD, hO.same fun g hgv => ?_⟩⟩
  obtain ⟨cur, hcur⟩ := hO.block hgv
  exact ht.grown.block g (Array.getElem?_eq_some_iff.1 hcur).1 (fun e => by rw [Option.some.inj e, hm] at hcur; cases hcur)
end
theorem ProgD.grown {W W' : World} {n0 pb mb : Nat} {room : Int} {K K' : List EnT} (h : ProgD W n0 pb mb room K) (hg : W.grownBy W' (some mb)) (hi : InvD room K') (L : List EnK) (hL : MapV W' mb (L.map entK)) (hp : (L.map EnK.e).Perm K') (ho : ∀ x ∈ L, Own2 W n0 x.e.t x.s) : ProgD W' n0 pb mb room K' := by
  obtain ⟨_, hM, _⟩ := h.has
  obtain ⟨es, c, he⟩ := hM.isMap
  have hb : ∀ (j : Nat) (cs : Array Value) (T : TypeId) (fr : Nat × Nat), W.heap[j]? = some (.cells cs T fr) → W'.heap[j]? = some (.cells cs T fr) := fun j cs T fr hj => by
    have hne : j ≠ mb := fun e => by rw [e, he] at hj; cases hj
    rw [hg.block j (Array.getElem?_eq_some_iff.1 hj).1 (fun e => hne (Option.some.inj e))]
    exact hj
  exact ⟨hb _ _ _ _ h.base, ⟨L, hL, hp, fun x hx => (ho x hx).same fun j cs T fr hj _ => hb j cs T fr hj⟩, h.hp, h.hm, hi⟩
theorem rd_one (W : World) (x : TId) (cs : Array Value) (hcs : cs = #[.int .i64 x.d, .int .i64 x.o, .int .i64 x.k, .int .i64 x.n]) : RdE 4 cellsI (W.alloc (.cells cs 33)) (some ⟨W.heap.size, 0, none⟩) [x] := fun j p hj => by
  match j, hj with
  | 0, hj =>
    simp at hj
    subst hj hcs
    exact ⟨W.heap.size, 0, rfl, by simp, by have := (Arr.new W 33 (cellsI x)).range; rw [Nat.zero_mul, Nat.zero_add]; exact this⟩
  | j + 1, hj => simp at hj
theorem ids_gone {K : List EnT} (h : AscD K) (now : Int) : AscI ((overD K now).map EnT.id) := by
  show List.Pairwise _ _
  rw [List.pairwise_map]
  exact List.Pairwise.sublist List.filter_sublist h
set_option maxHeartbeats 6400000 in
set_option maxRecDepth 100000 in
theorem dage_ok {w : World} {n0 pb mb : Nat} {room : Int} {K : List EnT} (h : ProgD w n0 pb mb room K) (now : Int) (hm : momD now) (hlen : K.length ≤ 4000) : Calls Tryz.prog 24 #[.pointer (some ⟨pb, 0, none⟩), .int .i64 now] w (AgeE room K now n0 pb mb w) := by
  have he : ageD K now = ((overD K now).map EnT.id, keptD K now) := by unfold ageD; rw [if_pos hm]
  unfold AgeE
  rw [he]
  have ht := dtime_any now
  rw [decide_eq_true hm] at ht
  obtain ⟨L, hL, hp, hO⟩ := h.has
  have hlt := h.lt
  have hnd : ((L.map entK).map Prod.fst).Nodup := by obtain ⟨_, _, _, q, _⟩ := hL; exact q
  have hok : ∀ x ∈ L, okI x.e.id := fun x hx => h.okI _ (hp.mem_iff.1 (List.mem_map.2 ⟨x, hx, rfl⟩))
  have hll : L.length ≤ 4000 := by have := hp.length_eq; rw [List.length_map] at this; omega
  have c1 : w.cell? ⟨pb, 1, none⟩ = some (.map (some mb)) := h.cells.2
  have HLF : Hid (∀ x ∈ L, ∀ W, Calls Tryz.prog 42 #[aggK x, .int .i64 now] W fun e w' => e = .returned (.int .i64 (leftD x.e now)) ∧ Below W.heap.size W w') := fun x hx W => dleft_any x now (by have := (h.inv.ok _ (hp.mem_iff.1 (List.mem_map.2 ⟨x, hx, rfl⟩))).2; unfold momD at hm; omega) W
  have HPB : Hid (∀ W, w.grownBy W (some mb) → W.cell? ⟨pb, 1, none⟩ = some (.map (some mb))) := fun W hg => (World.cell?_of_block (hg.block pb hlt.1 (fun e => by have := h.base; rw [Option.some.inj e] at this; obtain ⟨es, c, hc⟩ := hL.isMap; rw [hc] at this; cases this))).trans c1
  have HP := Lib.hid h
  have HM := Lib.hid hL
  have HPP := Lib.hid hp
  have HO := Lib.hid hO
  have HND := Lib.hid hnd
  have HOK := Lib.hid hok
  have HLL := Lib.hid hll
  clear h he hm hp hO hL hnd hok hlen hll
  go_enter Tryz.func24, Tryz.ntmps24
  go_wp2_with (first
    | (go_at_call 34; refine (ht _).mono ?_; rintro e w1 ⟨rfl, hww⟩; have hww := hww.symm; subst hww)
    | (at_range; refine wpList_range_V _ mapKd rfl _ rfl mb (L.map entK) rfl HM.out ?_; intro w0 left0 cnt0 hrg0 hl0 hg0 hs0; go_frame)
    | go_in)
  have HS0 : Hid (AgeS w mb w.heap.size (L.map entK).length ((curK L now left0).map entK) (goneK L now left0) left0 cnt0 (.slice none 0 0) w0) := by
    have e1 : curK L now left0 = L := by
      unfold curK
      refine List.filter_eq_self.2 fun x hx => ?_
      have := hl0 (entK x) (List.mem_map.2 ⟨x, hx, rfl⟩)
      have this : left0 (keyL x.e.id) = true := this
      simp [this]
    have e2 : goneK L now left0 = [] := by
      unfold goneK
      refine List.filter_eq_nil_iff.2 fun x hx => ?_
      have := hl0 (entK x) (List.mem_map.2 ⟨x, hx, rfl⟩)
      have this : left0 (keyL x.e.id) = true := this
      simp [this]
    exact ⟨by rw [e1]; exact hrg0, ⟨hg0.os, hg0.tape, hg0.output, hg0.size, fun k hk _ => hg0.block k hk (by simp)⟩, ⟨[], by rw [e2], OwnE.nil _ _⟩⟩
  clear hrg0 hl0 hg0 hs0 HM
  go_loopw [5] (fun v wr => ∃ (left : Lit → Bool) (cnt : Nat) (v' : Value), v' = v ∧ Hid (AgeS w mb w.heap.size (L.map entK).length ((curK L now left).map entK) (goneK L now left) left cnt v wr)) (fun _ wr => wr.rangeLeft mb w.heap.size)
  case atStart => exact ⟨_, _, _, rfl, HS0⟩
  case round =>
    obtain ⟨left, cnt, v, rfl, HS⟩ := hrel
    go_wp2_with (first
      | (at_next; refine wpList_next_V _ rfl _ rfl mb w.heap.size (L.map entK).length ((curK L now left).map entK) left cnt rfl HS.out.rg ?_ ?_)
      | go_in)
    · intro hl0
      obtain ⟨D, hD, hOV⟩ := HS.out.row
      have hg1 : goneK L now left = L.filter (fun x => !decide (now < x.e.exp)) := by unfold goneK; apply List.filter_congr; intro x _; simp [hl0]
      have hc1 : curK L now left = L.filter (fun x => decide (now < x.e.exp)) := by unfold curK; apply List.filter_congr; intro x _; simp [hl0]
      have hpo : (D.map fun x => x.e.id).Perm ((overD K now).map EnT.id) := by
        have h2 : ((L.map EnK.e).filter fun x => decide (x.exp ≤ now)).Perm (overD K now) := HPP.out.filter _
        rw [List.filter_map] at h2
        have h3 := (h2.map EnT.id)
        rw [List.map_map] at h3
        refine (hD.map fun x => x.e.id).trans ?_
        rw [hg1]
        refine (List.Perm.of_eq (congrArg (List.map fun x : EnK => x.e.id) (List.filter_congr fun x _ => ?_))).trans h3
        show (!decide (now < x.e.exp)) = decide (x.e.exp ≤ now)
        by_cases c : now < x.e.exp
        · rw [decide_eq_true c, decide_eq_false (by omega)]; rfl
        · rw [decide_eq_false c, decide_eq_true (by omega)]; rfl
      have hpk : ((curK L now left).map EnK.e).Perm (keptD K now) := by
        have h2 : ((L.map EnK.e).filter fun x => !decide (x.exp ≤ now)).Perm (keptD K now) := HPP.out.filter _
        rw [List.filter_map] at h2
        rw [hc1]
        refine (List.Perm.of_eq (congrArg (List.map EnK.e) (List.filter_congr fun x _ => ?_))).trans h2
        show decide (now < x.e.exp) = !decide (x.e.exp ≤ now)
        by_cases c : now < x.e.exp
        · rw [decide_eq_true c, decide_eq_false (by omega)]; rfl
        · rw [decide_eq_false c, decide_eq_true (by omega)]; rfl
      have hA := ids_gone HP.out.inv.asc now
      have hnd2 : (D.map fun x => x.e.id).Nodup := hpo.nodup_iff.2 (List.Pairwise.imp (fun {a b} (q : lexT a b) (e : a = b) => lex_irr b (by rw [e] at q; exact q)) (show List.Pairwise lexT _ from hA))
      have hlen2 : (D.map fun x => x.e.id).length ≤ 4096 := by
        rw [List.length_map, hD.length_eq]
        have := List.length_filter_le (fun x => !decide (now < x.e.exp) && !left (keyL x.e.id)) L
        have := HLL.out
        unfold goneK
        omega
      have HSB := Lib.hid (sort_both hOV hlen2 hnd2)
      have HPO := Lib.hid hpo
      have HPK := Lib.hid hpk
      have HAS := Lib.hid hA
      have HOV := Lib.hid hOV
      clear hl0 hD hOV hg1 hc1 hpo hpk hA hnd2 hlen2
      go_wp2_with (first
        | (go_at_call 43; refine HSB.out.mono ?_; rintro e w2 ⟨rfl, ys, hya, hyp, hyo, hyg⟩; have E := Lib.hid (ascI_unique hya HAS.out (hyp.trans HPO.out)); have HYO := Lib.hid hyo; have HYG := Lib.hid hyg; clear hya hyp hyo hyg))
      go_ret
      have hgg : w.grownBy w2 (some mb) := HS.out.gr.andThen HYG.out (fun j e => .inl (World.ownsRow.lt HOV.out j e).1)
      have hmm : MapV w2 mb ((curK L now left).map entK) := HS.out.rg.map.same (HYG.out.block mb HS.out.rg.map.lt (fun e => by have := (World.ownsRow.lt HOV.out mb e.symm).1; omega))
      exact ⟨v, rfl, by rw [← E.out]; exact HYO.out, HP.out.grown hgg (HP.out.inv.sub List.filter_sublist) _ hmm HPK.out (fun x hx => HO.out x (List.mem_filter.1 hx).1), hgg⟩
    · intro i0 u0 w1 cnt1 y hy hyy hxl hrg1 hlt1 hg1 hs1 hen
      obtain ⟨rfl, rfl⟩ : y.e.id = i0 ∧ aggK y = u0 := ⟨congrArg Prod.fst hyy, congrArg Prod.snd hyy⟩
      have hyL := (List.mem_filter.1 hy).1
      have hen2 : (Instr.entry (.pointer (some ⟨w.heap.size, 0, none⟩))).run Tryz.prog w1 = .ok (.tuple #[.agg #[.int .i64 y.e.t.hd.id.d, .int .i64 y.e.t.hd.id.o, .int .i64 y.e.t.hd.id.k, .int .i64 y.e.t.hd.id.n], .agg #[.int .i64 y.e.t.hd.id.d, .int .i64 y.e.t.hd.id.o, .int .i64 y.e.t.hd.id.k, .int .i64 y.e.t.hd.id.n, .int .i64 y.e.t.hd.seq, .int .i64 y.e.t.hd.life, .int .i64 y.e.t.level, .bool y.e.t.over, .slice y.s.ea y.e.t.es.length y.s.ec, .slice y.s.ra y.e.t.rs.length y.s.rc, .int .i64 y.e.exp]]) w1 := hen
      have S1 : AgeS w mb w.heap.size (L.map entK).length ((curK L now left).map entK) (goneK L now left) (strike left y.e.id) cnt1 v w1 := HS.out.next (Nat.le_refl _) hg1 (by rw [List.length_map]; exact hrg1)
      have S2 := Lib.hid ((S1.grown ((Below.refl _ w1).alloc (Nat.le_refl _) (.cells #[.int .i64 y.e.t.hd.id.d, .int .i64 y.e.t.hd.id.o, .int .i64 y.e.t.hd.id.k, .int .i64 y.e.t.hd.id.n] 33))).grown ((Below.refl _ _).alloc (Nat.le_refl _) (.cells #[.int .i64 y.e.t.hd.id.d, .int .i64 y.e.t.hd.id.o, .int .i64 y.e.t.hd.id.k, .int .i64 y.e.t.hd.id.n, .int .i64 y.e.t.hd.seq, .int .i64 y.e.t.hd.life, .int .i64 y.e.t.level, .bool y.e.t.over, .slice y.s.ea y.e.t.es.length y.s.ec, .slice y.s.ra y.e.t.rs.length y.s.rc, .int .i64 y.e.exp] 78)))
      have AI : Hid (Arr ((w1.alloc (.cells #[.int .i64 y.e.t.hd.id.d, .int .i64 y.e.t.hd.id.o, .int .i64 y.e.t.hd.id.k, .int .i64 y.e.t.hd.id.n] 33)).alloc (.cells #[.int .i64 y.e.t.hd.id.d, .int .i64 y.e.t.hd.id.o, .int .i64 y.e.t.hd.id.k, .int .i64 y.e.t.hd.id.n, .int .i64 y.e.t.hd.seq, .int .i64 y.e.t.hd.life, .int .i64 y.e.t.level, .bool y.e.t.over, .slice y.s.ea y.e.t.es.length y.s.ec, .slice y.s.ra y.e.t.rs.length y.s.rc, .int .i64 y.e.exp] 78)) w1.heap.size 33 [.int .i64 y.e.t.hd.id.d, .int .i64 y.e.t.hd.id.o, .int .i64 y.e.t.hd.id.k, .int .i64 y.e.t.hd.id.n]) := (Arr.new w1 _ _).alloc _
      have AE : Hid (Arr ((w1.alloc (.cells #[.int .i64 y.e.t.hd.id.d, .int .i64 y.e.t.hd.id.o, .int .i64 y.e.t.hd.id.k, .int .i64 y.e.t.hd.id.n] 33)).alloc (.cells #[.int .i64 y.e.t.hd.id.d, .int .i64 y.e.t.hd.id.o, .int .i64 y.e.t.hd.id.k, .int .i64 y.e.t.hd.id.n, .int .i64 y.e.t.hd.seq, .int .i64 y.e.t.hd.life, .int .i64 y.e.t.level, .bool y.e.t.over, .slice y.s.ea y.e.t.es.length y.s.ec, .slice y.s.ra y.e.t.rs.length y.s.rc, .int .i64 y.e.exp] 78)) (w1.heap.size + 1) 78 [.int .i64 y.e.t.hd.id.d, .int .i64 y.e.t.hd.id.o, .int .i64 y.e.t.hd.id.k, .int .i64 y.e.t.hd.id.n, .int .i64 y.e.t.hd.seq, .int .i64 y.e.t.hd.life, .int .i64 y.e.t.level, .bool y.e.t.over, .slice y.s.ea y.e.t.es.length y.s.ec, .slice y.s.ra y.e.t.rs.length y.s.rc, .int .i64 y.e.exp]) := by
        have := Arr.new (w1.alloc (.cells #[.int .i64 y.e.t.hd.id.d, .int .i64 y.e.t.hd.id.o, .int .i64 y.e.t.hd.id.k, .int .i64 y.e.t.hd.id.n] 33)) 78 [.int .i64 y.e.t.hd.id.d, .int .i64 y.e.t.hd.id.o, .int .i64 y.e.t.hd.id.k, .int .i64 y.e.t.hd.id.n, .int .i64 y.e.t.hd.seq, .int .i64 y.e.t.hd.life, .int .i64 y.e.t.level, .bool y.e.t.over, .slice y.s.ea y.e.t.es.length y.s.ec, .slice y.s.ra y.e.t.rs.length y.s.rc, .int .i64 y.e.exp]
        rw [show (w1.alloc (.cells #[.int .i64 y.e.t.hd.id.d, .int .i64 y.e.t.hd.id.o, .int .i64 y.e.t.hd.id.k, .int .i64 y.e.t.hd.id.n] 33)).heap.size = w1.heap.size + 1 from by simp] at this
        exact this
      have HSZ : Hid (((w1.alloc (.cells #[.int .i64 y.e.t.hd.id.d, .int .i64 y.e.t.hd.id.o, .int .i64 y.e.t.hd.id.k, .int .i64 y.e.t.hd.id.n] 33)).alloc (.cells #[.int .i64 y.e.t.hd.id.d, .int .i64 y.e.t.hd.id.o, .int .i64 y.e.t.hd.id.k, .int .i64 y.e.t.hd.id.n, .int .i64 y.e.t.hd.seq, .int .i64 y.e.t.hd.life, .int .i64 y.e.t.level, .bool y.e.t.over, .slice y.s.ea y.e.t.es.length y.s.ec, .slice y.s.ra y.e.t.rs.length y.s.rc, .int .i64 y.e.exp] 78)).heap.size = w1.heap.size + 2) := by unfold Hid; simp
      have HLE : Hid (cnt1 < cnt ∧ wr.rangeLeft mb w.heap.size = cnt) := ⟨hlt1, HS.out.rg.left_eq⟩
      have HYL := Lib.hid hyL
      have HXL : Hid (left (keyL y.e.id) = true) := hxl
      have hl := HLF.out y hyL
      unfold aggK at hl
      have HL := Lib.hid hl
      dsimp only [entK, aggI, aggK, EnT.id]
      clear hyy hxl hrg1 hlt1 hg1 hs1 hen hy hyL S1 hl
      by_cases q : now < y.e.exp
      · have HZ : Hid (¬ leftD y.e now = 0) := by unfold Hid; rw [left_zero]; omega
        obtain ⟨lf, hlf⟩ : ∃ lf, leftD y.e now = lf := ⟨_, rfl⟩
        rw [hlf] at HZ HL
        have hz := HZ.out
        have HQ := Lib.hid q
        clear hlf q HZ
        go_wp2_with (first
          | (refine wpList_load_arr rfl 78 (.tmp 7) rfl (w1.heap.size + 1) rfl AE.out Tryz.underlying78 rfl sizeK rfl ?_)
          | (go_at_call 42; refine (HL.out _).mono ?_; rintro e w3 ⟨rfl, hb3⟩; have S3 := Lib.hid (S2.out.grown hb3); clear hb3))
        go_roundw
        case rel => exact ⟨strike left y.e.id, cnt1, _, rfl, by rw [cur_stay HND.out HOK.out HYL.out HQ.out, gone_stay HND.out HOK.out HYL.out HQ.out]; exact S3.out⟩
        case measure => rw [S3.out.rg.left_eq, HLE.out.2]; exact HLE.out.1
      · have HZ : Hid (leftD y.e now = 0) := by unfold Hid; rw [left_zero]; omega
        rw [HZ.out] at HL
        have HQ := Lib.hid q
        have HKI := Lib.hid (HOK.out y HYL.out)
        clear q HZ
        go_wp2_with (first
          | (refine wpList_load_arr rfl 78 (.tmp 7) rfl (w1.heap.size + 1) rfl AE.out Tryz.underlying78 rfl sizeK rfl ?_)
          | (go_at_call 42; refine (HL.out _).mono ?_; rintro e w3 ⟨rfl, hb3⟩; have S3 := Lib.hid ((S2.out.grown hb3).grown ((Below.refl _ w3).drew)); have A3 : Hid (Arr w3 w1.heap.size 33 [.int .i64 y.e.t.hd.id.d, .int .i64 y.e.t.hd.id.o, .int .i64 y.e.t.hd.id.k, .int .i64 y.e.t.hd.id.n]) := AI.out.below hb3 (by have := HSZ.out; omega); have c3 : w3.drew.cell? ⟨pb, 1, none⟩ = some (.map (some mb)) := HPB.out w3.drew S3.out.gr; clear hb3))
        obtain ⟨W4, cnt4, hdel, hrg4, hle4, ht4⟩ := S3.out.rg.drop mapKd HKI.out 0
        have hdel2 : (Builtin.delete_ #[59, 33] 0 #[.map (some mb), .agg #[.int .i64 y.e.t.hd.id.d, .int .i64 y.e.t.hd.id.o, .int .i64 y.e.t.hd.id.k, .int .i64 y.e.t.hd.id.n]]).run Tryz.prog w3.drew = .ok (.tuple #[]) W4 := hdel
        have S4 := S3.out.struck ht4 hrg4
        have A4 : Arr W4 w1.heap.size 33 [.int .i64 y.e.t.hd.id.d, .int .i64 y.e.t.hd.id.o, .int .i64 y.e.t.hd.id.k, .int .i64 y.e.t.hd.id.n] := (KeepC.turned ht4).arr A3.out
        have SS3 : w3.drew.cell? ⟨pb, 1, none⟩ = some (.map (some mb)) ∧ w3.drew.cell? ⟨w1.heap.size, 0, none⟩ = some (.int .i64 y.e.t.hd.id.d) ∧ w3.drew.cell? ⟨w1.heap.size, 1, none⟩ = some (.int .i64 y.e.t.hd.id.o) ∧ w3.drew.cell? ⟨w1.heap.size, 2, none⟩ = some (.int .i64 y.e.t.hd.id.k) ∧ w3.drew.cell? ⟨w1.heap.size, 3, none⟩ = some (.int .i64 y.e.t.hd.id.n) := ⟨c3, A3.out.cell 0, A3.out.cell 1, A3.out.cell 2, A3.out.cell 3⟩
        have SS4 : W4.cell? ⟨pb, 1, none⟩ = some (.map (some mb)) ∧ W4.cell? ⟨w1.heap.size, 0, none⟩ = some (.int .i64 y.e.t.hd.id.d) ∧ W4.cell? ⟨w1.heap.size, 1, none⟩ = some (.int .i64 y.e.t.hd.id.o) ∧ W4.cell? ⟨w1.heap.size, 2, none⟩ = some (.int .i64 y.e.t.hd.id.k) ∧ W4.cell? ⟨w1.heap.size, 3, none⟩ = some (.int .i64 y.e.t.hd.id.n) := ⟨HPB.out W4 S4.gr, A4.cell 0, A4.cell 1, A4.cell 2, A4.cell 3⟩
        have HS4 := Lib.hid S4
        have HA4 := Lib.hid A4
        have HLE4 := Lib.hid hle4
        clear S4 A4 hdel hrg4 hle4 ht4
        go_region_held (fun W => W.cell? ⟨pb, 1, none⟩ = some (.map (some mb)) ∧ W.cell? ⟨w1.heap.size, 0, none⟩ = some (.int .i64 y.e.t.hd.id.d) ∧ W.cell? ⟨w1.heap.size, 1, none⟩ = some (.int .i64 y.e.t.hd.id.o) ∧ W.cell? ⟨w1.heap.size, 2, none⟩ = some (.int .i64 y.e.t.hd.id.k) ∧ W.cell? ⟨w1.heap.size, 3, none⟩ = some (.int .i64 y.e.t.hd.id.n)) (first | exact SS3 | exact SS4 | assumption) (fail)
        obtain ⟨D, hD, hOD⟩ := HS4.out.row
        have HD := Lib.hid hD
        have HOD : Hid (OwnE 33 4 cellsI (W4.alloc (.cells #[.int .i64 y.e.t.hd.id.d, .int .i64 y.e.t.hd.id.o, .int .i64 y.e.t.hd.id.k, .int .i64 y.e.t.hd.id.n] 33)) w.heap.size v (D.map fun x => x.e.id)) := hOD.below ((Below.refl _ _).alloc (Nat.le_refl _) _)
        have hS5 := Lib.hid (HS4.out.grown ((Below.refl _ W4).alloc (Nat.le_refl _) (.cells #[.int .i64 y.e.t.hd.id.d, .int .i64 y.e.t.hd.id.o, .int .i64 y.e.t.hd.id.k, .int .i64 y.e.t.hd.id.n] 33)))
        have HR1 := Lib.hid (rd_one W4 y.e.id #[.int .i64 y.e.t.hd.id.d, .int .i64 y.e.t.hd.id.o, .int .i64 y.e.t.hd.id.k, .int .i64 y.e.t.hd.id.n] rfl)
        have hDl : Hid (D.length ≤ 4000) := by
          unfold Hid
          rw [hD.length_eq]
          have := List.length_filter_le (fun x => !decide (now < x.e.exp) && !left (keyL x.e.id)) L
          have := HLL.out
          unfold goneK
          omega
        have HSZ4 : Hid (w.heap.size ≤ (W4.alloc (.cells #[.int .i64 y.e.t.hd.id.d, .int .i64 y.e.t.hd.id.o, .int .i64 y.e.t.hd.id.k, .int .i64 y.e.t.hd.id.n] 33)).heap.size) := by unfold Hid; have := HS4.out.gr.size; simp; omega
        clear hD hOD SS3 c3 hdel2
        go_wp2_with (first
          | (at_builtin; refine kindI.wp_append rfl (.tmp 30) (.tmp 32) rfl w.heap.size v (D.map fun x => x.e.id) rfl HOD.out (some ⟨W4.heap.size, 0, none⟩) [y.e.id] 1 1 rfl rfl HR1.out (by have := hDl.out; rw [List.length_map]; unfold maxLen; simp; omega) (by have := hDl.out; rw [List.length_map]; simp; omega) HSZ4.out ?_; intro A6 n6 c6 w6 hn6 hO6 hb6 hg6; have HO6 := Lib.hid hO6; have HG6 := Lib.hid hg6; clear hn6 hO6 hb6 hg6))
        have HS6 : Hid (AgeS w mb w.heap.size (L.map entK).length ((curK L now (strike left y.e.id)).map entK) (goneK L now (strike left y.e.id)) (strike left y.e.id) cnt4 (.slice A6 n6 c6) w6) := by
          obtain ⟨⟨es, c, hmap⟩, a, b, cc, d, hit⟩ := hS5.out.iter
          have hrgk := hS5.out.rg.kept HG6.out (fun e => by obtain ⟨cur, hcur⟩ := HOD.out.block e.symm; rw [hmap] at hcur; cases hcur) (fun e => by obtain ⟨cur, hcur⟩ := HOD.out.block e.symm; rw [hit] at hcur; cases hcur)
          rw [strike_twice, restV_map, cur_drop HND.out HOK.out HYL.out (by have := HQ.out; omega)] at hrgk
          refine ⟨hrgk, hS5.out.gr.andThen HG6.out (fun j e => .inl (World.ownsRow.lt HOD.out j e).1), ⟨D ++ [y], (HD.out.append_right [y]).trans (gone_add HND.out HOK.out HYL.out (by have := HQ.out; omega) HXL.out).symm, ?_⟩⟩
          rw [List.map_append]
          exact HO6.out
        go_roundw
        case rel => exact ⟨strike left y.e.id, cnt4, _, rfl, HS6.out⟩
        case measure => rw [HS6.out.rg.left_eq, HLE.out.2]; have := HLE.out.1; have := HLE4.out; omega
theorem dage_any {w : World} {n0 pb mb : Nat} {room : Int} {K : List EnT} (h : ProgD w n0 pb mb room K) (now : Int) (hlen : K.length ≤ 4000) : Calls Tryz.prog 24 #[.pointer (some ⟨pb, 0, none⟩), .int .i64 now] w (AgeE room K now n0 pb mb w) := by
  by_cases hm : momD now
  · exact dage_ok h now hm hlen
  · exact dage_bad h now hm
end Go.Proofs.YtpaooddmgcekhaaGreat.ti
