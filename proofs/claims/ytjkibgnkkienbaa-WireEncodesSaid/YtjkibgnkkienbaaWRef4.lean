/-
  THE DOCUMENT's fields of a packet: numbers, structs, in rows of one's own.
-/
import Derived.Test.YtjkibgnkkienbaaWRef3
namespace Go.Proofs.Ytjkibgnkkienbaa
open Go.RowKit Go.Shelf
set_option linter.unusedVariables false

/-- A row of one's own holds items without bytes. -/
def OwnE (w : World) (base : Nat) (v : Value) (l : List It) : Prop := w.ownsRow base 48 4 v l.length (l.flatMap encIt)
/-- A slice that reads as items without bytes. -/
def SrcE (w : World) (A : Option Addr) (l : List It) : Prop := 0 < l.length → ∃ b off, A = some ⟨b, off, none⟩ ∧ ∀ i u, (l.flatMap encIt)[i]? = some u → w.cell? ⟨b, off + i, none⟩ = some u
def GotE (l : List It) (w : World) (e : Ending) (w' : World) : Prop := ∃ A n c, e = .returned (.slice A n c) ∧ n = l.length ∧ OwnE w' w.heap.size (.slice A n c) l ∧ Below w.heap.size w w'
theorem OwnE.src {w : World} {base : Nat} {A : Option Addr} {n c : Nat} {l : List It} (h : OwnE w base (.slice A n c) l) : SrcE w A l := fun hp => by
  rcases h.2 with ⟨_, h0⟩ | ⟨g, cap, cur, hv, _, hh, _, _, _, hx⟩
  · omega
  · injection hv with h1
    subst h1
    refine ⟨g, 0, rfl, fun i u hu => ?_⟩
    rw [cell_of_row w g _ cur _ (0, 0) hh, Nat.zero_add]
    have hi := (List.getElem?_eq_some_iff.1 hu).1
    have hl := h.1
    rw [← hx] at hu
    rw [List.getElem?_take] at hu
    split at hu
    · simpa using hu
    · cases hu
theorem OwnE.below {w w' : World} {base : Nat} {v : Value} {l : List It} (h : OwnE w base v l) (hb : Below w.heap.size w w') : OwnE w' base v l := own_below h hb (fun k hk => (h.lt k hk).2)
theorem OwnE.less {w : World} {b b' : Nat} {v : Value} {l : List It} (h : OwnE w b v l) (hb : b' ≤ b) : OwnE w b' v l := own_less h hb
theorem OwnE.form {w : World} {base : Nat} {v : Value} {l : List It} (h : OwnE w base v l) : ∃ A n c, v = .slice A n c ∧ n = l.length := rowForm h
theorem SrcE.below {w w' : World} {n : Nat} {A : Option Addr} {l : List It} (h : SrcE w A l) (hb : Below w.heap.size w w') : SrcE w' A l := fun hp => by
  obtain ⟨b, off, e, hc⟩ := h hp
  refine ⟨b, off, e, fun i u hu => ?_⟩
  have h0 := hc i u hu
  exact (hb.cell (p := ⟨b, off + i, none⟩) (World.block_lt_of_cell? w _ h0)).trans h0
theorem one_encs (l : List It) : ∀ u ∈ l.flatMap encIt, u.oneCell' = true := by
  intro u hu
  obtain ⟨x, _, hx⟩ := List.mem_flatMap.1 hu
  exact one_encIt x u hx
theorem len_encs (l : List It) : (l.flatMap encIt).length = l.length * 4 := by
  induction l with
  | nil => rfl
  | cons x l ih => rw [List.flatMap_cons, List.length_append, ih, List.length_cons]; simp [encIt]; omega
theorem add_off (b off j : Nat) : (⟨b, off, none⟩ : Addr).add j = ⟨b, off + j, none⟩ := by unfold Addr.add; split <;> simp_all
theorem wp_append_E {o : Oper} {a : Act} {w : World} {K : Act → World → Prop} {Q : Exit → Act → World → Prop} (s x : Operand)
    (ho : o.op = .call { callee := .builtin .append, args := #[s, x], argTypes := #[42, 42] }) (base : Nat) (v : Value) (l : List It) (hs : a.eval s = v) (hown : OwnE w base v l)
    (A : Option Addr) (m : List It) (n c : Nat) (hx : a.eval x = .slice A n c) (hn : n = m.length) (hr : SrcE w A m) (hlen : l.length + m.length ≤ 1000000) (hbase : base ≤ w.heap.size)
    (h : ∀ A' n' c' w', n' = (l ++ m).length → OwnE w' base (.slice A' n' c') (l ++ m) → Below base w w' → K (a.put o.dst (.slice A' n' c')) w') : o.wp Try.prog a w K Q := by
  subst hn
  obtain ⟨i0, hi, hz0, hz1, hz2⟩ := info_parts Try.info48
  have fin : ∀ v' w', OwnE w' base v' (l ++ m) → Below base w w' → K (a.put o.dst v') w' := fun v' w' h1 h2 => by
    obtain ⟨A', n', c', rfl, hn'⟩ := h1.form
    exact h A' n' c' w' hn' h1 h2
  cases A with
  | none =>
    have hm : m = [] := by
      rcases Nat.eq_zero_or_pos m.length with h0 | h0
      · exact List.eq_nil_of_length_eq_zero h0
      · obtain ⟨_, _, h', _⟩ := hr h0; cases h'
    subst hm
    have hrun := run_append_nilc (P := Try.prog) base 42 o.type 48 i0 4 Try.underlying42 hi hown c
    unfold Oper.wp
    simp [execOp, ho, resolve, invoke, builtin, hs, hx, hrun, Result.andThen]
    exact fin v w (by rw [List.append_nil]; exact hown) (Below.refl _ _)
  | some ad =>
    have hnews : ∀ j u, (m.flatMap encIt)[j]? = some u → w.cell? (ad.add j) = some u := fun j u hu => by
      have hp : 0 < m.length := by
        rcases Nat.eq_zero_or_pos m.length with h0 | h0
        · rw [List.eq_nil_of_length_eq_zero h0] at hu; simp at hu
        · exact h0
      obtain ⟨b, off, e, hc⟩ := hr hp
      have e' : ad = ⟨b, off, none⟩ := Option.some.inj e
      rw [e', add_off]
      exact hc j u hu
    refine wp_append_own w s x 42 ho base 48 i0 _ 4 48 Try.underlying42 hi hz0 hz1 hz2 rfl (by decide) v l.length _ hs hown ad m.length c (m.flatMap encIt) hx (len_encs m) hnews (one_encs m) (by unfold maxLen; omega) (by omega) hbase ?_
    intro v' w' h1 h2 _
    refine fin v' w' ?_ ((Below.refl base w).grown h2 hbase (fun j hj => (hown.lt j hj).1))
    unfold OwnE
    rw [List.length_append, List.flatMap_append]
    exact h1
theorem wpList_append_E {w : World} {ops : Array Oper} {rest : List Oper} {o : Oper} {a : Act} {Q : Exit → Act → World → Prop} (hgd : o.guard = Option.none) (s x : Operand)
    (ho : o.op = .call { callee := .builtin .append, args := #[s, x], argTypes := #[42, 42] }) (base : Nat) (v : Value) (l : List It) (hs : a.eval s = v) (hown : OwnE w base v l)
    (A : Option Addr) (m : List It) (n c : Nat) (hx : a.eval x = .slice A n c) (hn : n = m.length) (hr : SrcE w A m) (hlen : l.length + m.length ≤ 1000000) (hbase : base ≤ w.heap.size)
    (h : ∀ A' n' c' w', n' = (l ++ m).length → OwnE w' base (.slice A' n' c') (l ++ m) → Below base w w' → wpList Try.prog ops Q rest (a.put o.dst (.slice A' n' c')) w') : wpList Try.prog ops Q (o :: rest) a w :=
  wpList_plain hgd fun K hK => wp_append_E s x ho base v l hs hown A m n c hx hn hr hlen hbase fun A' n' c' w' h1 h2 h3 => hK _ _ (h A' n' c' w' h1 h2 h3)
theorem step_append_E {ops : Array Oper} {o : Oper} {ts : Array Value} {df : List Deferred} {w : World} {K : Act → World → Prop} {Q : Exit → Act → World → Prop} {E : Prop} (d : Nat) (hd : o.dst = some d) (hw : Region.wanted o (yielded ops ts) = true) (s x : Operand)
    (ho : o.op = .call { callee := .builtin .append, args := #[s, x], argTypes := #[42, 42] }) (base : Nat) (v : Value) (l : List It) (hs : Act.eval { tmps := ts, defers := df } s = v) (hown : OwnE w base v l)
    (A : Option Addr) (m : List It) (n c : Nat) (hx : Act.eval { tmps := ts, defers := df } x = .slice A n c) (hn : n = m.length) (hr : SrcE w A m) (hlen : l.length + m.length ≤ 1000000) (hbase : base ≤ w.heap.size)
    (h : ∀ A' n' c' w', n' = (l ++ m).length → OwnE w' base (.slice A' n' c') (l ++ m) → Below base w w' → K { tmps := ts.setIfInBounds d (.slice A' n' c'), defers := df } w') : if Region.wanted o (yielded ops (Act.tmps { tmps := ts, defers := df })) = true then Oper.wp Try.prog o { tmps := ts, defers := df } w K Q else E := by
  rw [if_pos hw]
  refine wp_append_E s x ho base v l hs hown A m n c hx hn hr hlen hbase fun A' n' c' w' h1 h2 h3 => ?_
  unfold Act.put
  rw [hd]
  exact h A' n' c' w' h1 h2 h3
/-- A whole variable is read first. -/
theorem takeLd {P : Program} {ops : Array Oper} {Q : Exit → Act → World → Prop} {md : Region.Mode} {S : World → Prop} {i d : Nat} {oi : Oper} {fuel : Nat} {listed : Array Bool} {ts : Array Value} {df : List Deferred} {w : World} (hi : ops[i]? = some oi) (hd : oi.dst = some d)
    (hs : Region.noSelect ops = true) (hf : Region.free md ops listed i = true) (hr : (Region.ready md ops listed).contains i = true) (hw : Region.wanted oi (yielded ops ts) = true)
    (ty : TypeId) (x : Operand) (ho : oi.op = .load ty x) (b o : Nat) (hx : Act.eval { tmps := ts, defers := df } x = .pointer (some ⟨b, o, none⟩)) (cs : List Value) (dd : TypeDesc) (hS' : ∀ w, S w → w.rangeAt b o cs)
    (hu : P.underlying ty = some dd) (hdd : dd.isRow = true) (hsz : (P.info? ty).map (·.size) = some cs.length) (hQ : ∀ c a w, Q (.panic c) (a.put oi.dst (.agg cs.toArray)) w → Q (.panic c) a w) (hS : S w)
    (h : wpAnyH P md ops Q S fuel (listed.setIfInBounds i true) { tmps := ts.setIfInBounds d (.agg cs.toArray), defers := df } w) : wpAnyH P md ops Q S (fuel + 1) listed { tmps := ts, defers := df } w := by
  refine wpAnyH_take hi hs hf hr hQ (yieldsIf_load_mid (a := { tmps := ts, defers := df }) hw ty x ho b o hx cs dd hS' hu hdd hsz) hS ?_
  unfold Act.put
  rw [hd]
  exact h
/-- One item, as it is built. -/
theorem OwnE.one (W : World) (k i n : Int) : OwnE (W.alloc (.cells #[.int .i64 k, .int .i64 i, .int .i64 n, .slice none 0 0] 48)) W.heap.size (.slice (some ⟨W.heap.size, 0, none⟩) 1 1) [⟨k, i, n, []⟩] :=
  ⟨rfl, .inr ⟨W.heap.size, 1, _, rfl, Nat.le_refl _, World.alloc_heap_new W _, Nat.le_refl _, by unfold maxLen; omega, rfl, rfl⟩⟩
/-- Numbers, as they are built. -/
theorem rd_built (W : World) (cs : Array Value) (zs : List Int) (h : cs = (zs.map (Value.int .i64)).toArray) : Rd .i64 (W.alloc (.cells cs 3)).heap.size (W.alloc (.cells cs 3)) (some ⟨W.heap.size, 0, none⟩) zs := fun hp => by
  subst h
  refine ⟨W.heap.size, 0, rfl, by simp, fun j hj => ?_⟩
  rw [cell_of_row _ W.heap.size (0 + j) _ 3 (0, 0) (World.alloc_heap_new W _), Nat.zero_add]
  simp [hj]

theorem bit_any (b : Bool) (w : World) : Calls Try.prog 38 #[.bool b] w fun e w' => e = .returned (.int .i64 (bitI b)) ∧ w' = w := by
  cases b
  all_goals
    go_enter Try.func38, Try.ntmps38
    go_wp2
    go_ret
    exact ⟨rfl, rfl⟩
/-- Numbers as fields, from one Id on. -/
def intsI : Int → List Int → List It
  | _, [] => []
  | id, z :: zs => intI id z :: intsI (id + 1) zs
theorem ints_len (zs : List Int) : ∀ id, (intsI id zs).length = zs.length := by
  induction zs with
  | nil => intro id; rfl
  | cons z zs ih => intro id; simp [intsI, ih]
theorem ints_snoc (zs : List Int) (z : Int) : ∀ id, intsI id (zs ++ [z]) = intsI id zs ++ [intI (id + zs.length) z] := by
  induction zs with
  | nil => intro id; simp [intsI]
  | cons y zs ih =>
    intro id
    simp only [List.cons_append, intsI, ih, List.length_cons]
    congr 4
    omega
set_option maxRecDepth 100000 in
set_option maxHeartbeats 4000000 in
theorem ints_any (id : Int) (h0 : 0 ≤ id) (h1 : id ≤ 1000) {a : Option Addr} {n cap : Nat} {zs : List Int} (hn : n = zs.length) (hlen : zs.length ≤ 100) {w : World} (hr : Rd .i64 w.heap.size w a zs) :
    Calls Try.prog 16 #[.int .i64 id, .slice a n cap] w (GotE (intsI id zs) w) := by
  have HN := Lib.hid hn
  have hn100 : n ≤ 100 := by omega
  have HR := Lib.hid hr
  clear hn hr
  go_enter Try.func16, Try.ntmps16
  go_wp2
  go_loopw [5, 6] (fun ov iv wr => ∃ (k m c : Nat) (A : Option Addr), k ≤ n ∧ iv = .int .i64 k ∧ ov = .slice A m c ∧ m = k ∧ OwnE wr w.heap.size ov (intsI id (zs.take k)) ∧ Below w.heap.size w wr) (fun _ iv _ => n - (intOf iv).toNat)
  case atStart => exact ⟨0, 0, 0, none, Nat.zero_le _, rfl, rfl, rfl, World.ownsRow_nil _ _ _ _, Below.refl _ _⟩
  case round =>
    obtain ⟨k, m, c, A, hk, rfl, rfl, hm, hown, hbel⟩ := hrel
    have HM := Lib.hid hm
    have HO := Lib.hid hown
    have HB := Lib.hid hbel
    clear hm hown hbel
    by_cases hlt : k < n
    · obtain ⟨b, off, rfl, hb, hc⟩ := HR.out (by have := HN.out; omega)
      have g0 := (HB.out.cell (p := ⟨b, off + k, none⟩) hb).trans (hc k (by have := HN.out; omega))
      obtain ⟨z, hz⟩ : ∃ z, zs[k]? = some z := ⟨_, List.getElem?_eq_getElem (by have := HN.out; omega)⟩
      rw [hz, Option.getD_some] at g0
      have hs : intsI id (zs.take (k + 1)) = intsI id (zs.take k) ++ [intI (id + k) z] := by
        rw [List.take_add_one, hz]
        simp only [Option.toList_some]
        rw [ints_snoc, List.length_take]
        congr 3
        have := HN.out
        omega
      have HS := Lib.hid hs
      have k0 : (0 : Int) ≤ (k : Int) := Int.natCast_nonneg _
      have k1 : (k : Int) < (n : Int) := by omega
      have kl : (intsI id (zs.take k)).length ≤ 100 := by rw [ints_len, List.length_take]; omega
      clear hc hz hs
      go_wp2_with (first
        | (at_builtin; refine wpList_append_E rfl _ _ rfl w.heap.size _ (intsI id (zs.take k)) rfl (HO.out.below ((Below.refl _ _).alloc (Nat.le_refl _) _)) _ [intI (id + k) z] 1 1 rfl rfl (OwnE.one wr 1 (id + k) z).src (by simp; omega) (by have := HB.out.size; simp; omega) ?_; intro A' n' c' w' hn' ho hb; rw [← HS.out] at hn' ho; have HN' := Lib.hid hn'; have HO' := Lib.hid ho; have HB' := Lib.hid ((HB.out.alloc HB.out.size _).trans hb); clear hn' ho hb))
      go_roundw
      case rel => exact ⟨k + 1, n', c', A', by omega, by go_num, rfl, by rw [HN'.out, ints_len, List.length_take]; have := HN.out; omega, HO'.out, HB'.out⟩
      case measure => simp [intOf]; omega
    · obtain rfl : n = k := by omega
      go_wp2
      go_ret
      have h := HO.out
      rw [List.take_of_length_le (by have := HN.out; omega)] at h
      exact ⟨A, m, c, rfl, by rw [ints_len]; exact HM.out.trans HN.out, h, HB.out⟩
set_option maxRecDepth 100000 in
set_option maxHeartbeats 4000000 in
theorem open_any (id : Int) {a : Option Addr} {n cap : Nat} {l : List It} (hn : n = l.length) (hlen : l.length ≤ 10000) {w : World} (hr : SrcE w a l) :
    Calls Try.prog 17 #[.int .i64 id, .slice a n cap] w (GotE (opI id l) w) := by
  have HN := Lib.hid hn
  have HR := Lib.hid hr
  have P1 : True := trivial
  clear hn hr
  go_enter Try.func17, Try.ntmps17
  go_wp2_with (first
    | (at_builtin; have _t := P1; refine wpList_append_E rfl _ _ rfl w.heap.size _ [⟨3, id, 0, []⟩] rfl (OwnE.one w 3 id 0) a l n cap rfl HN.out (HR.out.below (n := 0) ((Below.refl _ _).alloc (Nat.le_refl _) _)) (by simp; omega) (by simp) ?_; intro A1 n1 c1 w1 hn1 ho hb; have HO := Lib.hid ho; have HB := Lib.hid (((Below.refl w.heap.size w).alloc (Nat.le_refl _) _).trans hb); clear hn1 ho hb P1 _t)
    | (at_builtin; refine wpList_append_E rfl _ _ rfl w.heap.size _ ([⟨3, id, 0, []⟩] ++ l) rfl (HO.out.below ((Below.refl _ _).alloc (Nat.le_refl _) _)) _ [⟨4, 0, 0, []⟩] 1 1 rfl rfl (OwnE.one w1 4 0 0).src (by simp; omega) (by have := HB.out.size; simp; omega) ?_; intro A2 n2 c2 w2 hn2 ho hb; have HN2 := Lib.hid hn2; have HO2 := Lib.hid ho; have HB2 := Lib.hid ((HB.out.alloc HB.out.size _).trans hb); clear hn2 ho hb))
  go_ret
  have e : ([⟨3, id, 0, []⟩] ++ l) ++ [⟨4, 0, 0, []⟩] = opI id l := by simp [opI]
  have h1 := HN2.out
  have h2 := HO2.out
  rw [e] at h1 h2
  exact ⟨A2, n2, c2, rfl, h1, h2, HB2.out⟩
theorem idI_ints (x : IdT) : intsI 1 [x.dir, x.orig, x.kind, x.nr] = idI x := rfl
set_option maxRecDepth 100000 in
theorem idItems_any (x : IdT) (w : World) : Calls Try.prog 20 #[.agg #[.int .i64 x.dir, .int .i64 x.orig, .int .i64 x.kind, .int .i64 x.nr]] w (GotE (idI x) w) := by
  have HB := Lib.hid (((Below.refl w.heap.size w).alloc (Nat.le_refl _) (.cells #[.int .i64 x.dir, .int .i64 x.orig, .int .i64 x.kind, .int .i64 x.nr] 25)).alloc (by simp) (.cells #[.int .i64 x.dir, .int .i64 x.orig, .int .i64 x.kind, .int .i64 x.nr] 3))
  have hi := (ints_any 1 (by decide) (by decide) (n := 4) (cap := 4) (zs := [x.dir, x.orig, x.kind, x.nr]) rfl (by simp) (rd_built (w.alloc (.cells #[.int .i64 x.dir, .int .i64 x.orig, .int .i64 x.kind, .int .i64 x.nr] 25)) #[.int .i64 x.dir, .int .i64 x.orig, .int .i64 x.kind, .int .i64 x.nr] [x.dir, x.orig, x.kind, x.nr] rfl))
  rw [show (w.alloc (.cells #[.int .i64 x.dir, .int .i64 x.orig, .int .i64 x.kind, .int .i64 x.nr] 25)).heap.size = w.heap.size + 1 by simp] at hi
  have HI := Lib.hid hi
  clear hi
  go_enter Try.func20, Try.ntmps20
  go_wp2_with (go_at_call 16; refine HI.out.mono ?_; rintro e w1 ⟨A, n, c, rfl, hn, ho, hb⟩; have HN := Lib.hid hn; have HO := Lib.hid ho; have HB1 := Lib.hid hb; clear hn ho hb)
  go_ret
  have h1 := HN.out
  have h2 := HO.out
  rw [idI_ints] at h1 h2
  exact ⟨A, n, c, rfl, h1, h2.less (by simp; omega), HB.out.trans (HB1.out.mono (by simp; omega))⟩
end Go.Proofs.Ytjkibgnkkienbaa
