/-
  THE FINGERPRINT: the program's and the document's.
-/
import Derived.Test.YtmmocnokgcgmnaaDoorSHead
import Derived.Test.YtmmocnokgcgmnaaDoorSConcat
import Derived.ArgAppend
namespace Go.Proofs.YtmmocnokgcgmnaaDoor
open Go.RowKit
/-- Bytes put behind a slice without room: what came in is left alone. -/
theorem wpList_append_full {w : World} {ops : Array Oper} {rest : List Oper} {o : Oper} {a : Act} {Q : Exit → Act → World → Prop} {i0 : TypeInfo} (hi : Tryd.prog.info? 5 = some i0) (hz0 : i0.zero = some (.int .u8 0)) (hz1 : i0.size = 1) (hz2 : i0.bytes = 1) (hgd : o.guard = none) (s x : Operand)
    (ho : o.op = .call { callee := .builtin .append, args := #[s, x], argTypes := #[23, 23] }) {b off n : Nat} {l : List Nat} (hs : a.eval s = .slice (some ⟨b, off, none⟩) n n) (hl : l.length = n) (hrl : RdN w.heap.size w (some ⟨b, off, none⟩) l)
    {m c : Nat} {ad : Option Addr} {bs : List Nat} (hx : a.eval x = .slice ad m c) (hm : bs.length = m) (hr : RdN w.heap.size w ad bs) (hlen : l.length + bs.length ≤ 140737488355328)
    (h : ∀ ad' c' w', Hid (RdN w'.heap.size w' ad' (l ++ bs)) → Hid (Below w.heap.size w w') → wpList Tryd.prog ops Q rest (a.put o.dst (.slice ad' (l.length + bs.length) c')) w') : wpList Tryd.prog ops Q (o :: rest) a w := by
  have cells : ∀ {b0 o0 : Nat} {l0 : List Nat}, RdN w.heap.size w (some ⟨b0, o0, none⟩) l0 → ∀ j u, (u8s l0)[j]? = some u → w.cell? ((⟨b0, o0, none⟩ : Addr).add j) = some u := by
    intro b0 o0 l0 hr0 j u hu
    have hj' : (l0[j]?).map (fun n : Nat => Value.int .u8 (n : Int)) = some u := by rw [← hu]; simp [u8s]
    cases hx2 : l0[j]? with
    | none => rw [hx2] at hj'; cases hj'
    | some y =>
      rw [hx2] at hj'
      cases hj'
      obtain ⟨b', o', e, _, hc⟩ := hr0 (by have := (List.getElem?_eq_some_iff.1 hx2).1; omega)
      simp only [Option.some.injEq, Addr.mk.injEq] at e
      obtain ⟨rfl, rfl, _⟩ := e
      have := hc j y hx2
      rwa [show (⟨b0, o0, none⟩ : Addr).add j = ⟨b0, o0 + j, none⟩ by unfold Addr.add; split <;> simp_all]
  subst hm
  subst hl
  by_cases h0 : bs = []
  · subst h0
    refine wpList_plain hgd fun K hK => ?_
    have hrun : (Builtin.append_ #[23, 23] o.type #[.slice (some ⟨b, off, none⟩) l.length l.length, .slice ad ([] : List Nat).length c]).run Tryd.prog w = .ok (.slice (some ⟨b, off, none⟩) l.length l.length) w := by
      cases ad with
      | none => simp [Builtin.append_, run_underlying Tryd.underlying23, sizeOf, typeInfo, hi, Builtin.lenOf, Builtin.firstCells, storeCells]
      | some ad' => simp [Builtin.append_, run_underlying Tryd.underlying23, sizeOf, typeInfo, hi, Builtin.lenOf, Builtin.firstCells, storeCells, loadCells, loadCellsFrom]
    unfold Oper.wp
    simp [execOp, ho, resolve, invoke, builtin, hs, hx, Result.andThen]
    simp at hrun
    simp [hrun]
    refine hK _ _ ?_
    have hh := h (some ⟨b, off, none⟩) l.length w (by simpa [Hid] using hrl) (Below.refl _ _)
    simpa using hh
  · obtain ⟨bb, oo, rfl, _, _⟩ := hr (List.length_pos_iff.2 h0)
    have hp := List.length_pos_iff.2 h0
    obtain ⟨v', w', hrun, hown, hgr⟩ := run_append_arg_grows (P := Tryd.prog) w 23 o.type 5 i0 (.int .u8 0) 1 1 Tryd.underlying23 hi hz0 hz1 hz2 rfl (by decide) ⟨b, off, none⟩ l.length l.length (u8s l) (by rw [u8s_len, Nat.mul_one]) (cells hrl) ⟨bb, oo, none⟩ bs.length c (u8s bs) (by rw [u8s_len, Nat.mul_one]) (cells hr) (by omega) (by unfold maxLen; omega) (by omega)
    rw [← u8s_append, ← List.length_append] at hown
    obtain ⟨g, c', rfl, _, _, _, hrd⟩ := own_rd hown (by rw [List.length_append]; omega)
    refine Lib.wpList_append_run w hgd s x _ _ ho _ _ hs hx _ w' hrun ?_
    rw [List.length_append]
    exact h _ _ w' hrd ((Below.refl w.heap.size w).grown hgr (Nat.le_refl _) (fun k hk => by cases hk))
/-- The fingerprint, in numbers. -/
def printL (id : Int) (sec hd pk : List Nat) : List Nat := if id = 0 then List.replicate 16 0 else (macL sec (hd ++ pk)).take 16
theorem printL_len (id : Int) (sec hd pk : List Nat) : (printL id sec hd pk).length = 16 := by
  unfold printL
  split
  · simp
  · rw [List.length_take, show (macL sec (hd ++ pk)).length = 32 from rfl]; rfl
set_option maxHeartbeats 1600000 in
set_option maxRecDepth 100000 in
theorem fprint_any (id : Int) (sA : Option Addr) (sc : Nat) (sec : List Nat) (hsb : ∀ x ∈ sec, x < 256) (hsc : sec.length ≤ sc) (hsl : sec.length ≤ 1000000) (hb off : Nat) (hc : Nat) (hd : List Nat) (hdb : ∀ x ∈ hd, x < 256) (hdl : hd.length = 11) (hdc : 11 ≤ hc) (_ : hc ≤ 9223372036854775807)
    (pA : Option Addr) (pc : Nat) (pk : List Nat) (hpb : ∀ x ∈ pk, x < 256) (hpl : pk.length ≤ 900000) (w : World) (hrs : RdN w.heap.size w sA sec) (hrh : RdN w.heap.size w (some ⟨hb, off, none⟩) hd) (hrp : RdN w.heap.size w pA pk) (hT : Tabs w) :
    Calls Tryd.prog 13 #[.agg #[.int .i64 id, .slice sA sec.length sc], .slice (some ⟨hb, off, none⟩) 11 hc, .slice pA pk.length pc] w fun e w' => (∃ g c, e = .returned (.slice (some ⟨g, 0, none⟩) 16 c) ∧ 16 ≤ c ∧ RdN w'.heap.size w' (some ⟨g, 0, none⟩) (printL id sec hd pk)) ∧ Below w.heap.size w w' := by
  obtain ⟨i0, hi, hz0, hz1, hz2⟩ := info_parts Tryd.info5
  obtain ⟨X, hX⟩ : ∃ X, w.alloc (.cells #[.int .i64 id, .slice sA sec.length sc] 26) = X := ⟨_, rfl⟩
  have hBX : Below w.heap.size w X := by rw [← hX]; exact (Below.refl w.heap.size w).alloc (Nat.le_refl _) _
  have HBX := Lib.hid hBX
  have hXs : X.heap.size = w.heap.size + 1 := by rw [← hX]; simp
  have hcx : ∀ (i : Nat) (v : Value), [Value.int .i64 id, .slice sA sec.length sc][i]? = some v → ∀ W, Below X.heap.size X W → W.cell? ⟨w.heap.size, i, none⟩ = some v := fun i v hv W hW =>
    (hW.cell (p := ⟨w.heap.size, i, none⟩) (show w.heap.size < X.heap.size by omega)).trans (by rw [← hX]; exact (Arr.cell (Arr.new w 26 [.int .i64 id, .slice sA sec.length sc]) i).trans hv)
  have HCX := Lib.hid hcx
  have ci : X.cell? ⟨w.heap.size, 0, none⟩ = some (.int .i64 id) := HCX.out 0 _ rfl _ (Below.refl _ _)
  have hrsX := Lib.hid ((hrs.below hBX (Nat.le_refl _)).mono hBX.size)
  have hrhX := Lib.hid ((hrh.below hBX (Nat.le_refl _)).mono hBX.size)
  have hrpX := Lib.hid ((hrp.below hBX (Nat.le_refl _)).mono hBX.size)
  have hTX := Lib.hid (hT.below hBX hT.pos)
  have HLE : Hid (w.heap.size ≤ X.heap.size) := by unfold Hid; omega
  clear hcx hBX hXs hrs hrh hrp
  by_cases h0 : id = 0
  · have hmk : ∀ W, (Instr.makeSlice 23 (.int .i64 16) (.int .i64 16)).run Tryd.prog W = .ok (.slice (some ⟨W.heap.size, 0, none⟩) 16 16) (W.alloc (.cells (u8s (List.replicate 16 0)).toArray 5)) := fun W => run_make_u8 (P := Tryd.prog) Tryd.underlying23 hi hz0 hz1 hz2 (Nat.le_refl 16) (by omega) W
    subst h0
    go_enter Tryd.func13, Tryd.ntmps13
    go_wp2
    go_ret
    exact ⟨⟨X.heap.size, 16, rfl, Nat.le_refl _, RdN.arr (Arr.new X 5 (u8s (List.replicate 16 0))) (by simp)⟩, HBX.out.trans (((Below.refl X.heap.size X).alloc (Nat.le_refl _) _).mono HLE.out)⟩
  · have hhc : ¬ hc < 11 := by omega
    obtain ⟨M, hM⟩ : ∃ M, macL sec (hd ++ pk) = M := ⟨_, rfl⟩
    have hpr : printL id sec hd pk = M.take 16 := by unfold printL; rw [if_neg h0, hM]
    have hMl : M.length = 32 := by rw [← hM]; rfl
    have hmac := fun ad c W h1 h2 h3 => pmac_any sA sc sec hsb hsc hsl ad c (hd ++ pk) (fun x hx => (List.mem_append.1 hx).elim (hdb x) (hpb x)) (by rw [List.length_append, hdl]; omega) W h1 h2 h3
    rw [List.length_append, hdl, hM] at hmac
    rw [hpr]
    clear hM hpr
    go_enter Tryd.func13, Tryd.ntmps13
    go_wp2_with (at_builtin; refine wpList_append_full (l := hd) (bs := pk) hi hz0 hz1 hz2 rfl _ _ rfl rfl hdl hrhX.out rfl rfl hrpX.out (by omega) ?_)
    intro ad c1 w1 HR1 HB1
    have cs : w1.cell? ⟨w.heap.size, 1, none⟩ = some (.slice sA sec.length sc) := HCX.out 1 _ rfl _ HB1.out
    have hs1 := hmac ad c1 w1 ((hrsX.out.below HB1.out (Nat.le_refl _)).mono HB1.out.size) HR1.out (hTX.out.below HB1.out hTX.out.pos)
    clear hmac
    go_wp2_with (first
      | (go_at_call 25; refine hs1.mono ?_; rintro e w2 ⟨rfl, hb2⟩; have HB2 := Lib.hid (HB1.out.trans (hb2.mono HB1.out.size)); clear hb2)
      | (refine wpList_store_arr rfl 50 (.tmp 8) (.tmp 20) rfl w2.heap.size rfl rfl (show Arr _ w2.heap.size 50 (u8s (List.replicate 32 0)) from Arr.new w2 50 (u8s (List.replicate 32 0))) Tryd.size50 (by rw [u8s_len, hMl]) rfl (u8s_one _) ?_; intro W3 A3 B3 hsz3 O3; have HB3 := Lib.hid ((HB2.out.alloc HB2.out.size _).trans (B3.out.mono HB2.out.size)); have A4 := A3; clear A3 B3 O3 hsz3))
    go_ret
    have hr := (RdN.arr A4.out A4.out.lt).part 0 16
    rw [List.drop_zero] at hr
    exact ⟨⟨_, 32, rfl, by decide, hr⟩, HBX.out.trans (HB3.out.mono HLE.out)⟩
/-- What the document puts ahead: the same bytes. -/
theorem top_cells (k l r f : Nat) (h1 : k < 256) (h2 : l < 65536) (h3 : r < 65536) (h4 : f < 4294967296) : (u8s (headL k l r f)).toArray = #[.int .u8 161, .int .u8 247, .int .u8 (k : Nat), .int .u8 (l / 256 : Nat), .int .u8 (l % 256 : Nat), .int .u8 (r / 256 : Nat), .int .u8 (r % 256 : Nat), .int .u8 (f / 16777216 : Nat), .int .u8 (f / 65536 % 256 : Nat), .int .u8 (f / 256 % 256 : Nat), .int .u8 (f % 256 : Nat)] := by
  have e1 : k % 256 = k := by omega
  have e2 : l / 256 % 256 = l / 256 := by omega
  have e3 : r / 256 % 256 = r / 256 := by omega
  have e4 : f / 16777216 % 256 = f / 16777216 := by omega
  simp [headL, beN, u8s, List.range_succ, e1, e2, e3, e4]
set_option maxHeartbeats 1600000 in
set_option maxRecDepth 100000 in
theorem top_any (k l r f : Nat) (h1 : k < 256) (h2 : l < 65536) (h3 : r < 65536) (h4 : f < 4294967296) (w : World) :
    Calls Tryd.prog 27 #[.agg #[.int .i64 k, .int .i64 l, .int .i64 r, .int .i64 f]] w fun e w' => (∃ v', e = .returned v' ∧ Hid (w'.ownsRow w.heap.size 5 1 v' (headL k l r f).length (u8s (headL k l r f)))) ∧ Below w.heap.size w w' := by
  go_enter Tryd.func27, Tryd.ntmps27
  go_wp2
  go_ret
  have h := own_lit (w.alloc (.cells #[.int .i64 k, .int .i64 l, .int .i64 r, .int .i64 f] 28)) w.heap.size (by simp) (headL k l r f) (by rw [headL_len]; decide)
  rw [top_cells k l r f h1 h2 h3 h4, headL_len, show (w.alloc (.cells #[.int .i64 k, .int .i64 l, .int .i64 r, .int .i64 f] 28)).heap.size = w.heap.size + 1 by simp] at h
  rw [headL_len]
  exact ⟨⟨_, rfl, h⟩, ((Below.refl w.heap.size w).alloc (Nat.le_refl _) _).alloc (by simp) _⟩
theorem headL_lt (k l r f : Nat) : ∀ x ∈ headL k l r f, x < 256 := by
  intro x hx
  simp [headL, beN, List.range_succ] at hx
  omega
end Go.Proofs.YtmmocnokgcgmnaaDoor
