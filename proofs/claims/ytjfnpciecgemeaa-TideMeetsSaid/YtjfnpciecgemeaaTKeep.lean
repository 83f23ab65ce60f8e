/-
  THE PROGRAM'S keepNewer.
-/
import Derived.Test.YtjfnpciecgemeaaTMap
import Derived.Test.YtjfnpciecgemeaaTNew
namespace Go.Proofs.Ytjfnpciecgemeaa.ti
set_option linter.unusedSimpArgs false
set_option linter.unusedVariables false
open Go.RowKit
theorem fold_k {A l : List THd} {k : Nat} {h : THd} (hk : l[k]? = some h) : (l.take (k + 1)).foldl insT A = insT ((l.take k).foldl insT A) h := by
  rw [List.take_add_one, hk, List.foldl_append]
  rfl
theorem turned_below {w W W' : World} {n b : Nat} (h : Below n w W) (k : W.mapTurned W' b) (hb : n ≤ b) (hn : n ≤ W.heap.size) : Below n w W' := h.grown k.grown hn fun j e => by cases e; exact hb
/-- Ahead of a round: the map holds what was merged so far. -/
def StK (w0 W : World) (A : List THd) : Prop := MapT W w0.heap.size A ∧ Below w0.heap.size w0 W
theorem StK.step {w0 W W' : World} {A : List THd} (h : StK w0 W A) (k : Below W.heap.size W W') : StK w0 W' A := ⟨h.1.same (k.block _ h.1.lt), h.2.trans (k.mono h.2.size)⟩
theorem StK.alloc {w0 W : World} {A : List THd} (h : StK w0 W A) (o : Obj) : StK w0 (W.alloc o) A := h.step ((Below.refl _ _).alloc (Nat.le_refl _) _)
theorem StK.put {w0 W : World} {A : List THd} (h : StK w0 W A) (ha : AscT A) (hl : A.length < 9223372036854775807) {x : THd} (hx : okH x) (hf : ∀ y, findT A x.id = some y → 0 < newT x y) :
    ∃ W', (Instr.mapUpdate 64 (.map (some w0.heap.size)) (.agg #[.int .i64 x.id.d, .int .i64 x.id.o, .int .i64 x.id.k, .int .i64 x.id.n]) (.agg #[.int .i64 x.id.d, .int .i64 x.id.o, .int .i64 x.id.k, .int .i64 x.id.n, .int .i64 x.seq, .int .i64 x.life])).run Try.prog W = .ok () W' ∧ StK w0 W' (insT A x) := by
  obtain ⟨W', h1, h2, h3⟩ := h.1.put (by unfold maxLen; omega) hx
  exact ⟨W', h1, h2.perm (ins_rest ha hf).symm, turned_below h.2 h3 (Nat.le_refl _) h.2.size⟩
set_option maxHeartbeats 3200000 in
set_option maxRecDepth 100000 in
theorem keep_any (l A : List THd) (a : Option Addr) (ca : Nat) (w0 w : World) (hs : StK w0 w A) (hA : AscT A) (hr : RdT w0 a l) (hl : A.length + l.length ≤ 9223372036854775807) (hca : l.length ≤ ca) (hok : ∀ x ∈ l, okH x) (hoA : ∀ x ∈ A, okH x) :
    Calls Try.prog 25 #[.map (some w0.heap.size), .slice a l.length ca] w fun e w' => e = .returned (.tuple #[]) ∧ StK w0 w' (l.foldl insT A) := by
  obtain ⟨len, hlen⟩ : ∃ len, l.length = len := ⟨_, rfl⟩
  rw [hlen] at hl hca ⊢
  have HL := Lib.hid hlen
  have HS := Lib.hid hs
  have HA := Lib.hid hA
  have HR := Lib.hid hr
  have HO := Lib.hid hok
  have HOA := Lib.hid hoA
  have HNW := Lib.hid pnewer_any
  clear hs hA hr hlen hok hoA
  go_enter Try.func25, Try.ntmps25
  go_wp2
  go_loopw [10] (fun i wr => ∃ k : Nat, k ≤ len ∧ i = .int .i64 k ∧ RowKit.Hid (StK w0 wr ((l.take k).foldl insT A))) (fun i _ => len - (intOf i).toNat)
  case atStart => exact ⟨0, Nat.zero_le _, rfl, HS.out⟩
  case round =>
    obtain ⟨k, hk, rfl, HN⟩ := hrel
    by_cases hlt : k < len
    · obtain ⟨h, hh⟩ : ∃ h, l[k]? = some h := ⟨_, List.getElem?_eq_getElem (by have := HL.out; omega)⟩
      have hmem : h ∈ l := List.mem_of_getElem? hh
      have NX := Lib.hid (fold_k (A := A) hh)
      have OK := Lib.hid (HO.out h hmem)
      have OB : RowKit.Hid (∀ x ∈ (l.take k).foldl insT A, okH x) := fold_all (P := okH) _ HOA.out (fun y hy => HO.out y (List.mem_of_mem_take hy))
      have ASC : RowKit.Hid (AscT ((l.take k).foldl insT A)) := fold_asc _ HA.out
      have LB : RowKit.Hid (((l.take k).foldl insT A).length < 9223372036854775807) := by
        have := fold_len (l.take k) A
        have := List.length_take_le k l
        have := HL.out
        unfold RowKit.Hid
        omega
      obtain ⟨g0, o0, rfl, hg0, hr0, -⟩ := HR.out.at hh
      generalize (l.take k).foldl insT A = B at *
      have R0 : RowKit.Hid (wr.rangeAt g0 (o0 + k * 6) [.int .i64 h.id.d, .int .i64 h.id.o, .int .i64 h.id.k, .int .i64 h.id.n, .int .i64 h.seq, .int .i64 h.life]) := fun i v hv => (HN.out.2.cell (p := ⟨g0, _, none⟩) hg0).trans (hr0 i v hv)
      clear hh hmem hr0
      have x0 := mid_cell0 R0.out rfl
      have x1 := mid_cell R0.out 1 rfl
      have x2 := mid_cell R0.out 2 rfl
      have x3 := mid_cell R0.out 3 rfl
      have x4 := mid_cell R0.out 4 rfl
      have x5 := mid_cell R0.out 5 rfl
      have hlook := (HN.out.alloc (.cells #[.int .i64 h.id.d, .int .i64 h.id.o, .int .i64 h.id.k, .int .i64 h.id.n, .int .i64 h.seq, .int .i64 h.life] 34)).1.look OK.out.1
      cases hf : findT B h.id with
      | none =>
        rw [hf] at hlook
        have hlook2 : (Instr.lookup 64 (.map (some w0.heap.size)) (.agg #[.int .i64 h.id.d, .int .i64 h.id.o, .int .i64 h.id.k, .int .i64 h.id.n]) true).run Try.prog (wr.alloc (.cells #[.int .i64 h.id.d, .int .i64 h.id.o, .int .i64 h.id.k, .int .i64 h.id.n, .int .i64 h.seq, .int .i64 h.life] 34)) = .ok (.tuple #[.agg #[.int .i64 0, .int .i64 0, .int .i64 0, .int .i64 0, .int .i64 0, .int .i64 0], .bool false]) (wr.alloc (.cells #[.int .i64 h.id.d, .int .i64 h.id.o, .int .i64 h.id.k, .int .i64 h.id.n, .int .i64 h.seq, .int .i64 h.life] 34)) := hlook
        obtain ⟨W3, hput, hst⟩ := ((HN.out.alloc (.cells #[.int .i64 h.id.d, .int .i64 h.id.o, .int .i64 h.id.k, .int .i64 h.id.n, .int .i64 h.seq, .int .i64 h.life] 34)).alloc (.cells #[.int .i64 0, .int .i64 0, .int .i64 0, .int .i64 0, .int .i64 0, .int .i64 0] 34)).put ASC.out LB.out OK.out (fun y hy => by rw [hf] at hy; cases hy)
        have ST : RowKit.Hid (StK w0 W3 (insT B h)) := hst
        clear hlook hf hst
        go_wp2
        go_roundw
        case rel => exact ⟨k + 1, by omega, by go_num, by unfold RowKit.Hid; rw [NX.out]; exact ST.out⟩
        case measure => simp [intOf]; omega
      | some x =>
        rw [hf] at hlook
        have hlook2 : (Instr.lookup 64 (.map (some w0.heap.size)) (.agg #[.int .i64 h.id.d, .int .i64 h.id.o, .int .i64 h.id.k, .int .i64 h.id.n]) true).run Try.prog (wr.alloc (.cells #[.int .i64 h.id.d, .int .i64 h.id.o, .int .i64 h.id.k, .int .i64 h.id.n, .int .i64 h.seq, .int .i64 h.life] 34)) = .ok (.tuple #[.agg #[.int .i64 x.id.d, .int .i64 x.id.o, .int .i64 x.id.k, .int .i64 x.id.n, .int .i64 x.seq, .int .i64 x.life], .bool true]) (wr.alloc (.cells #[.int .i64 h.id.d, .int .i64 h.id.o, .int .i64 h.id.k, .int .i64 h.id.n, .int .i64 h.seq, .int .i64 h.life] 34)) := hlook
        have HF := Lib.hid hf
        have OX : RowKit.Hid (okH x) := OB.out x (findT_is hf).1
        obtain ⟨nv, hnv⟩ : ∃ nv, newT h x = nv := ⟨_, rfl⟩
        have hnn := fun w => HNW.out h x OK.out.2.2 OX.out.2.2 w
        rw [hnv] at hnn
        have X0 : RowKit.Hid (∀ o, ((wr.alloc (.cells #[.int .i64 h.id.d, .int .i64 h.id.o, .int .i64 h.id.k, .int .i64 h.id.n, .int .i64 h.seq, .int .i64 h.life] 34)).alloc o).heap[wr.heap.size]? = some (.cells #[.int .i64 h.id.d, .int .i64 h.id.o, .int .i64 h.id.k, .int .i64 h.id.n, .int .i64 h.seq, .int .i64 h.life] 34 (0, 0))) := fun o => by rw [heap_alloc_old _ _ (by simp)]; exact heap_alloc_new wr _
        clear hlook hf
        by_cases hp : 0 < nv
        · have hd : decide (0 < nv) = true := decide_eq_true hp
          have HP : RowKit.Hid (0 < newT h x) := by unfold RowKit.Hid; rw [hnv]; exact hp
          clear hp hnv
          go_wp2_with (first
            | (go_at_call 15; (with_reducible refine (hnn _).mono ?_); rintro e w3 ⟨rfl, hfw⟩; have hb := (hfw.bel.block _ (by simp; omega)).trans (X0.out _); have c0 : w3.cell? ⟨wr.heap.size, 0, none⟩ = some (.int .i64 h.id.d) := (by simp [World.cell?, hb]); have c1 : w3.cell? ⟨wr.heap.size, 1, none⟩ = some (.int .i64 h.id.o) := (by simp [World.cell?, hb]); have c2 : w3.cell? ⟨wr.heap.size, 2, none⟩ = some (.int .i64 h.id.k) := (by simp [World.cell?, hb]); have c3 : w3.cell? ⟨wr.heap.size, 3, none⟩ = some (.int .i64 h.id.n) := (by simp [World.cell?, hb]); have c4 : w3.cell? ⟨wr.heap.size, 4, none⟩ = some (.int .i64 h.seq) := (by simp [World.cell?, hb]); have c5 : w3.cell? ⟨wr.heap.size, 5, none⟩ = some (.int .i64 h.life) := (by simp [World.cell?, hb]); obtain ⟨W4, hput, hst⟩ := (((HN.out.alloc _).alloc _).step hfw.bel).put ASC.out LB.out OK.out (fun y hy => by rw [HF.out] at hy; cases hy; exact HP.out); have ST := Lib.hid hst; clear hb hst hfw))
          go_roundw
          case rel => exact ⟨k + 1, by omega, by go_num, by unfold RowKit.Hid; rw [NX.out]; exact ST.out⟩
          case measure => simp [intOf]; omega
        · have hd : decide (0 < nv) = false := decide_eq_false hp
          have HP : RowKit.Hid (¬ 0 < newT h x) := by unfold RowKit.Hid; rw [hnv]; exact hp
          clear hp hnv
          go_wp2_with (first
            | (go_at_call 15; (with_reducible refine (hnn _).mono ?_); rintro e w3 ⟨rfl, hfw⟩; have ST := Lib.hid (((HN.out.alloc _).alloc _).step hfw.bel); clear hfw))
          go_roundw
          case rel => exact ⟨k + 1, by omega, by go_num, by unfold RowKit.Hid; rw [NX.out, ins_stays ASC.out HF.out (by have := HP.out; omega)]; exact ST.out⟩
          case measure => simp [intOf]; omega
    · obtain rfl : k = len := by omega
      have ST : RowKit.Hid (StK w0 wr (l.foldl insT A)) := by
        have := HN.out
        rw [← HL.out, List.take_length] at this
        exact this
      go_wp2
      go_end0
      exact ⟨rfl, ST.out⟩
end Go.Proofs.Ytjfnpciecgemeaa.ti
