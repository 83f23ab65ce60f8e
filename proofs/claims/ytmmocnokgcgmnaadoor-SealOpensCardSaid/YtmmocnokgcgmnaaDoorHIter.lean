/-
  THE PROGRAM: the function that hands out the blocks of the padded bytes.
-/
import Derived.Test.YtmmocnokgcgmnaaDoorHRange
import Derived.Test.YtmmocnokgcgmnaaDoorHPad
import Derived.Stop.RegionWithIn
namespace Go.Proofs.YtmmocnokgcgmnaaDoor
open Go.RowKit Go.Shelf

theorem cut64_snoc (k : Nat) (l : List Nat) : cut64 (k + 1) l = cut64 k l ++ [(l.drop (64 * k)).take 64] := by
  induction k generalizing l with
  | zero => simp [cut64]
  | succ k ih =>
    rw [cut64, ih, cut64, List.drop_drop]
    simp
    congr 2
    omega
theorem padL_len {part : List Nat} (h : part.length < 64) (n : Nat) : (padL part n).length = 64 ∨ (padL part n).length = 128 := by
  have hb : (be (8 * n)).length = 8 := rfl
  simp only [padL, List.length_append, List.length_cons, List.length_replicate, hb]
  omega
theorem padL_lt {part : List Nat} (h : ∀ x ∈ part, x < 256) (n : Nat) : ∀ x ∈ padL part n, x < 256 := by
  intro x hx
  rcases List.mem_append.1 hx with hx | hx
  · exact h x hx
  · rcases List.mem_cons.1 hx with rfl | hx
    · decide
    · rcases List.mem_append.1 hx with hx | hx
      · rw [(List.mem_replicate.1 hx).2]; decide
      · simp only [be, List.mem_cons, List.not_mem_nil, or_false] at hx
        omega
theorem padL_split (b : List Nat) (n : Nat) : padL b n = b.take (64 * (b.length / 64)) ++ padL (b.drop (64 * (b.length / 64))) n := by
  have hl : (b.drop (64 * (b.length / 64))).length % 64 = b.length % 64 := by rw [List.length_drop]; omega
  unfold padL
  rw [hl, ← List.append_assoc, List.take_append_drop]
theorem take_lt {b : List Nat} (h : ∀ x ∈ b, x < 256) (i n : Nat) : ∀ x ∈ (b.drop i).take n, x < 256 := fun x hx => h x (List.mem_of_mem_drop (List.mem_of_mem_take hx))
def lenV : Value → Nat
  | .slice _ n _ => n
  | _ => 0
set_option maxHeartbeats 1600000 in
set_option maxRecDepth 100000 in
theorem blocks1_hands (Bs B bb off cap : Nat) (a : Option Addr) (b : List Nat) (hb : ∀ x ∈ b, x < 256) (hcap : b.length ≤ cap) (hlen : b.length ≤ 140737488355328) (w : World)
    (hBs : Boxed w Bs 23 (.slice a b.length cap)) (hne : Bs ≠ B) (hr : 0 < b.length → a = some ⟨bb, off, none⟩ ∧ bb < w.heap.size ∧ bb ≠ B ∧ ∀ (j x : Nat), b[j]? = some x → w.cell? ⟨bb, off + j, none⟩ = some (.int .u8 x)) (hB : B < w.heap.size) :
    Hands Fence.wide 2 Tryd.prog 39 #[.pointer (some ⟨Bs, 0, none⟩)] B (fun xs => xs.map Blk.bytes = cut64 ((padL b b.length).length / 64) (padL b b.length)) w := by
  intro l J W hW hJ hY h0
  have hs := hBs.lt
  have cBs : Boxed W Bs 23 (.slice a b.length cap) := (hW.block _ hs).trans hBs
  have hr' : 0 < b.length → a = some ⟨bb, off, none⟩ ∧ bb < W.heap.size ∧ bb ≠ B ∧ ∀ (j x : Nat), b[j]? = some x → W.cell? ⟨bb, off + j, none⟩ = some (.int .u8 x) := fun h => by
    obtain ⟨e, h1, h2, h3⟩ := hr h
    exact ⟨e, by have := hW.size; omega, h2, fun j x hx => (hW.cell (p := ⟨bb, off + j, none⟩) h1).trans (h3 j x hx)⟩
  have hBW : B < W.heap.size := by have := hW.size; omega
  clear hr hBs hs hB
  have cb := cBs.cell
  obtain ⟨L, hL⟩ : ∃ L, padL b b.length = L := ⟨_, rfl⟩
  have HL : Hid (Unit → padL b b.length = L) := fun _ => hL
  rw [hL]
  clear hL
  obtain ⟨i, hi⟩ : ∃ i, b.length / 64 = i := ⟨_, rfl⟩
  have hi64 : 64 * i ≤ b.length := by omega
  have hi65 : b.length < 64 * i + 64 := by omega
  refine callsIn_of_wp Tryd.func39 rfl trivial ?_ rfl
  simp only [Tryd.ntmps39, List.size_toArray, List.length_cons, List.length_nil, Nat.reduceAdd, Nat.reduceSub, Array.replicate_succ, Array.replicate_zero, List.push_toArray, List.append_toArray, List.nil_append, List.cons_append]
  gi_wp2
  obtain ⟨wh, hwh⟩ : ∃ wh, 64 * i = wh := ⟨_, rfl⟩
  rw [show (b.length : Int) - (b.length : Int) % 64 = (wh : Int) by omega]
  gi_loopw [4] (fun av wr => ∃ (k : Nat) (xs : List Blk), k ≤ i ∧ av = .int .i64 (64 * k : Nat) ∧ Hid (xs.map Blk.bytes = cut64 k L) ∧ J xs wr ∧ Hid (KeepB B W wr)) (fun av _ => wh - (intOf av).toNat)
  case atStart => exact ⟨0, [], Nat.zero_le _, rfl, rfl, h0, KeepB.refl _ _⟩
  case round =>
    obtain ⟨k, xs, hk, rfl, HX, hJx, HK⟩ := hrel
    have cB2 : wr.cell? ⟨Bs, 0, none⟩ = some (.slice a b.length cap) := cell_keepB HK.out cb hne
    have hBr : B < wr.heap.size := Nat.lt_of_lt_of_le hBW HK.out.1
    obtain ⟨at', hat⟩ : ∃ at', 64 * k = at' := ⟨_, rfl⟩
    by_cases hlt : k < i
    · obtain ⟨rfl, h1, h2, h3⟩ := hr' (by omega)
      have h3' : ∀ (j x : Nat), b[j]? = some x → wr.cell? ⟨bb, off + j, none⟩ = some (.int .u8 x) := fun j x hx => cell_keepB HK.out (h3 j x hx) h2
      have hbk : ((b.drop at').take 64).length = 64 := by rw [List.length_take, List.length_drop]; omega
      obtain ⟨X, hXe⟩ : ∃ X : Blk, X = ⟨bb, off + at', cap - at', (b.drop at').take 64, hbk, take_lt hb _ _⟩ := ⟨_, rfl⟩
      have hXt : X.there B wr := by
        rw [hXe]
        refine ⟨h2, Nat.lt_of_lt_of_le h1 HK.out.1, fun j y hy => ?_⟩
        rw [List.getElem?_take] at hy
        split at hy
        · rw [List.getElem?_drop] at hy
          have := h3' (at' + j) y hy
          rwa [← Nat.add_assoc] at this
        · cases hy
      have hXn : Hid ((xs ++ [X]).map Blk.bytes = cut64 (k + 1) L) := by
        have e : X.bytes = (L.drop (64 * k)).take 64 := by
          rw [hXe, ← HL.out (), hat]
          show (b.drop at').take 64 = _
          rw [padL, List.drop_append_of_le_length (by omega), List.take_append_of_le_length (by rw [List.length_drop]; omega)]
        unfold Hid
        rw [List.map_append, HX.out, cut64_snoc, List.map_singleton, e]
      obtain ⟨fn, tmps, assign, body, hy, hR⟩ := hY xs X wr hJx hXt
      have hen : X.enc = #[.slice (some ⟨bb, off + at', none⟩) 64 (cap - at')] := by rw [hXe]; rfl
      rw [hen] at hy
      clear hXe hXt h3 h3' h1 hen
      rw [hat]
      gi_wp2
      refine hR.mono ?_
      rintro e W3 ⟨rfl, hJ3, hK3⟩
      gi_wp2
      go_roundw
      case rel => exact ⟨k + 1, xs ++ [X], by omega, by congr 1; omega, hXn, hJ3, HK.out.trans hK3⟩
      case measure => simp [intOf]; omega
    · obtain rfl : k = i := by omega
      obtain rfl : at' = wh := by omega
      rw [hat]
      gi_wp2
      have hpl : (b.drop at').length = b.length - at' := List.length_drop
      have hpad : ∀ W : World, W.heap = wr.heap → Calls Tryd.prog 40 #[.slice (if cap = at' then a else Option.map (fun x => x.add at') a) (b.length - at') (cap - at'), .int .i64 b.length] W fun e w' => (∃ g, e = .returned (.slice (some ⟨g, 0, none⟩) (padL (b.drop at') b.length).length (padL (b.drop at') b.length).length) ∧ W.heap.size ≤ g ∧ Arr w' g 5 (u8s (padL (b.drop at') b.length))) ∧ Below W.heap.size W w' := by
        intro W1 hW1
        have h := padded_any (if cap = at' then a else Option.map (fun x => x.add at') a) (cap - at') (b.drop at') (by rw [hpl]; omega) (fun x hx => hb x (List.mem_of_mem_drop hx)) b.length (by omega) W1 (fun hp => by
          rw [hpl] at hp
          obtain ⟨rfl, h1, h2, h3⟩ := hr' (by omega)
          rw [if_neg (by omega)]
          refine ⟨bb, off + at', ?_, by rw [hW1]; exact Nat.lt_of_lt_of_le h1 HK.out.1, fun j x hx => ?_⟩
          · show some ((⟨bb, off, none⟩ : Addr).add at') = _
            congr 1
            unfold Addr.add
            split <;> simp_all
          · rw [List.getElem?_drop] at hx
            have e : W1.cell? ⟨bb, off + (at' + j), none⟩ = wr.cell? ⟨bb, off + (at' + j), none⟩ := by unfold World.cell?; rw [hW1]
            rw [Nat.add_assoc, e]
            exact cell_keepB HK.out (h3 _ _ hx) h2)
        rwa [hpl] at h
      have hsl : ∀ W : World, (Instr.slice 23 (.slice a b.length cap) (some (.int .i64 (at' : Nat))) none none).run Tryd.prog W = .ok (.slice (if cap = at' then a else Option.map (fun x => x.add at') a) (b.length - at') (cap - at')) W := by
        intro W
        have hle : at' ≤ b.length := by omega
        go_simp
      obtain ⟨A', hA'⟩ : ∃ A', (if cap = at' then a else Option.map (fun x => x.add at') a) = A' := ⟨_, rfl⟩
      obtain ⟨pn, hpn⟩ : ∃ pn, b.length - at' = pn := ⟨_, rfl⟩
      obtain ⟨pc, hpc⟩ : ∃ pc, cap - at' = pc := ⟨_, rfl⟩
      obtain ⟨P, hP⟩ : ∃ P, padL (b.drop at') b.length = P := ⟨_, rfl⟩
      have HP : Hid (Unit → padL (b.drop at') b.length = P) := fun _ => hP
      have HPL : Hid (Unit → (b.drop at').length = b.length - at') := fun _ => hpl
      rw [hA', hpn, hpc] at hsl
      rw [hA', hpn, hpc, hP] at hpad
      clear hA' hP hpl hr'
      gi_region_with (refine ⟨trivial, ?_⟩; refine (callsIn_wide.2 (hpad wr.drew rfl)).mono ?_; rintro e w3 ⟨⟨g, rfl, hg, hA⟩, hBl⟩)
      all_goals
        have hgr : wr.heap.size ≤ g := hg
        have hbw : Below wr.heap.size wr w3 := (Below.refl _ wr).drew.trans hBl
        have hJ3 : J xs w3 := hJ xs wr w3 none hJx ⟨hbw.os, hbw.tape, hbw.output, hbw.size, fun r hr _ => hbw.block r hr⟩ (fun r e => by cases e)
        have hgB : g ≠ B := by omega
        have HA := Lib.hid hA
        have HPlen : P.length = 64 ∨ P.length = 128 := by rw [← HP.out ()]; exact padL_len (by rw [HPL.out ()]; omega) _
        have hPlt : ∀ x ∈ P, x < 256 := by rw [← HP.out ()]; exact padL_lt (fun x hx => hb x (List.mem_of_mem_drop hx)) _
        have HLP : Hid (Unit → L = b.take (64 * k) ++ P) := fun _ => by rw [← HL.out (), ← HP.out (), padL_split, ← hat, ← hi]
        have hLd : ∀ m, L.drop (64 * (k + m)) = P.drop (64 * m) := fun m => by
          have e : (b.take (64 * k)).length = 64 * k := by rw [List.length_take]; omega
          rw [HLP.out (), Nat.mul_add, ← List.drop_drop, List.drop_left' e]
        have hLl : L.length / 64 = k + P.length / 64 := by
          rw [HLP.out (), List.length_append, List.length_take, Nat.min_eq_left (by omega)]; omega
        have HLd := Lib.hid hLd
        have HLl := Lib.hid hLl
        obtain ⟨q, hq⟩ : ∃ q, P.length = q := ⟨_, rfl⟩
        rw [hq]
        clear hA hBl hg hpad hsl hLd hLl
        go_simp
        gi_wp2
        gi_loopw [5] (fun ev wr => ∃ (m : Nat) (ys : List Blk) (ad : Option Addr), 64 * m ≤ q ∧ (64 * m < q → ad = some ⟨g, 64 * m, none⟩) ∧ ev = .slice ad (q - 64 * m) (q - 64 * m) ∧ Hid (ys.map Blk.bytes = cut64 (k + m) L) ∧ J ys wr ∧ Hid (KeepB B w3 wr)) (fun ev _ => lenV ev)
        case atStart => exact ⟨0, xs, some ⟨g, 0, none⟩, by omega, fun _ => rfl, rfl, HX, hJ3, KeepB.refl _ _⟩
        case round =>
          obtain ⟨m, ys, ad, hm, had, rfl, HY, hJy, HK3⟩ := hrel
          obtain ⟨o, ho⟩ : ∃ o, 64 * m = o := ⟨_, rfl⟩
          by_cases hlt2 : o < q
          · obtain rfl := had (by omega)
            have ho64 : o + 64 ≤ q := by omega
            have hAw : Arr wr g 5 (u8s P) := HA.out.keepB HK3.out hgB
            have hpb : ((P.drop o).take 64).length = 64 := by rw [List.length_take, List.length_drop]; omega
            obtain ⟨X, hXe⟩ : ∃ X : Blk, X = ⟨g, o, q - o, (P.drop o).take 64, hpb, take_lt hPlt _ _⟩ := ⟨_, rfl⟩
            have hXt : X.there B wr := by
              rw [hXe]
              refine ⟨hgB, hAw.lt, fun j y hy => ?_⟩
              rw [List.getElem?_take] at hy
              split at hy
              · rw [List.getElem?_drop] at hy
                show wr.cell? ⟨g, o + j, none⟩ = _
                rw [hAw.cell]
                exact u8s_get hy
              · cases hy
            have hXn : Hid ((ys ++ [X]).map Blk.bytes = cut64 (k + (m + 1)) L) := by
              have e : X.bytes = (L.drop (64 * (k + m))).take 64 := by
                rw [HLd.out m, ho, hXe]
              unfold Hid
              rw [List.map_append, HY.out, ← Nat.add_assoc, cut64_snoc, List.map_singleton, e]
            obtain ⟨fn, tmps, assign, body, hy, hR⟩ := hY ys X wr hJy hXt
            have hen : X.enc = #[.slice (some ⟨g, o, none⟩) 64 (q - o)] := by rw [hXe]; rfl
            rw [hen] at hy
            clear hXe hXt hen hAw hpb hPlt HA
            rw [ho]
            have hpos : 0 < q - o := by omega
            gi_wp2
            refine hR.mono ?_
            rintro e W4 ⟨rfl, hJ4, hK4⟩
            by_cases h64 : q - o = 64
            · gi_wp2
              go_roundw
              case rel => exact ⟨m + 1, ys ++ [X], some ⟨g, o, none⟩, by omega, fun h => absurd h (by omega), by rw [show q - 64 * (m + 1) = 0 by omega], hXn, hJ4, HK3.out.trans hK4⟩
              case measure => simp [lenV]; omega
            · gi_wp2
              go_roundw
              case rel => exact ⟨m + 1, ys ++ [X], some ⟨g, o + 64, none⟩, by omega, fun _ => by rw [← ho, Nat.mul_add], by rw [show q - 64 * (m + 1) = q - o - 64 by omega], hXn, hJ4, HK3.out.trans hK4⟩
              case measure => simp [lenV]; omega
          · have ho0 : q - o = 0 := by omega
            rw [ho, ho0]
            gi_wp2
            refine ⟨fun _ h => (by cases h), ?_⟩
            gi_wp2
            go_end0
            exact ⟨⟨_, rfl⟩, ys, by rw [HY.out, HLl.out, hq, show q / 64 = m by omega], hJy⟩
end Go.Proofs.YtmmocnokgcgmnaaDoor
