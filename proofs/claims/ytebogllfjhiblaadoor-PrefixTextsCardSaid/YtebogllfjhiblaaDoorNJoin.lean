/-
  PREFIXES: a list joined: what the program answers, as soon as its sort does.
-/
import Derived.Test.YtebogllfjhiblaaDoorNAsc
namespace Go.Proofs.YtebogllfjhiblaaDoor
set_option linter.unusedVariables false
open Go.RowKit
theorem addR_ok : ∀ (st : List (Nat × Int)) (p : Nat × Int), (∀ q ∈ st, OkP q) → OkP p → (∀ q ∈ addR st p, OkP q) ∧ (addR st p).length ≤ st.length + 1
  | [], p, _, hp => ⟨fun q hq => by simp [addR] at hq; subst hq; exact hp, by simp [addR]⟩
  | q :: st, p, h, hp => by
    unfold addR
    split
    · exact ⟨h, by simp⟩
    · split
      · rename_i r hr
        have := addR_ok st r (fun x hx => h x (by simp [hx])) (unionP_ok (h q (by simp)).1 hr)
        exact ⟨this.1, by have := this.2; simp; omega⟩
      · exact ⟨fun x hx => by rcases List.mem_cons.1 hx with rfl | hx; exact hp; exact h x hx, by simp⟩
theorem fold_ok : ∀ (l st : List (Nat × Int)), (∀ q ∈ st, OkP q) → (∀ q ∈ l, OkP q) → (∀ q ∈ l.foldl addR st, OkP q) ∧ (l.foldl addR st).length ≤ st.length + l.length
  | [], st, h, _ => ⟨h, by simp⟩
  | p :: l, st, h, hl => by
    have h1 := addR_ok st p h (hl p (by simp))
    have h2 := fold_ok l (addR st p) h1.1 (fun q hq => hl q (by simp [hq]))
    rw [List.foldl_cons]
    exact ⟨h2.1, by have a := h1.2; have b := h2.2; simp; omega⟩
/-- The list joined, its last one first; its first one first. -/
def joinR (l : List (Nat × Int)) : List (Nat × Int) := (sortP (l.filter rightP)).foldl addR []
def joinP (l : List (Nat × Int)) : List (Nat × Int) := (joinR l).reverse
theorem sortP_perm (l : List (Nat × Int)) : (sortP l).Perm l := List.mergeSort_perm _ _
theorem sorted_ok {l : List (Nat × Int)} (hn : ∀ p ∈ l, p.1 < 4294967296) : (∀ q ∈ sortP (l.filter rightP), OkP q) ∧ (sortP (l.filter rightP)).length ≤ l.length := by
  have hp := sortP_perm (l.filter rightP)
  refine ⟨fun q hq => ?_, by rw [hp.length_eq]; exact List.length_filter_le _ _⟩
  have hm := List.mem_filter.1 (hp.mem_iff.1 hq)
  refine ⟨hn q hm.1, ?_⟩
  have h := hm.2
  unfold rightP at h
  simp only [Bool.and_eq_true] at h
  exact h.1
theorem OwnP.shape {W : World} {base n : Nat} {v : Value} {l : List (Nat × Int)} (h : OwnP W base v l) (hn : l.length = n) : ∃ A c, v = .slice A n c := by
  subst hn
  rcases h.form with ⟨e, hs⟩ | ⟨g, cap, e, _⟩
  · exact ⟨none, 0, by rw [e, hs]; rfl⟩
  · exact ⟨_, _, e⟩
structure JoinAt (W1 : World) (s : List (Nat × Int)) (k : Nat) (v : Value) (wr : World) : Prop where
  own : OwnP wr W1.heap.size v ((s.take k).foldl addR []).reverse
  bel : Below W1.heap.size W1 wr
theorem fold_take {s : List (Nat × Int)} {k : Nat} {p : Nat × Int} (h : s[k]? = some p) : (s.take (k + 1)).foldl addR [] = addR ((s.take k).foldl addR []) p := by
  rw [List.take_add_one, h, List.foldl_append]
  rfl
set_option maxHeartbeats 1600000 in
set_option maxRecDepth 100000 in
theorem join_any (a : Option Addr) (cap : Nat) (l : List (Nat × Int)) (hl : l.length ≤ 1000) (hn : ∀ p ∈ l, p.1 < 4294967296) (hs : SortOk (l.filter rightP)) (w : World) (hr : RdP w.heap.size w a l) :
    Calls Tryd.prog 27 #[.slice a l.length cap] w fun e w' => (∃ v', e = .returned v' ∧ OwnP w' w.heap.size v' (joinP l)) ∧ Below w.heap.size w w' := by
  have ha := asc_any a cap l hl hn hs w hr
  have hso := sorted_ok hn
  unfold joinP joinR
  generalize sortP (l.filter rightP) = s at *
  have HSO := Lib.hid hso
  have hls : s.length ≤ 1000 := by have := hso.2; omega
  obtain ⟨n, hnl⟩ : ∃ n, s.length = n := ⟨_, rfl⟩
  have HNL := Lib.hid hnl
  rw [hnl] at hls
  clear hn hs hr hso hnl
  go_enter Tryd.func27, Tryd.ntmps27
  go_wp2_with (go_at_call 39; refine ha.mono ?_; rintro e w1 ⟨⟨v1, rfl, ho⟩, hb1⟩; obtain ⟨A, c1, rfl⟩ := ho.shape HNL.out; have RD := Lib.hid ho.rd; have HB1 := Lib.hid hb1; have hat : JoinAt w1 s 0 (.slice none 0 0) w1 := ⟨OwnP.nil _ _, Below.refl _ _⟩; have HAT := Lib.hid hat; clear ho hb1 hat ha)
  go_loopw [3, 9] (fun v i wr => ∃ k : Nat, Hid (k ≤ n) ∧ i = .int .i64 k ∧ Hid (JoinAt w1 s k v wr)) (fun _ i _ => n - (intOf i).toNat)
  case atStart => exact ⟨0, Nat.zero_le _, rfl, HAT⟩
  case round =>
    obtain ⟨k, HK, rfl, HA⟩ := hrel
    clear HAT
    by_cases hlt : k < n
    · obtain ⟨p, hp⟩ : ∃ p, s[k]? = some p := ⟨_, List.getElem?_eq_getElem (by have := HNL.out; omega)⟩
      obtain ⟨b, off, ha, hbn, hc⟩ := RD.out (by have := HNL.out; omega)
      subst ha
      have c0 := keepC HA.out.bel hbn (hc k p hp).1
      have c1 := keepC HA.out.bel hbn (hc k p hp).2
      have HP := Lib.hid hp
      have hst := fold_ok (s.take k) [] (fun q hq => by simp at hq) (fun q hq => HSO.out.1 q (List.mem_of_mem_take hq))
      have had := add_any w1.heap.size u3 ((s.take k).foldl addR []) p hst.1 (HSO.out.1 p (List.mem_of_getElem? hp)) (by have := hst.2; simp at this; omega)
      have hsz := HA.out.bel.size
      clear hc hp hst
      go_wp2_with (go_at_call 40; refine (had _ (HA.out.own.alloc _) (by simp; omega)).mono ?_; rintro e w2 ⟨⟨v2, rfl, ho2⟩, hb2⟩; have HO2 := Lib.hid ho2; have HB2 := Lib.hid ((HA.out.bel.alloc hsz _).trans hb2); clear ho2 hb2)
      go_roundw
      case rel => exact ⟨k + 1, by unfold Hid; omega, by go_num, ⟨by rw [fold_take HP.out]; exact HO2.out, HB2.out⟩⟩
      case measure => simp [intOf]; omega
    · obtain rfl : k = n := by have := HK.out; omega
      have hf : s.take k = s := List.take_of_length_le (by have := HNL.out; omega)
      have ow := HA.out.own
      rw [hf] at ow
      have OW := Lib.hid (own_mono ow HB1.out.size)
      have BL := Lib.hid (HB1.out.trans (HA.out.bel.mono HB1.out.size))
      clear hf ow
      go_wp2
      go_ret
      exact ⟨⟨_, rfl, OW.out⟩, BL.out⟩
end Go.Proofs.YtebogllfjhiblaaDoor
