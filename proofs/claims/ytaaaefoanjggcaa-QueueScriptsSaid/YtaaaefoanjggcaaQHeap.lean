/-
  THE LIBRARY's HEAP: a job is put, one is turned, one is taken out.
-/
import Derived.Test.YtaaaefoanjggcaaQDown
namespace Go.Proofs.Ytaaaefoanjggcaa
set_option linter.unusedSimpArgs false
set_option linter.unusedVariables false
open Go.RowKit
theorem at_app {l : List Job} {x : Job} {i : Nat} (h : i < l.length) : at' (l ++ [x]) i = at' l i := at_of (by rw [List.getElem?_append_left h]; exact at_some h)
theorem at_last {l : List Job} {x : Job} : at' (l ++ [x]) l.length = x := at_of (by simp)
theorem at_set {l : List Job} {i m : Nat} {x : Job} (hi : i < l.length) : at' (l.set i x) m = if m = i then x else at' l m := by
  by_cases h : m = i
  · subst h; rw [if_pos rfl]; exact at_of (List.getElem?_set_self hi)
  · rw [if_neg h]; unfold at'; rw [List.getD_eq_getElem?_getD, List.getElem?_set_ne (fun e => h e.symm), ← List.getD_eq_getElem?_getD]
theorem upOk_app {l : List Job} {x : Job} (h : Ok l l.length) : UpOk (l ++ [x]) (l.length + 1) l.length := by
  refine ⟨fun c h0 hc hne => ?_, fun c h0 hc hp hj => by omega⟩
  rw [at_app (by omega), at_app (by omega)]
  exact h c h0 (by omega)
theorem downOk_set {l : List Job} {i : Nat} {x : Job} (h : Ok l l.length) (hi : i < l.length) : DownOk (l.set i x) l.length i i := by
  refine ⟨fun c h0 hc hp hor => ?_, fun c h0 hc hp h0i => ?_, Nat.le_refl _⟩
  · have hci : c ≠ i := hor.elim id (fun e => absurd rfl e)
    rw [at_set hi, at_set hi, if_neg hci, if_neg hp]
    exact h c h0 hc
  · rw [at_set hi, at_set hi, if_neg (by omega), if_neg (by omega)]
    have h1 := h c h0 hc
    rw [hp] at h1
    exact not_trans (h i h0i hi) h1
theorem downOk_swap {l : List Job} {i k : Nat} (h : Ok l (k + 1)) (hl : l.length = k + 1) (hi : i < k) : DownOk (swapL l i k) k i i := by
  have sw := fun m => at_swap (l := l) (i := i) (j := k) (by omega) (by omega) m
  refine ⟨fun c h0 hc hp hor => ?_, fun c h0 hc hp h0i => ?_, Nat.le_refl _⟩
  · have hci : c ≠ i := hor.elim id (fun e => absurd rfl e)
    rw [sw, sw, if_neg (by omega), if_neg hci, if_neg (by omega), if_neg hp]
    exact h c h0 (by omega)
  · rw [sw, sw, if_neg (by omega), if_neg (by omega), if_neg (by omega), if_neg (by omega)]
    have h1 := h c h0 (by omega)
    rw [hp] at h1
    exact not_trans (h i h0i (by omega)) h1
theorem split_last {l : List Job} {k : Nat} (h : l.length = k + 1) : l = l.take k ++ [at' l k] := by
  have e := List.take_add_one (l := l) (i := k)
  rw [at_some (by omega), List.take_of_length_le (by omega)] at e
  exact e
/-- A queue of the jobs l. -/
def Qu (W : World) (base qb mb n : Nat) (g : Option Nat) (l : List Job) : Prop := (∃ f, PI f l ∧ QP W base qb mb g n f l) ∧ Ok l l.length
theorem QP.len {W : World} {base qb mb n : Nat} {g : Option Nat} {f : Int → Option Int} {l : List Job} (h : QP W base qb mb g n f l) : l.length ≤ n ∧ n ≤ 1000000 ∧ l.length ≤ 1000000 := by
  obtain ⟨v, h⟩ := h
  have := h.len
  have := h.n
  omega
theorem eLen : ∀ args w, (callFunc 26 args).run Try.prog w = .ok (.enter 26 args) w := enters_of Try.func26 (by kernel_rfl) rfl
theorem ePush : ∀ args w, (callFunc 48 args).run Try.prog w = .ok (.enter 48 args) w := enters_of Try.func48 (by kernel_rfl) rfl
theorem ePop : ∀ args w, (callFunc 47 args).run Try.prog w = .ok (.enter 47 args) w := enters_of Try.func47 (by kernel_rfl) rfl
/-- Where a job was put. -/
def Put1 (w : World) (base qb mb n : Nat) (g : Option Nat) (l : List Job) (w' : World) : Prop := ∃ g' l', Nx w g g' ∧ Qu w' base qb mb n g' l' ∧ l'.Perm l ∧ Fr qb mb g w w'
theorem put1_of {w w1 w2 : World} {base qb mb n m : Nat} {g g' : Option Nat} {l l' : List Job} (hx : Nx w g g') (hf : Fr qb mb g w w1) (hm : Mv w1 base qb mb n g' l m l' w2) (ho : Ok l' m) (hl : l.length = m) : Put1 w base qb mb n g l w2 :=
  ⟨g', l', hx, ⟨hm.mem, by rw [hm.perm.length_eq, hl]; exact ho⟩, hm.perm, hf.trans2 hx hm.fr⟩
set_option maxHeartbeats 2000000 in
theorem push_any {base qb mb n : Nat} {g : Option Nat} {f : Int → Option Int} {l : List Job} (w : World) (h : QP w base qb mb g n f l) (ho : Ok l l.length) (x : Job) (hx : InI x.k) (hp : PI f (l ++ [x])) (hn : l.length < n) :
    Calls Try.prog 20 #[.iface 53 (.pointer (some ⟨qb, 0, none⟩)), .iface 54 (.agg #[.int .i64 x.k, .int .i64 x.a])] w fun e w' => e = .returned (.tuple #[]) ∧ Put1 w base qb mb n g (l ++ [x]) w' := by
  have m1 := mLen (some ⟨qb, 0, none⟩)
  have m2 := mPush (some ⟨qb, 0, none⟩)
  have e1 := eLen
  have e2 := ePush
  have hpu := hpush_any w h x hx hn
  have hbig := h.len
  have HUP := fun W g' (hW : QP W base qb mb g' n f (l ++ [x])) => up_any W W (l.length + 1) (Mv.refl (l.length + 1) hp hW) (by simp) (by simp; omega) l.length (by omega) (upOk_app ho)
  have HLEN := fun W g' (hW : QP W base qb mb g' n f (l ++ [x])) => hlen_any W hW
  have hll : (l ++ [x]).length = l.length + 1 := by simp
  simp only [hll] at HLEN
  have HLL := Lib.hid hll
  obtain ⟨len, hlen⟩ : ∃ len, l.length = len := ⟨_, rfl⟩
  rw [hlen] at HUP HLEN HLL hbig
  have HU := Lib.hid HUP
  have HN := Lib.hid HLEN
  clear HUP HLEN hll h ho hp hn hx hlen
  go_enter Try.func20, Try.ntmps20
  go_wp2_with (first
    | (go_at_fn 48; refine hpu.mono ?_; rintro e w1 ⟨rfl, g', hnx, hq, hfr⟩; have HQ := Lib.hid hq; have HNX := Lib.hid hnx; have HFR := Lib.hid hfr; clear hnx hq hfr)
    | (go_at_fn 26; refine (HN.out _ _ HQ.out).mono ?_; rintro e w2 ⟨rfl, rfl⟩)
    | (go_at_call 27; refine (HU.out _ _ HQ.out).mono ?_; rintro e w3 ⟨rfl, l', hmv, hok⟩; have HE := Lib.hid (put1_of HNX.out HFR.out hmv hok HLL.out); clear hmv hok))
  go_end0
  exact ⟨rfl, HE.out⟩
set_option maxHeartbeats 2000000 in
theorem fix_any {base qb mb n : Nat} {g : Option Nat} {f : Int → Option Int} {l : List Job} (w : World) (h : QP w base qb mb g n f l) (hp : PI f l) (i : Nat) (hi : i < l.length) (ho : DownOk l l.length i i) :
    Calls Try.prog 22 #[.iface 53 (.pointer (some ⟨qb, 0, none⟩)), .int .i64 i] w fun e w' => e = .returned (.tuple #[]) ∧ Put1 w base qb mb n g l w' := by
  have m1 := mLen (some ⟨qb, 0, none⟩)
  have e1 := eLen
  have hbig := h.len
  have hln := hlen_any w h
  have hdn := down_any w w l.length (Mv.refl l.length hp h) (Nat.le_refl _) (by omega) i hi ho
  have hup := fun W l' (hW : Mv w base qb mb n g l l.length l' W) (hu : UpOk l' l.length i) => up_any w W l.length hW (Nat.le_refl _) (by omega) i hi hu
  obtain ⟨len, hlen⟩ : ∃ len, l.length = len := ⟨_, rfl⟩
  rw [hlen] at hln hdn hup hbig
  have HU := Lib.hid hup
  have HL := Lib.hid hlen
  clear hup h hp ho hlen hi
  go_enter Try.func22, Try.ntmps22
  go_wp2_with (first
    | (go_at_fn 26; refine hln.mono ?_; rintro e w2 ⟨rfl, rfl⟩)
    | (go_at_call 28; refine hdn.mono ?_; rintro e w3 ⟨b, rfl, hend⟩; have HEND := Lib.hid hend; clear hend))
  · rename_i hb _ _
    obtain ⟨l', hmv, _, hu⟩ := HEND.out
    have hu2 := hu (by simpa using hb)
    refine (HU.out _ _ hmv hu2).mono ?_
    rintro e w4 ⟨rfl, l2, hmv, hok⟩
    have HE := Lib.hid (put1_of (.inl rfl) (Fr.refl _ _ _ _) hmv hok HL.out)
    go_wp2
    go_end0
    exact ⟨rfl, HE.out⟩
  · rename_i hb
    obtain ⟨l', hmv, hok, _⟩ := HEND.out
    have HE := Lib.hid (put1_of (.inl rfl) (Fr.refl _ _ _ _) hmv (hok (by simpa using hb)) HL.out)
    go_end0
    exact ⟨rfl, HE.out⟩
/-- Where a job was taken out; the map knows it yet. -/
def Out1 (w : World) (base qb mb n : Nat) (g : Option Nat) (l : List Job) (x : Job) (w' : World) : Prop := ∃ l' f', PI f' (l' ++ [x]) ∧ QP w' base qb mb g n f' l' ∧ Ok l' l'.length ∧ (l' ++ [x]).Perm l ∧ Fr qb mb g w w'
theorem ok_take {l : List Job} {k : Nat} (h : Ok l k) (hl : l.length = k + 1) : Ok (l.take k) (l.take k).length := by
  have e : (l.take k).length = k := by rw [List.length_take]; omega
  rw [e]
  intro c h0 hc
  have h1 : ∀ m, m < k → at' (l.take k) m = at' l m := fun m hm => at_of (by rw [List.getElem?_take_of_lt hm]; exact at_some (by omega))
  rw [h1 c hc, h1 _ (by omega)]
  exact h c h0 hc
theorem pop_of {w w1 w2 : World} {base qb mb n k : Nat} {g : Option Nat} {l l' : List Job} {x : Job} (hm : Mv w base qb mb n g l k l' w1) (ho : Ok l' k) (hl : l.length = k + 1) (hx : at' l' k = x) {f : Int → Option Int} (hp : PI f l') (hq : QP w2 base qb mb g n f (l'.take k)) (hf : Fr qb mb g w1 w2) : Out1 w base qb mb n g l x w2 := by
  have hl' : l'.length = k + 1 := by rw [hm.perm.length_eq, hl]
  have e := split_last hl'
  rw [hx] at e
  exact ⟨l'.take k, f, by rw [← e]; exact hp, hq, ok_take ho hl', by rw [← e]; exact hm.perm, hm.fr.trans hf⟩
theorem mv_pop {w w1 : World} {base qb mb n k : Nat} {g : Option Nat} {l l' : List Job} {x : Job} (hm : Mv w base qb mb n g l k l' w1) (ho : Ok l' k) (hl : l.length = k + 1) (hx : at' l' k = x) :
    Calls Try.prog 47 #[.pointer (some ⟨qb, 0, none⟩)] w1 fun e w' => e = .returned (.iface 54 (.agg #[.int .i64 x.k, .int .i64 x.a])) ∧ Out1 w base qb mb n g l x w' := by
  obtain ⟨f, hp, hq⟩ := hm.mem
  have hl' : l'.length = k + 1 := by rw [hm.perm.length_eq, hl]
  exact (hpop_any w1 hq k hl').mono fun e w' ⟨he, hq2, hf⟩ => ⟨by rw [he, hx], pop_of hm ho hl hx hp hq2 hf⟩
set_option maxHeartbeats 4000000 in
theorem remove_any {base qb mb n : Nat} {g : Option Nat} {l : List Job} (w : World) (h : Qu w base qb mb n g l) (i : Nat) (hi : i < l.length) :
    Calls Try.prog 29 #[.iface 53 (.pointer (some ⟨qb, 0, none⟩)), .int .i64 i] w fun e w' => e = .returned (.iface 54 (.agg #[.int .i64 (at' l i).k, .int .i64 (at' l i).a])) ∧ Out1 w base qb mb n g l (at' l i) w' := by
  have m1 := mLen (some ⟨qb, 0, none⟩)
  have m2 := mSwap (some ⟨qb, 0, none⟩)
  have m3 := mPop (some ⟨qb, 0, none⟩)
  have e1 := eLen
  have e2 := eSwap
  have e3 := ePop
  obtain ⟨⟨f, hp, hq⟩, ho⟩ := h
  have hbig := hq.len
  have hln := hlen_any w hq
  obtain ⟨k, hk⟩ : ∃ k, l.length = k + 1 := ⟨l.length - 1, by omega⟩
  rw [hk] at hln hi hbig ho
  have hc : ((k + 1 : Nat) : Int) = (k : Int) + 1 := by omega
  rw [hc] at hln
  obtain ⟨x, hx⟩ : ∃ x, at' l i = x := ⟨_, rfl⟩
  rw [hx]
  by_cases hik : i = k
  · subst hik
    have hpop := mv_pop (Mv.refl i hp hq) (fun c h0 hc => ho c h0 (by omega)) hk hx
    clear ho hp hq hk hc
    go_enter Try.func29, Try.ntmps29
    go_wp2_with (first
      | (go_at_fn 26; refine hln.mono ?_; rintro e w2 ⟨rfl, rfl⟩)
      | (go_at_fn 47; refine hpop.mono ?_; rintro e w3 ⟨rfl, ho1⟩))
    go_ret
    exact ⟨rfl, ho1⟩
  · have hd : ((k : Int) != (i : Int)) = true := by simp only [bne_iff_ne]; omega
    have hsw := mv_swap (m := k + 1) (Mv.refl (k + 1) hp hq) (by omega) i k (by omega) (by omega) hik
    have hds := downOk_swap (i := i) ho hk (by omega)
    have hsx : at' (swapL l i k) k = x := by rw [at_swap (by omega) (by omega), if_pos rfl, hx]
    have hsl : (swapL l i k).length = k + 1 := by rw [swapL_length, hk]
    have hdn := fun W (hW : Mv w base qb mb n g l (k + 1) (swapL l i k) W) => down_any (l := swapL l i k) W W k (by obtain ⟨f2, a2, b2⟩ := hW.mem; exact Mv.refl k a2 b2) (by omega) (by omega) i (by omega) hds
    have hup := fun W0 W l' (hW : Mv W0 base qb mb n g (swapL l i k) k l' W) (hu : UpOk l' k i) => up_any (l := swapL l i k) W0 W k hW (by omega) (by omega) i (by omega) hu
    have hfin : ∀ W0 W l' (hW0 : Mv w base qb mb n g l (k + 1) (swapL l i k) W0) (hW : Mv W0 base qb mb n g (swapL l i k) k l' W) (hu : Ok l' k), Calls Try.prog 47 #[.pointer (some ⟨qb, 0, none⟩)] W fun e w' => e = .returned (.iface 54 (.agg #[.int .i64 x.k, .int .i64 x.a])) ∧ Out1 w base qb mb n g l x w' := fun W0 W l' hW0 hW hu =>
      (mv_pop hW hu hsl (by rw [hW.keep k (Nat.le_refl _), hsx])).mono fun e w' ⟨he, hq2⟩ => ⟨he, by
        obtain ⟨l3, f3, a1, a2, a3, a4, a5⟩ := hq2
        exact ⟨l3, f3, a1, a2, a3, a4.trans hW0.perm, hW0.fr.trans a5⟩⟩
    have HS := Lib.hid hsw
    have HD := Lib.hid hdn
    have HU := Lib.hid hup
    have HF := Lib.hid hfin
    clear hsw hds hdn hup hfin hsx hsl ho hp hq hc hx hk hik
    go_enter Try.func29, Try.ntmps29
    go_wp2_with (first
      | (go_at_fn 26; refine hln.mono ?_; rintro e w2 ⟨rfl, rfl⟩)
      | (go_at_fn 49; refine HS.out.mono ?_; rintro e w3 ⟨rfl, hmv0⟩; have HM0 := Lib.hid hmv0; clear hmv0)
      | (go_at_call 28; refine (HD.out _ HM0.out).mono ?_; rintro e w4 ⟨b, rfl, hend⟩; have HEND := Lib.hid hend; clear hend))
    · rename_i hb _ _
      obtain ⟨l', hmv, _, hu⟩ := HEND.out
      have hu2 := hu (by simpa using hb)
      refine (HU.out _ _ _ hmv hu2).mono ?_
      rintro e w5 ⟨rfl, l2, hmv2, hok⟩
      have HP := HF.out _ _ _ HM0.out hmv2 hok
      clear hmv hmv2 hok hu hu2
      go_wp2_with (go_at_fn 47; refine HP.mono ?_; rintro e w6 ⟨rfl, ho1⟩)
      go_ret
      exact ⟨rfl, ho1⟩
    · have hb : (!b) = false := by assumption
      obtain ⟨l', hmv, hok, _⟩ := HEND.out
      have hok2 := hok (by simpa using hb)
      have HP := HF.out _ _ _ HM0.out hmv hok2
      clear hmv hok hok2
      go_wp2_with (go_at_fn 47; refine HP.mono ?_; rintro e w6 ⟨rfl, ho1⟩)
      go_ret
      exact ⟨rfl, ho1⟩
end Go.Proofs.Ytaaaefoanjggcaa
