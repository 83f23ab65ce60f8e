/-
  ZtpScripts: the law's walk.
-/
import Derived.Test.YtfdoldefdkijoaaZFix
import Derived.Deep.RegionHeld
namespace Go.Proofs.Ytfdoldefdkijoaa
set_option linter.unusedSimpArgs false
set_option linter.unusedVariables false
open Go.ChangeMaps Go.MapKept Go.Maps Go.RowKit
theorem takeD {P : Program} {ops : Array Oper} {Q : Exit → Act → World → Prop} {md : Region.Mode} {S : World → Prop} {i d : Nat} {oi : Oper} {v : Value} {fuel : Nat} {listed : Array Bool} {ts : Array Value} {df : List Deferred} {w : World} (hi : ops[i]? = some oi) (hd : oi.dst = some d)
    (hs : Region.noSelect ops = true) (hf : Region.free md ops listed i = true) (hr : (Region.ready md ops listed).contains i = true)
    (hQ : ∀ c a w, Q (.panic c) (a.put oi.dst v) w → Q (.panic c) a w) (hg : oi.guard = none) (hy : ∀ w, S w → (execOp (Act.eval { tmps := ts, defers := df }) oi).run P w = .ok (.value v) w) (hS : S w)
    (h : wpAnyH P md ops Q S fuel (listed.setIfInBounds i true) { tmps := ts.setIfInBounds d v, defers := df } w) : wpAnyH P md ops Q S (fuel + 1) listed { tmps := ts, defers := df } w := by
  refine wpAnyH_take hi hs hf hr hQ (.inl ⟨by simp [Region.wanted, hg], hy⟩) hS ?_
  unfold Act.put
  rw [hd]
  exact h
theorem takeG {P : Program} {ops : Array Oper} {Q : Exit → Act → World → Prop} {md : Region.Mode} {S : World → Prop} {i d : Nat} {oi : Oper} {v : Value} {fuel : Nat} {listed : Array Bool} {ts : Array Value} {df : List Deferred} {w : World} (hi : ops[i]? = some oi) (hd : oi.dst = some d)
    (hs : Region.noSelect ops = true) (hf : Region.free md ops listed i = true) (hr : (Region.ready md ops listed).contains i = true)
    (hQ : ∀ c a w, Q (.panic c) (a.put oi.dst v) w → Q (.panic c) a w) (hg : Region.wanted oi (yielded ops ts) = true) (hy : ∀ w, S w → (execOp (Act.eval { tmps := ts, defers := df }) oi).run P w = .ok (.value v) w) (hS : S w)
    (h : wpAnyH P md ops Q S fuel (listed.setIfInBounds i true) { tmps := ts.setIfInBounds d v, defers := df } w) : wpAnyH P md ops Q S (fuel + 1) listed { tmps := ts, defers := df } w := by
  refine wpAnyH_take hi hs hf hr hQ (.inl ⟨hg, hy⟩) hS ?_
  unfold Act.put
  rw [hd]
  exact h
theorem RefZ.mono {W : World} {base b rb : Nat} {z : ZtT} (h : RefZ W base rb z) (hb : b ≤ base) : RefZ W b rb z := by
  obtain ⟨v, h⟩ := h
  exact ⟨v, h.box, h.own.mono hb, Nat.le_trans hb h.le, Nat.le_trans hb h.base⟩
/-- Both nodes, the program's and the document's. -/
structure DZ (W0 : World) (pb rb : Nat) (z y : ZtT) (W : World) : Prop where
  p : ProgZ W W0.heap.size pb z
  r : RefZ W W0.heap.size rb y
  i : InvZ z
  j : InvZ y
  b : Below W0.heap.size W0 W
section
variable {W0 W W' : World} {pb rb kb : Nat} {z y : ZtT} {s : StepT}
theorem DZ.below (h : DZ W0 pb rb z y W) (k : Below W.heap.size W W') : DZ W0 pb rb z y W' := ⟨h.p.below k, h.r.below k, h.i, h.j, h.b.trans (k.mono h.b.size)⟩
theorem StepBx.keepO (h : StepBx W kb s) {ts : List TypeId} (q : KeepO ts W W') (ht : 33 ∉ ts) : StepBx W' kb s := q.2 _ _ (show NotT ts (Obj.cells #[.int .i64 s.d, .int .i64 s.link, .int .i64 s.level, .int .i64 s.now, .bool s.none] 33 (0, 0)) from ht) h
theorem dz_offer (h : DZ W0 pb rb z y W) (bx : StepBx W kb s) : Calls Try.prog 12 #[.pointer (some ⟨pb, 0, Option.none⟩), .int .i64 s.link, .int .i64 s.level, .bool s.none, .int .i64 s.now] W fun e w' => e = .returned (.int .i64 (offerZ z s.link s.level s.none s.now).1) ∧ DZ W0 pb rb (offerZ z s.link s.level s.none s.now).2 y w' ∧ StepBx w' kb s :=
  (poffer_any h.p h.i s.link s.level s.none s.now).mono fun e w' ⟨he, hp, hb, hk⟩ => ⟨he, ⟨hp, h.r.keep hk, offerZ_inv h.i _ _ _ _, h.j, h.b.trans hb⟩, bx.keep hk⟩
theorem dz_roffer (h : DZ W0 pb rb z y W) (bx : StepBx W kb s) : Calls Try.prog 13 #[.pointer (some ⟨rb, 0, Option.none⟩), .int .i64 s.link, .int .i64 s.level, .bool s.none, .int .i64 s.now] W fun e w' => e = .returned (.int .i64 (offerZ y s.link s.level s.none s.now).1) ∧ DZ W0 pb rb z (offerZ y s.link s.level s.none s.now).2 w' ∧ StepBx w' kb s :=
  (roffer_any h.r h.j s.link s.level s.none s.now).mono fun e w' ⟨he, hr, hb, hk⟩ => ⟨he, ⟨h.p.keep hk (by decide), hr, h.i, offerZ_inv h.j _ _ _ _, h.b.trans hb⟩, bx.keepO hk (by decide)⟩
theorem dz_tick (h : DZ W0 pb rb z y W) (bx : StepBx W kb s) : Calls Try.prog 14 #[.pointer (some ⟨pb, 0, Option.none⟩), .int .i64 s.now] W fun e w' => e = .returned (.int .i64 (tickZ z s.now).1) ∧ DZ W0 pb rb (tickZ z s.now).2 y w' ∧ StepBx w' kb s :=
  (ptick_any h.p h.i s.now).mono fun e w' ⟨he, hp, hb, hk⟩ => ⟨he, ⟨hp, h.r.keep hk, tickZ_inv h.i _, h.j, h.b.trans hb⟩, bx.keep hk⟩
theorem dz_rtick (h : DZ W0 pb rb z y W) (bx : StepBx W kb s) : Calls Try.prog 15 #[.pointer (some ⟨rb, 0, Option.none⟩), .int .i64 s.now] W fun e w' => e = .returned (.int .i64 (tickZ y s.now).1) ∧ DZ W0 pb rb z (tickZ y s.now).2 w' ∧ StepBx w' kb s :=
  (rtick_any h.r h.j s.now).mono fun e w' ⟨he, hr, hb, hk⟩ => ⟨he, ⟨h.p.keep hk (by decide), hr, h.i, tickZ_inv h.j _, h.b.trans hb⟩, bx.keepO hk (by decide)⟩
theorem dz_level (h : DZ W0 pb rb z y W) {n : Int} (hn : levelZ z = n) : Calls Try.prog 16 #[.pointer (some ⟨pb, 0, Option.none⟩)] W fun e w' => e = .returned (.int .i64 n) ∧ w' = W := by rw [← hn]; exact plevel_any h.p h.i
theorem dz_rlevel (h : DZ W0 pb rb z y W) {n : Int} (hn : levelZ y = n) : Calls Try.prog 17 #[.pointer (some ⟨rb, 0, Option.none⟩)] W fun e w' => e = .returned (.int .i64 n) ∧ w' = W := by rw [← hn]; exact rlevel_any h.r h.j.tk
theorem dz_best (h : DZ W0 pb rb z y W) (bx : StepBx W kb s) {n : Int} (hn : bestL z.L = n) : Calls Try.prog 18 #[.pointer (some ⟨pb, 0, Option.none⟩)] W fun e w' => e = .returned (.int .i64 n) ∧ DZ W0 pb rb z y w' ∧ StepBx w' kb s := by rw [← hn]; exact (pbest_any h.p h.i.nd).mono fun e w' ⟨he, hb⟩ => ⟨he, h.below hb, bx.keep (KeepP.below hb)⟩
theorem dz_rbest (h : DZ W0 pb rb z y W) {n : Int} (hn : bestL y.L = n) : Calls Try.prog 19 #[.pointer (some ⟨rb, 0, Option.none⟩)] W fun e w' => e = .returned (.int .i64 n) ∧ w' = W := by rw [← hn]; exact rbest_any h.r (by have := h.j.len; omega)
theorem dz_quiet (h : DZ W0 pb rb z y W) (bx : StepBx W kb s) (hk : InI s.link) {b : Bool} (hn : quietZ z s.link = b) : Calls Try.prog 20 #[.pointer (some ⟨pb, 0, Option.none⟩), .int .i64 s.link] W fun e w' => e = .returned (.bool b) ∧ DZ W0 pb rb z y w' ∧ StepBx w' kb s := by rw [← hn]; exact (pquiet_any h.p s.link hk).mono fun e w' ⟨he, hb⟩ => ⟨he, h.below hb, bx.keep (KeepP.below hb)⟩
theorem dz_rquiet (h : DZ W0 pb rb z y W) (bx : StepBx W kb s) {b : Bool} (hn : quietZ y s.link = b) : Calls Try.prog 21 #[.pointer (some ⟨rb, 0, Option.none⟩), .int .i64 s.link] W fun e w' => e = .returned (.bool b) ∧ DZ W0 pb rb z y w' ∧ StepBx w' kb s := by
  rw [← hn]
  refine (rquiet_any h.r (by have := h.j.len; omega) s.link).mono fun e w' ⟨he, n, hw⟩ => ?_
  subst hw
  have hb : Below W.heap.size W (W.drewN n) := ⟨rfl, rfl, rfl, Nat.le_refl _, fun _ _ => rfl⟩
  exact ⟨he, h.below hb, bx.keep (KeepP.below hb)⟩
end
set_option maxHeartbeats 3200000 in
set_option maxRecDepth 100000 in
theorem scr_bad (f : Int) (fa fb : Bool) (hk : ¬ kindB f fa fb) (a : Option Addr) (cap len : Nat) (hl : len ≤ 9223372036854775807) (w : World) : Calls Try.prog 3 #[.int .i64 f, .agg #[.bool fa, .bool fb], .slice a len cap] w fun e w' => e = .returned (.bool true) ∧ Below w.heap.size w w' := by
  have HK := Lib.hid hk
  have hbx : Below w.heap.size w (w.alloc (.cells #[.bool fa, .bool fb] 22)) := (Below.refl _ _).alloc (Nat.le_refl _) _
  have HBX := Lib.hid hbx
  have hawk := awake_any (w.alloc (.cells #[.bool fa, .bool fb] 22))
  have b0 : (w.alloc (.cells #[.bool fa, .bool fb] 22)).cell? ⟨w.heap.size, 0, none⟩ = some (.bool fa) := by simp
  have b1 : (w.alloc (.cells #[.bool fa, .bool fb] 22)).cell? ⟨w.heap.size, 1, none⟩ = some (.bool fb) := by simp
  have BC := Lib.hid (And.intro b0 b1)
  have hsz : w.heap.size < (w.alloc (.cells #[.bool fa, .bool fb] 22)).heap.size := by simp
  clear hbx b0 b1
  clear hk
  go_enter Try.func3, Try.ntmps3
  go_wp2_with (first
    | (go_at_call 9; refine hawk.mono ?_; rintro e w1 ⟨rfl, hb1⟩; have HB1 := Lib.hid (HBX.out.trans (hb1.mono HBX.out.size)); have hnew := pnew_law f fa fb w1; have c0 := (hb1.cell (p := ⟨w.heap.size, 0, none⟩) hsz).trans BC.out.1; have c1 := (hb1.cell (p := ⟨w.heap.size, 1, none⟩) hsz).trans BC.out.2; have hs1 := Nat.lt_of_lt_of_le hsz hb1.size; clear hb1)
    | (go_at_call 10; refine hnew.mono ?_; rintro e w2 ⟨_, hy⟩; obtain ⟨rfl, hz⟩ := hy HK.out; have e0 := (hz.cell (p := ⟨w.heap.size, 0, none⟩) hs1).trans c0; have e1 := (hz.cell (p := ⟨w.heap.size, 1, none⟩) hs1).trans c1; have HB2 := Lib.hid (HB1.out.trans (hz.mono HB1.out.size)); have hrn := rnew_any f fa fb w2; clear hz hy)
    | (go_at_call 11; refine hrn.mono ?_; rintro e w3 ⟨_, hy, hz⟩; obtain rfl := hy HK.out; have HB3 := Lib.hid (HB2.out.trans (hz.mono HB2.out.size)); clear hz hy))
  go_loopw [12] (fun i wr => i = .int .i64 0 ∧ wr = w3) (fun i _ => 0)
  case atStart => exact ⟨rfl, rfl⟩
  case round =>
    obtain ⟨rfl, rfl⟩ := hrel
    by_cases h0 : (0 : Int) < len
    · go_wp2
      go_ret
      exact ⟨rfl, HB3.out⟩
    · go_wp2
      go_ret
      exact ⟨rfl, HB3.out⟩
set_option maxHeartbeats 6400000 in
set_option maxRecDepth 100000 in
theorem scr_ok (f : Int) (hf : InI f) (fa fb : Bool) (a : Option Addr) (cap : Nat) (l : List StepT) (hn : l.length ≤ cap ∧ cap ≤ maxLen ∧ ∀ s ∈ l, okStep s) (hk : kindB f fa fb) (w : World) (hr : RdS w.heap.size w a l) : Calls Try.prog 3 #[.int .i64 f, .agg #[.bool fa, .bool fb], .slice a l.length cap] w fun e w' => e = .returned (.bool true) ∧ Below w.heap.size w w' := by
  have HK := Lib.hid hk
  have HI := Lib.hid (newZ_inv hk)
  have hbx : Below w.heap.size w (w.alloc (.cells #[.bool fa, .bool fb] 22)) := (Below.refl _ _).alloc (Nat.le_refl _) _
  have HBX := Lib.hid hbx
  have hawk := awake_any (w.alloc (.cells #[.bool fa, .bool fb] 22))
  have b0 : (w.alloc (.cells #[.bool fa, .bool fb] 22)).cell? ⟨w.heap.size, 0, none⟩ = some (.bool fa) := by simp
  have b1 : (w.alloc (.cells #[.bool fa, .bool fb] 22)).cell? ⟨w.heap.size, 1, none⟩ = some (.bool fb) := by simp
  have BC := Lib.hid (And.intro b0 b1)
  have hsz : w.heap.size < (w.alloc (.cells #[.bool fa, .bool fb] 22)).heap.size := by simp
  clear hbx b0 b1
  have hl : l.length ≤ 9223372036854775807 := by have := hn.1; have := hn.2.1; unfold maxLen at this; omega
  obtain ⟨len, hlen⟩ : ∃ len, l.length = len := ⟨_, rfl⟩
  have HL := Lib.hid hlen
  have HR := Lib.hid hr
  have HOK := Lib.hid hn.2.2
  rw [hlen] at hl ⊢
  clear hk hn hr hlen
  go_enter Try.func3, Try.ntmps3
  go_wp2_with (first
    | (go_at_call 9; refine hawk.mono ?_; rintro e w1 ⟨rfl, hb1⟩; have HB1 := Lib.hid (HBX.out.trans (hb1.mono HBX.out.size)); have hnew := pnew_law f fa fb w1; have c0 := (hb1.cell (p := ⟨w.heap.size, 0, none⟩) hsz).trans BC.out.1; have c1 := (hb1.cell (p := ⟨w.heap.size, 1, none⟩) hsz).trans BC.out.2; have hs1 := Nat.lt_of_lt_of_le hsz hb1.size; clear hb1)
    | (go_at_call 10; refine hnew.mono ?_; rintro e w2 ⟨hy, _⟩; obtain ⟨pb, rfl, hz⟩ := hy HK.out; have e0 := (hz.b.cell (p := ⟨w.heap.size, 0, none⟩) hs1).trans c0; have e1 := (hz.b.cell (p := ⟨w.heap.size, 1, none⟩) hs1).trans c1; have HZ := Lib.hid hz; have hrn := rnew_any f fa fb w2; clear hz hy)
    | (go_at_call 11; refine hrn.mono ?_; rintro e w3 ⟨hy, _, hb3⟩; obtain ⟨rfl, hrz⟩ := hy HK.out; have HD : Hid (DZ w1 pb w2.heap.size (newZ f fa fb) (newZ f fa fb) w3) := ⟨HZ.out.p.below hb3, hrz.mono HZ.out.b.size, HI.out, HI.out, HZ.out.b.trans (hb3.mono HZ.out.b.size)⟩; clear hy hb3 hrz))
  go_loopw [12] (fun i wr => ∃ (k : Nat) (z : ZtT), k ≤ len ∧ k ≤ 300 ∧ i = .int .i64 k ∧ Hid (DZ w1 pb w2.heap.size z z wr)) (fun i _ => len - (intOf i).toNat)
  case atStart => exact ⟨0, _, Nat.zero_le _, by omega, rfl, HD⟩
  case round =>
    obtain ⟨k, z, hk, hk2, rfl, HQ⟩ := hrel
    clear e0 e1 c0 c1 HD HZ HI HK BC HBX
    by_cases hlt : k < len
    · by_cases h150 : k < 300
      · obtain ⟨s, hs⟩ : ∃ s, l[k]? = some s := ⟨_, List.getElem?_eq_getElem (by have := HL.out; omega)⟩
        have hbw : Below w.heap.size w wr := HB1.out.trans (HQ.out.b.mono HB1.out.size)
        obtain ⟨bb, off, rfl, hc⟩ := RdR.at HR.out hs hbw
        have d0 := hc 0 _ rfl
        rw [Nat.add_zero] at d0
        have d1 := hc 1 _ rfl
        have d2 := hc 2 _ rfl
        have d3 := hc 3 _ rfl
        have d4 := hc 4 _ rfl
        have HS := Lib.hid (HOK.out s (List.mem_of_getElem? hs))
        have hbx := (Below.refl wr.heap.size wr).alloc (Nat.le_refl _) (.cells #[.int .i64 s.d, .int .i64 s.link, .int .i64 s.level, .int .i64 s.now, .bool s.none] 33)
        have DB := Lib.hid (HQ.out.below hbx)
        have XB := Lib.hid (StepBx.made wr s)
        clear hc hs hbw hbx
        cases q : (s.d == 0)
        · skip
          obtain ⟨z2, hz2⟩ : ∃ y, (tickZ z s.now).2 = y := ⟨_, rfl⟩
          obtain ⟨c2, hc2⟩ : ∃ y, (tickZ z s.now).1 = y := ⟨_, rfl⟩
          have HZE := Lib.hid hz2
          have HCE := Lib.hid hc2
          clear hz2 hc2
          go_wp2_with (first
            | (go_at_call 14; (with_reducible refine (dz_tick DB.out XB.out).mono ?_); rintro e w4 ⟨rfl, hd, hx⟩; have D3 := Lib.hid hd; have X3 := Lib.hid hx; obtain ⟨i0, i1, i2, i3, i4⟩ := hx.cells; clear hd hx)
            | (go_at_call 15; (with_reducible refine (dz_rtick D3.out X3.out).mono ?_); rintro e w5 ⟨rfl, hd, hx⟩; have HZ2 := Lib.hid hd; have X4 := Lib.hid hx; clear hd hx))
          rw [HCE.out]
          have hz := HZ2.out
          rw [HZE.out] at hz
          have D4 := Lib.hid hz
          clear hz D3 X3
          have D5 := Lib.hid (D4.out.below ((Below.refl _ _).drew))
          have X5 := Lib.hid (X4.out.keep (KeepP.below ((Below.refl _ _).drew)))
          have r5 := X5.out.cells.2.1
          obtain ⟨lv, hlv⟩ : ∃ n, levelZ z2 = n := ⟨_, rfl⟩
          obtain ⟨bs, hbs⟩ : ∃ n, bestL z2.L = n := ⟨_, rfl⟩
          obtain ⟨qt, hqt⟩ : ∃ n, quietZ z2 s.link = n := ⟨_, rfl⟩
          have HLV := Lib.hid hlv
          have HBS := Lib.hid hbs
          have HQT := Lib.hid hqt
          clear hlv hbs hqt
          refine wp_region_held_drew (S := fun W => W.cell? ⟨wr.heap.size, 1, none⟩ = some (.int .i64 s.link)) (by kernel_rfl) r5 (fun hS0 => ?_)
          refine takeD (i := 0) (d := 98) (v := ?vu0) rfl rfl (by kernel_rfl) (by kernel_rfl) (by kernel_rfl) (fun _ _ _ h => h) rfl ?hu0 (by assumption) ?ru0
          case hu0 =>
            intro w hSw
            go_simp
            try with_reducible rfl
          simp only [List.setIfInBounds_toArray, List.set_cons_zero, List.set_cons_succ]
          refine takeD (i := 1) (d := 99) (v := ?vu1) rfl rfl (by kernel_rfl) (by kernel_rfl) (by kernel_rfl) (fun _ _ _ h => h) rfl ?hu1 (by assumption) ?ru1
          case hu1 =>
            intro w hSw
            go_simp
            try with_reducible rfl
          simp only [List.setIfInBounds_toArray, List.set_cons_zero, List.set_cons_succ]
          refine takeD (i := 2) (d := 100) (v := ?vu2) rfl rfl (by kernel_rfl) (by kernel_rfl) (by kernel_rfl) (fun _ _ _ h => h) rfl ?hu2 (by assumption) ?ru2
          case hu2 =>
            intro w hSw
            go_simp
            try with_reducible rfl
          simp only [List.setIfInBounds_toArray, List.set_cons_zero, List.set_cons_succ]
          refine takeD (i := 3) (d := 101) (v := ?vu3) rfl rfl (by kernel_rfl) (by kernel_rfl) (by kernel_rfl) (fun _ _ _ h => h) rfl ?hu3 (by assumption) ?ru3
          case hu3 =>
            intro w hSw
            go_simp
            try with_reducible rfl
          simp only [List.setIfInBounds_toArray, List.set_cons_zero, List.set_cons_succ]
          refine takeG (i := 4) (d := 102) (v := ?vu4) rfl rfl (by kernel_rfl) (by kernel_rfl) (by kernel_rfl) (fun _ _ _ h => h) (by kernel_rfl) ?hu4 (by assumption) ?ru4
          case hu4 =>
            intro w hSw
            go_simp
            try with_reducible rfl
          simp only [List.setIfInBounds_toArray, List.set_cons_zero, List.set_cons_succ]
          refine takeG (i := 6) (d := 104) (v := ?vu6) rfl rfl (by kernel_rfl) (by kernel_rfl) (by kernel_rfl) (fun _ _ _ h => h) (by kernel_rfl) ?hu6 (by assumption) ?ru6
          case hu6 =>
            intro w hSw
            go_simp
            try with_reducible rfl
          simp only [List.setIfInBounds_toArray, List.set_cons_zero, List.set_cons_succ]
          refine wpAnyH_ready (rs := [5]) (by kernel_rfl) (by simp) ?_
          refine AllReadyH.cons rfl (fun K hK => ?_) AllReadyH.nil
          go_simp
          go_at_call 16
          with_reducible refine (dz_level D5.out HLV.out).mono ?_
          rintro e w25 ⟨rfl, rfl⟩
          go_simp
          refine hK.out _ _ r5 (fun hS5 => ?_)
          clear hK K
          refine wpAnyH_ready (rs := [7]) (by kernel_rfl) (by simp) ?_
          refine AllReadyH.cons rfl (fun K hK => ?_) AllReadyH.nil
          go_simp
          go_at_call 17
          with_reducible refine (dz_rlevel D5.out HLV.out).mono ?_
          rintro e w27 ⟨rfl, rfl⟩
          go_simp
          refine hK.out _ _ r5 (fun hS7 => ?_)
          clear hK K
          refine takeG (i := 8) (d := 106) (v := ?vu8) rfl rfl (by kernel_rfl) (by kernel_rfl) (by kernel_rfl) (fun _ _ _ h => h) (by kernel_rfl) ?hu8 (by assumption) ?ru8
          case hu8 =>
            intro w hSw
            go_simp
            try with_reducible rfl
          simp only [List.setIfInBounds_toArray, List.set_cons_zero, List.set_cons_succ]
          refine takeD (i := 9) (d := 107) (v := ?vu9) rfl rfl (by kernel_rfl) (by kernel_rfl) (by kernel_rfl) (fun _ _ _ h => h) rfl ?hu9 (by assumption) ?ru9
          case hu9 =>
            intro w hSw
            go_simp
            try with_reducible rfl
          simp only [List.setIfInBounds_toArray, List.set_cons_zero, List.set_cons_succ]
          refine takeD (i := 10) (d := 108) (v := ?vu10) rfl rfl (by kernel_rfl) (by kernel_rfl) (by kernel_rfl) (fun _ _ _ h => h) rfl ?hu10 (by assumption) ?ru10
          case hu10 =>
            intro w hSw
            go_simp
            try with_reducible rfl
          simp only [List.setIfInBounds_toArray, List.set_cons_zero, List.set_cons_succ]
          refine takeG (i := 11) (d := 109) (v := ?vu11) rfl rfl (by kernel_rfl) (by kernel_rfl) (by kernel_rfl) (fun _ _ _ h => h) (by kernel_rfl) ?hu11 (by assumption) ?ru11
          case hu11 =>
            intro w hSw
            go_simp
            try with_reducible rfl
          simp only [List.setIfInBounds_toArray, List.set_cons_zero, List.set_cons_succ]
          refine takeG (i := 13) (d := 111) (v := ?vu13) rfl rfl (by kernel_rfl) (by kernel_rfl) (by kernel_rfl) (fun _ _ _ h => h) (by kernel_rfl) ?hu13 (by assumption) ?ru13
          case hu13 =>
            intro w hSw
            go_simp
            try with_reducible rfl
          simp only [List.setIfInBounds_toArray, List.set_cons_zero, List.set_cons_succ]
          refine wpAnyH_ready (rs := [12]) (by kernel_rfl) (by simp) ?_
          refine AllReadyH.cons rfl (fun K hK => ?_) AllReadyH.nil
          go_simp
          go_at_call 18
          with_reducible refine (dz_best D5.out X5.out HBS.out).mono ?_
          rintro e w32 ⟨rfl, hd, hx⟩
          have D6 := Lib.hid hd
          have X6 := Lib.hid hx
          have r6 := hx.cells.2.1
          clear hd hx
          go_simp
          refine hK.out _ _ r6 (fun hS12 => ?_)
          clear hK K
          refine wpAnyH_ready (rs := [14]) (by kernel_rfl) (by simp) ?_
          refine AllReadyH.cons rfl (fun K hK => ?_) AllReadyH.nil
          go_simp
          go_at_call 19
          with_reducible refine (dz_rbest D6.out HBS.out).mono ?_
          rintro e w34 ⟨rfl, rfl⟩
          go_simp
          refine hK.out _ _ r6 (fun hS14 => ?_)
          clear hK K
          refine takeG (i := 15) (d := 113) (v := ?vu15) rfl rfl (by kernel_rfl) (by kernel_rfl) (by kernel_rfl) (fun _ _ _ h => h) (by kernel_rfl) ?hu15 (by assumption) ?ru15
          case hu15 =>
            intro w hSw
            go_simp
            try with_reducible rfl
          simp only [List.setIfInBounds_toArray, List.set_cons_zero, List.set_cons_succ]
          refine takeD (i := 16) (d := 114) (v := ?vu16) rfl rfl (by kernel_rfl) (by kernel_rfl) (by kernel_rfl) (fun _ _ _ h => h) rfl ?hu16 (by assumption) ?ru16
          case hu16 =>
            intro w hSw
            go_simp
            try with_reducible rfl
          simp only [List.setIfInBounds_toArray, List.set_cons_zero, List.set_cons_succ]
          refine takeD (i := 17) (d := 115) (v := ?vu17) rfl rfl (by kernel_rfl) (by kernel_rfl) (by kernel_rfl) (fun _ _ _ h => h) rfl ?hu17 (by assumption) ?ru17
          case hu17 =>
            intro w hSw
            go_simp
            try with_reducible rfl
          simp only [List.setIfInBounds_toArray, List.set_cons_zero, List.set_cons_succ]
          refine takeG (i := 18) (d := 116) (v := ?vu18) rfl rfl (by kernel_rfl) (by kernel_rfl) (by kernel_rfl) (fun _ _ _ h => h) (by kernel_rfl) ?hu18 (by assumption) ?ru18
          case hu18 =>
            intro w hSw
            go_simp
            try with_reducible rfl
          simp only [List.setIfInBounds_toArray, List.set_cons_zero, List.set_cons_succ]
          refine takeG (i := 19) (d := 117) (v := ?vu19) rfl rfl (by kernel_rfl) (by kernel_rfl) (by kernel_rfl) (fun _ _ _ h => h) (by kernel_rfl) ?hu19 (by assumption) ?ru19
          case hu19 =>
            intro w hSw
            go_simp
            try with_reducible rfl
          simp only [List.setIfInBounds_toArray, List.set_cons_zero, List.set_cons_succ]
          refine takeG (i := 20) (d := 118) (v := ?vu20) rfl rfl (by kernel_rfl) (by kernel_rfl) (by kernel_rfl) (fun _ _ _ h => h) (by kernel_rfl) ?hu20 (by assumption) ?ru20
          case hu20 =>
            intro w hSw
            go_simp
            try with_reducible rfl
          simp only [List.setIfInBounds_toArray, List.set_cons_zero, List.set_cons_succ]
          refine takeG (i := 22) (d := 120) (v := ?vu22) rfl rfl (by kernel_rfl) (by kernel_rfl) (by kernel_rfl) (fun _ _ _ h => h) (by kernel_rfl) ?hu22 (by assumption) ?ru22
          case hu22 =>
            intro w hSw
            go_simp
            try with_reducible rfl
          simp only [List.setIfInBounds_toArray, List.set_cons_zero, List.set_cons_succ]
          refine takeG (i := 23) (d := 121) (v := ?vu23) rfl rfl (by kernel_rfl) (by kernel_rfl) (by kernel_rfl) (fun _ _ _ h => h) (by kernel_rfl) ?hu23 (by assumption) ?ru23
          case hu23 =>
            intro w hSw
            go_simp
            try with_reducible rfl
          simp only [List.setIfInBounds_toArray, List.set_cons_zero, List.set_cons_succ]
          refine takeG (i := 24) (d := 122) (v := ?vu24) rfl rfl (by kernel_rfl) (by kernel_rfl) (by kernel_rfl) (fun _ _ _ h => h) (by kernel_rfl) ?hu24 (by assumption) ?ru24
          case hu24 =>
            intro w hSw
            go_simp
            try with_reducible rfl
          simp only [List.setIfInBounds_toArray, List.set_cons_zero, List.set_cons_succ]
          refine wpAnyH_ready (rs := [21]) (by kernel_rfl) (by simp) ?_
          refine AllReadyH.cons rfl (fun K hK => ?_) AllReadyH.nil
          go_simp
          go_at_call 20
          have hln := HS.out.1
          with_reducible refine (dz_quiet D6.out X6.out hln HQT.out).mono ?_
          rintro e w41 ⟨rfl, hd, hx⟩
          have D7 := Lib.hid hd
          have X7 := Lib.hid hx
          have r7 := hx.cells.2.1
          clear hd hx
          go_simp
          refine hK.out _ _ r7 (fun hS21 => ?_)
          clear hK K
          refine wpAnyH_ready (rs := [25]) (by kernel_rfl) (by simp) ?_
          refine AllReadyH.cons rfl (fun K hK => ?_) AllReadyH.nil
          go_simp
          go_at_call 21
          with_reducible refine (dz_rquiet D7.out X7.out HQT.out).mono ?_
          rintro e w45 ⟨rfl, hd, hx⟩
          have D8 := Lib.hid hd
          have X8 := Lib.hid hx
          have r8 := hx.cells.2.1
          clear hd hx
          go_simp
          refine hK.out _ _ r8 (fun hS25 => ?_)
          clear hK K
          refine takeG (i := 26) (d := 124) (v := ?vu26) rfl rfl (by kernel_rfl) (by kernel_rfl) (by kernel_rfl) (fun _ _ _ h => h) (by kernel_rfl) ?hu26 (by assumption) ?ru26
          case hu26 =>
            intro w hSw
            go_simp
            try with_reducible rfl
          simp only [List.setIfInBounds_toArray, List.set_cons_zero, List.set_cons_succ]
          refine takeD (i := 27) (d := 125) (v := ?vu27) rfl rfl (by kernel_rfl) (by kernel_rfl) (by kernel_rfl) (fun _ _ _ h => h) rfl ?hu27 (by assumption) ?ru27
          case hu27 =>
            intro w hSw
            go_simp
            try with_reducible rfl
          simp only [List.setIfInBounds_toArray, List.set_cons_zero, List.set_cons_succ]
          refine wpAnyH_done (by kernel_rfl) ?_ _
          clear hS0 hS5 hS7 hS12 hS14 hS21 hS25
          go_wp2
          go_roundw
          case rel => exact ⟨k + 1, z2, by omega, by omega, by go_num, D8⟩
          case measure => simp [intOf]; omega
        · skip
          obtain ⟨z2, hz2⟩ : ∃ y, (offerZ z s.link s.level s.none s.now).2 = y := ⟨_, rfl⟩
          obtain ⟨c2, hc2⟩ : ∃ y, (offerZ z s.link s.level s.none s.now).1 = y := ⟨_, rfl⟩
          have HZE := Lib.hid hz2
          have HCE := Lib.hid hc2
          clear hz2 hc2
          go_wp2_with (first
            | (go_at_call 12; (with_reducible refine (dz_offer DB.out XB.out).mono ?_); rintro e w4 ⟨rfl, hd, hx⟩; have D3 := Lib.hid hd; have X3 := Lib.hid hx; obtain ⟨i0, i1, i2, i3, i4⟩ := hx.cells; clear hd hx)
            | (go_at_call 13; (with_reducible refine (dz_roffer D3.out X3.out).mono ?_); rintro e w5 ⟨rfl, hd, hx⟩; have HZ2 := Lib.hid hd; have X4 := Lib.hid hx; clear hd hx))
          rw [HCE.out]
          have hz := HZ2.out
          rw [HZE.out] at hz
          have D4 := Lib.hid hz
          clear hz D3 X3
          have D5 := Lib.hid (D4.out.below ((Below.refl _ _).drew))
          have X5 := Lib.hid (X4.out.keep (KeepP.below ((Below.refl _ _).drew)))
          have r5 := X5.out.cells.2.1
          obtain ⟨lv, hlv⟩ : ∃ n, levelZ z2 = n := ⟨_, rfl⟩
          obtain ⟨bs, hbs⟩ : ∃ n, bestL z2.L = n := ⟨_, rfl⟩
          obtain ⟨qt, hqt⟩ : ∃ n, quietZ z2 s.link = n := ⟨_, rfl⟩
          have HLV := Lib.hid hlv
          have HBS := Lib.hid hbs
          have HQT := Lib.hid hqt
          clear hlv hbs hqt
          refine wp_region_held_drew (S := fun W => W.cell? ⟨wr.heap.size, 1, none⟩ = some (.int .i64 s.link)) (by kernel_rfl) r5 (fun hS0 => ?_)
          refine takeD (i := 0) (d := 98) (v := ?vt0) rfl rfl (by kernel_rfl) (by kernel_rfl) (by kernel_rfl) (fun _ _ _ h => h) rfl ?ht0 (by assumption) ?rt0
          case ht0 =>
            intro w hSw
            go_simp
            try with_reducible rfl
          simp only [List.setIfInBounds_toArray, List.set_cons_zero, List.set_cons_succ]
          refine takeD (i := 1) (d := 99) (v := ?vt1) rfl rfl (by kernel_rfl) (by kernel_rfl) (by kernel_rfl) (fun _ _ _ h => h) rfl ?ht1 (by assumption) ?rt1
          case ht1 =>
            intro w hSw
            go_simp
            try with_reducible rfl
          simp only [List.setIfInBounds_toArray, List.set_cons_zero, List.set_cons_succ]
          refine takeD (i := 2) (d := 100) (v := ?vt2) rfl rfl (by kernel_rfl) (by kernel_rfl) (by kernel_rfl) (fun _ _ _ h => h) rfl ?ht2 (by assumption) ?rt2
          case ht2 =>
            intro w hSw
            go_simp
            try with_reducible rfl
          simp only [List.setIfInBounds_toArray, List.set_cons_zero, List.set_cons_succ]
          refine takeD (i := 3) (d := 101) (v := ?vt3) rfl rfl (by kernel_rfl) (by kernel_rfl) (by kernel_rfl) (fun _ _ _ h => h) rfl ?ht3 (by assumption) ?rt3
          case ht3 =>
            intro w hSw
            go_simp
            try with_reducible rfl
          simp only [List.setIfInBounds_toArray, List.set_cons_zero, List.set_cons_succ]
          refine takeG (i := 4) (d := 102) (v := ?vt4) rfl rfl (by kernel_rfl) (by kernel_rfl) (by kernel_rfl) (fun _ _ _ h => h) (by kernel_rfl) ?ht4 (by assumption) ?rt4
          case ht4 =>
            intro w hSw
            go_simp
            try with_reducible rfl
          simp only [List.setIfInBounds_toArray, List.set_cons_zero, List.set_cons_succ]
          refine takeG (i := 6) (d := 104) (v := ?vt6) rfl rfl (by kernel_rfl) (by kernel_rfl) (by kernel_rfl) (fun _ _ _ h => h) (by kernel_rfl) ?ht6 (by assumption) ?rt6
          case ht6 =>
            intro w hSw
            go_simp
            try with_reducible rfl
          simp only [List.setIfInBounds_toArray, List.set_cons_zero, List.set_cons_succ]
          refine wpAnyH_ready (rs := [5]) (by kernel_rfl) (by simp) ?_
          refine AllReadyH.cons rfl (fun K hK => ?_) AllReadyH.nil
          go_simp
          go_at_call 16
          with_reducible refine (dz_level D5.out HLV.out).mono ?_
          rintro e w25 ⟨rfl, rfl⟩
          go_simp
          refine hK.out _ _ r5 (fun hS5 => ?_)
          clear hK K
          refine wpAnyH_ready (rs := [7]) (by kernel_rfl) (by simp) ?_
          refine AllReadyH.cons rfl (fun K hK => ?_) AllReadyH.nil
          go_simp
          go_at_call 17
          with_reducible refine (dz_rlevel D5.out HLV.out).mono ?_
          rintro e w27 ⟨rfl, rfl⟩
          go_simp
          refine hK.out _ _ r5 (fun hS7 => ?_)
          clear hK K
          refine takeG (i := 8) (d := 106) (v := ?vt8) rfl rfl (by kernel_rfl) (by kernel_rfl) (by kernel_rfl) (fun _ _ _ h => h) (by kernel_rfl) ?ht8 (by assumption) ?rt8
          case ht8 =>
            intro w hSw
            go_simp
            try with_reducible rfl
          simp only [List.setIfInBounds_toArray, List.set_cons_zero, List.set_cons_succ]
          refine takeD (i := 9) (d := 107) (v := ?vt9) rfl rfl (by kernel_rfl) (by kernel_rfl) (by kernel_rfl) (fun _ _ _ h => h) rfl ?ht9 (by assumption) ?rt9
          case ht9 =>
            intro w hSw
            go_simp
            try with_reducible rfl
          simp only [List.setIfInBounds_toArray, List.set_cons_zero, List.set_cons_succ]
          refine takeD (i := 10) (d := 108) (v := ?vt10) rfl rfl (by kernel_rfl) (by kernel_rfl) (by kernel_rfl) (fun _ _ _ h => h) rfl ?ht10 (by assumption) ?rt10
          case ht10 =>
            intro w hSw
            go_simp
            try with_reducible rfl
          simp only [List.setIfInBounds_toArray, List.set_cons_zero, List.set_cons_succ]
          refine takeG (i := 11) (d := 109) (v := ?vt11) rfl rfl (by kernel_rfl) (by kernel_rfl) (by kernel_rfl) (fun _ _ _ h => h) (by kernel_rfl) ?ht11 (by assumption) ?rt11
          case ht11 =>
            intro w hSw
            go_simp
            try with_reducible rfl
          simp only [List.setIfInBounds_toArray, List.set_cons_zero, List.set_cons_succ]
          refine takeG (i := 13) (d := 111) (v := ?vt13) rfl rfl (by kernel_rfl) (by kernel_rfl) (by kernel_rfl) (fun _ _ _ h => h) (by kernel_rfl) ?ht13 (by assumption) ?rt13
          case ht13 =>
            intro w hSw
            go_simp
            try with_reducible rfl
          simp only [List.setIfInBounds_toArray, List.set_cons_zero, List.set_cons_succ]
          refine wpAnyH_ready (rs := [12]) (by kernel_rfl) (by simp) ?_
          refine AllReadyH.cons rfl (fun K hK => ?_) AllReadyH.nil
          go_simp
          go_at_call 18
          with_reducible refine (dz_best D5.out X5.out HBS.out).mono ?_
          rintro e w32 ⟨rfl, hd, hx⟩
          have D6 := Lib.hid hd
          have X6 := Lib.hid hx
          have r6 := hx.cells.2.1
          clear hd hx
          go_simp
          refine hK.out _ _ r6 (fun hS12 => ?_)
          clear hK K
          refine wpAnyH_ready (rs := [14]) (by kernel_rfl) (by simp) ?_
          refine AllReadyH.cons rfl (fun K hK => ?_) AllReadyH.nil
          go_simp
          go_at_call 19
          with_reducible refine (dz_rbest D6.out HBS.out).mono ?_
          rintro e w34 ⟨rfl, rfl⟩
          go_simp
          refine hK.out _ _ r6 (fun hS14 => ?_)
          clear hK K
          refine takeG (i := 15) (d := 113) (v := ?vt15) rfl rfl (by kernel_rfl) (by kernel_rfl) (by kernel_rfl) (fun _ _ _ h => h) (by kernel_rfl) ?ht15 (by assumption) ?rt15
          case ht15 =>
            intro w hSw
            go_simp
            try with_reducible rfl
          simp only [List.setIfInBounds_toArray, List.set_cons_zero, List.set_cons_succ]
          refine takeD (i := 16) (d := 114) (v := ?vt16) rfl rfl (by kernel_rfl) (by kernel_rfl) (by kernel_rfl) (fun _ _ _ h => h) rfl ?ht16 (by assumption) ?rt16
          case ht16 =>
            intro w hSw
            go_simp
            try with_reducible rfl
          simp only [List.setIfInBounds_toArray, List.set_cons_zero, List.set_cons_succ]
          refine takeD (i := 17) (d := 115) (v := ?vt17) rfl rfl (by kernel_rfl) (by kernel_rfl) (by kernel_rfl) (fun _ _ _ h => h) rfl ?ht17 (by assumption) ?rt17
          case ht17 =>
            intro w hSw
            go_simp
            try with_reducible rfl
          simp only [List.setIfInBounds_toArray, List.set_cons_zero, List.set_cons_succ]
          refine takeG (i := 18) (d := 116) (v := ?vt18) rfl rfl (by kernel_rfl) (by kernel_rfl) (by kernel_rfl) (fun _ _ _ h => h) (by kernel_rfl) ?ht18 (by assumption) ?rt18
          case ht18 =>
            intro w hSw
            go_simp
            try with_reducible rfl
          simp only [List.setIfInBounds_toArray, List.set_cons_zero, List.set_cons_succ]
          refine takeG (i := 19) (d := 117) (v := ?vt19) rfl rfl (by kernel_rfl) (by kernel_rfl) (by kernel_rfl) (fun _ _ _ h => h) (by kernel_rfl) ?ht19 (by assumption) ?rt19
          case ht19 =>
            intro w hSw
            go_simp
            try with_reducible rfl
          simp only [List.setIfInBounds_toArray, List.set_cons_zero, List.set_cons_succ]
          refine takeG (i := 20) (d := 118) (v := ?vt20) rfl rfl (by kernel_rfl) (by kernel_rfl) (by kernel_rfl) (fun _ _ _ h => h) (by kernel_rfl) ?ht20 (by assumption) ?rt20
          case ht20 =>
            intro w hSw
            go_simp
            try with_reducible rfl
          simp only [List.setIfInBounds_toArray, List.set_cons_zero, List.set_cons_succ]
          refine takeG (i := 22) (d := 120) (v := ?vt22) rfl rfl (by kernel_rfl) (by kernel_rfl) (by kernel_rfl) (fun _ _ _ h => h) (by kernel_rfl) ?ht22 (by assumption) ?rt22
          case ht22 =>
            intro w hSw
            go_simp
            try with_reducible rfl
          simp only [List.setIfInBounds_toArray, List.set_cons_zero, List.set_cons_succ]
          refine takeG (i := 23) (d := 121) (v := ?vt23) rfl rfl (by kernel_rfl) (by kernel_rfl) (by kernel_rfl) (fun _ _ _ h => h) (by kernel_rfl) ?ht23 (by assumption) ?rt23
          case ht23 =>
            intro w hSw
            go_simp
            try with_reducible rfl
          simp only [List.setIfInBounds_toArray, List.set_cons_zero, List.set_cons_succ]
          refine takeG (i := 24) (d := 122) (v := ?vt24) rfl rfl (by kernel_rfl) (by kernel_rfl) (by kernel_rfl) (fun _ _ _ h => h) (by kernel_rfl) ?ht24 (by assumption) ?rt24
          case ht24 =>
            intro w hSw
            go_simp
            try with_reducible rfl
          simp only [List.setIfInBounds_toArray, List.set_cons_zero, List.set_cons_succ]
          refine wpAnyH_ready (rs := [21]) (by kernel_rfl) (by simp) ?_
          refine AllReadyH.cons rfl (fun K hK => ?_) AllReadyH.nil
          go_simp
          go_at_call 20
          have hln := HS.out.1
          with_reducible refine (dz_quiet D6.out X6.out hln HQT.out).mono ?_
          rintro e w41 ⟨rfl, hd, hx⟩
          have D7 := Lib.hid hd
          have X7 := Lib.hid hx
          have r7 := hx.cells.2.1
          clear hd hx
          go_simp
          refine hK.out _ _ r7 (fun hS21 => ?_)
          clear hK K
          refine wpAnyH_ready (rs := [25]) (by kernel_rfl) (by simp) ?_
          refine AllReadyH.cons rfl (fun K hK => ?_) AllReadyH.nil
          go_simp
          go_at_call 21
          with_reducible refine (dz_rquiet D7.out X7.out HQT.out).mono ?_
          rintro e w45 ⟨rfl, hd, hx⟩
          have D8 := Lib.hid hd
          have X8 := Lib.hid hx
          have r8 := hx.cells.2.1
          clear hd hx
          go_simp
          refine hK.out _ _ r8 (fun hS25 => ?_)
          clear hK K
          refine takeG (i := 26) (d := 124) (v := ?vt26) rfl rfl (by kernel_rfl) (by kernel_rfl) (by kernel_rfl) (fun _ _ _ h => h) (by kernel_rfl) ?ht26 (by assumption) ?rt26
          case ht26 =>
            intro w hSw
            go_simp
            try with_reducible rfl
          simp only [List.setIfInBounds_toArray, List.set_cons_zero, List.set_cons_succ]
          refine takeD (i := 27) (d := 125) (v := ?vt27) rfl rfl (by kernel_rfl) (by kernel_rfl) (by kernel_rfl) (fun _ _ _ h => h) rfl ?ht27 (by assumption) ?rt27
          case ht27 =>
            intro w hSw
            go_simp
            try with_reducible rfl
          simp only [List.setIfInBounds_toArray, List.set_cons_zero, List.set_cons_succ]
          refine wpAnyH_done (by kernel_rfl) ?_ _
          clear hS0 hS5 hS7 hS12 hS14 hS21 hS25
          go_wp2
          go_roundw
          case rel => exact ⟨k + 1, z2, by omega, by omega, by go_num, D8⟩
          case measure => simp [intOf]; omega
      · obtain rfl : k = 300 := by omega
        go_wp2
        go_ret
        exact ⟨rfl, HB1.out.trans (HQ.out.b.mono HB1.out.size)⟩
    · obtain rfl : k = len := by omega
      go_wp2
      go_ret
      exact ⟨rfl, HB1.out.trans (HQ.out.b.mono HB1.out.size)⟩
theorem scr_walk (f : Int) (hf : InI f) (fa fb : Bool) (a : Option Addr) (cap : Nat) (l : List StepT) (hn : l.length ≤ cap ∧ cap ≤ maxLen ∧ ∀ s ∈ l, okStep s) (w : World) (hr : RdS w.heap.size w a l) : Calls Try.prog 3 #[.int .i64 f, .agg #[.bool fa, .bool fb], .slice a l.length cap] w fun e w' => e = .returned (.bool true) ∧ Below w.heap.size w w' := by
  by_cases hk : kindB f fa fb
  · exact scr_ok f hf fa fb a cap l hn hk w hr
  · exact scr_bad f fa fb hk a cap l.length (by have := hn.1; have := hn.2.1; unfold maxLen at this; omega) w
end Go.Proofs.Ytfdoldefdkijoaa
