/-
  THE PROGRAM'S Answer to a packet that may be.
-/
import Derived.Test.YtjfnpciecgemeaaDAnsM
import Derived.Deep.RegionHeld
namespace Go.Proofs.Ytjfnpciecgemeaa.ti
set_option linter.unusedSimpArgs false
set_option linter.unusedVariables false
open Go.RowKit
theorem own_formN {W : World} {b : Nat} {v : Value} {l : List THd} (h : OwnH 34 W b v l) : ∃ (A : Option Addr) (n c : Nat), v = .slice A n c ∧ n = l.length ∧ n ≤ c := by
  obtain ⟨A, c, e, h1, _⟩ := h.toE.shape
  exact ⟨A, _, c, e, rfl, h1⟩
set_option maxHeartbeats 1600000 in
set_option maxRecDepth 100000 in
theorem counting_any (kind : Int) (lie : LieT) (tie : TieT) (f t : TId) (ae ar ah : Option Addr) (ce cr ch nh : Nat) (w : World) : Calls Try.prog 30 #[.agg #[.int .i64 kind, .int .i64 lie.node, .int .i64 lie.level, .int .i64 lie.pod, .int .i64 lie.mtu, .int .i64 lie.link, .int .i64 lie.nonce, .int .i64 lie.seen, .int .i64 lie.seenLink, .int .i64 lie.seenNonce, .int .i64 lie.hold, .bool lie.rep, .bool lie.noOffer, .int .i64 tie.head.id.dir, .int .i64 tie.head.id.orig, .int .i64 tie.head.id.kind, .int .i64 tie.head.id.nr, .int .i64 tie.head.seq, .int .i64 tie.head.life, .int .i64 tie.level, .bool tie.over, .slice ae tie.edges.length ce, .slice ar tie.reaches.length cr, .int .i64 f.d, .int .i64 f.o, .int .i64 f.k, .int .i64 f.n, .int .i64 t.d, .int .i64 t.o, .int .i64 t.k, .int .i64 t.n, .slice ah nh ch]] w fun e w' => e = .returned (.func (.func 42) #[] #[.pointer (some ⟨w.heap.size, 0, none⟩)]) ∧ w.alloc (.cells #[.int .i64 kind, .int .i64 lie.node, .int .i64 lie.level, .int .i64 lie.pod, .int .i64 lie.mtu, .int .i64 lie.link, .int .i64 lie.nonce, .int .i64 lie.seen, .int .i64 lie.seenLink, .int .i64 lie.seenNonce, .int .i64 lie.hold, .bool lie.rep, .bool lie.noOffer, .int .i64 tie.head.id.dir, .int .i64 tie.head.id.orig, .int .i64 tie.head.id.kind, .int .i64 tie.head.id.nr, .int .i64 tie.head.seq, .int .i64 tie.head.life, .int .i64 tie.level, .bool tie.over, .slice ae tie.edges.length ce, .slice ar tie.reaches.length cr, .int .i64 f.d, .int .i64 f.o, .int .i64 f.k, .int .i64 f.n, .int .i64 t.d, .int .i64 t.o, .int .i64 t.k, .int .i64 t.n, .slice ah nh ch] 40) = w' := by
  go_enter Try.func30, Try.ntmps30
  go_wp2
  go_ret
  exact ⟨rfl, rfl⟩
set_option maxHeartbeats 64000000 in
set_option maxRecDepth 100000 in
theorem answer_tide (own : List THd) (a : Option Addr) (ca : Nat) (kind : Int) (lie : LieT) (tie : TieT) (f t : TId) (hs : List THd) (ae ar ah : Option Addr) (ce cr ch nh : Nat) (w : World)
    (hp : Pk w.heap.size w ⟨kind, lie, tie, toId f, toId t, hs.map toH⟩ ae ar ah ce cr ch) (hr : rightW ⟨kind, lie, tie, toId f, toId t, hs.map toH⟩ = true) (hk3 : kind = 3)
    (hown : RdT w a own) (hol : own.length ≤ 4000) (hca : own.length ≤ ca) (hokO : ∀ x ∈ own, okH x) (hhs : RdT w ah hs) (hhl : hs.length ≤ 64) (hnh : nh = hs.length) (hch : nh ≤ ch) (hokH : ∀ x ∈ hs, okH x)
    (mine told both : List THd) (hmine : mergeT (own.filter fun x => cntB kind f t x.id) [] = mine) (htold : mergeT (hs.filter fun x => cntB kind f t x.id) [] = told) (hboth : mergeT mine told = both) :
    Calls Try.prog 13 #[.slice a own.length ca, .agg #[.int .i64 kind, .int .i64 lie.node, .int .i64 lie.level, .int .i64 lie.pod, .int .i64 lie.mtu, .int .i64 lie.link, .int .i64 lie.nonce, .int .i64 lie.seen, .int .i64 lie.seenLink, .int .i64 lie.seenNonce, .int .i64 lie.hold, .bool lie.rep, .bool lie.noOffer, .int .i64 tie.head.id.dir, .int .i64 tie.head.id.orig, .int .i64 tie.head.id.kind, .int .i64 tie.head.id.nr, .int .i64 tie.head.seq, .int .i64 tie.head.life, .int .i64 tie.level, .bool tie.over, .slice ae tie.edges.length ce, .slice ar tie.reaches.length cr, .int .i64 f.d, .int .i64 f.o, .int .i64 f.k, .int .i64 f.n, .int .i64 t.d, .int .i64 t.o, .int .i64 t.k, .int .i64 t.n, .slice ah nh ch]] w fun e w' => (∃ v1 v2 v3, e = .returned (.tuple #[v1, v2, v3]) ∧ OwnE 34 6 cellsT w' w.heap.size v1 (both.flatMap (askF mine told)) ∧ OwnE 24 4 cellsI w' w.heap.size v2 (both.flatMap (sendF (decide (kind = 3)) mine told)) ∧ OwnE 24 4 cellsI w' w.heap.size v3 (both.flatMap (knowF mine told))) ∧ Below w.heap.size w w' := by
  have hW : ∀ W, Below w.heap.size w W → Calls Try.prog 29 #[.agg #[.int .i64 kind, .int .i64 lie.node, .int .i64 lie.level, .int .i64 lie.pod, .int .i64 lie.mtu, .int .i64 lie.link, .int .i64 lie.nonce, .int .i64 lie.seen, .int .i64 lie.seenLink, .int .i64 lie.seenNonce, .int .i64 lie.hold, .bool lie.rep, .bool lie.noOffer, .int .i64 tie.head.id.dir, .int .i64 tie.head.id.orig, .int .i64 tie.head.id.kind, .int .i64 tie.head.id.nr, .int .i64 tie.head.seq, .int .i64 tie.head.life, .int .i64 tie.level, .bool tie.over, .slice ae tie.edges.length ce, .slice ar tie.reaches.length cr, .int .i64 f.d, .int .i64 f.o, .int .i64 f.k, .int .i64 f.n, .int .i64 t.d, .int .i64 t.o, .int .i64 t.k, .int .i64 t.n, .slice ah nh ch]] W fun e w' => e = .returned (.bool true) ∧ Below W.heap.size W w' := fun W hb => by
    have := wright_any ⟨kind, lie, tie, toId f, toId t, hs.map toH⟩ ae ar ah ce cr ch W ((hp.below hb).mono hb.size)
    rw [hr, show (PackT.heads ⟨kind, lie, tie, toId f, toId t, hs.map toH⟩).length = nh from (List.length_map ..).trans hnh.symm] at this
    exact this
  have hRG : ∀ W, Below (w.heap.size + 1) (w.alloc (.cells #[.int .i64 kind, .int .i64 lie.node, .int .i64 lie.level, .int .i64 lie.pod, .int .i64 lie.mtu, .int .i64 lie.link, .int .i64 lie.nonce, .int .i64 lie.seen, .int .i64 lie.seenLink, .int .i64 lie.seenNonce, .int .i64 lie.hold, .bool lie.rep, .bool lie.noOffer, .int .i64 tie.head.id.dir, .int .i64 tie.head.id.orig, .int .i64 tie.head.id.kind, .int .i64 tie.head.id.nr, .int .i64 tie.head.seq, .int .i64 tie.head.life, .int .i64 tie.level, .bool tie.over, .slice ae tie.edges.length ce, .slice ar tie.reaches.length cr, .int .i64 f.d, .int .i64 f.o, .int .i64 f.k, .int .i64 f.n, .int .i64 t.d, .int .i64 t.o, .int .i64 t.k, .int .i64 t.n, .slice ah nh ch] 40)) W → W.rangeAt w.heap.size 0 [.int .i64 kind, .int .i64 lie.node, .int .i64 lie.level, .int .i64 lie.pod, .int .i64 lie.mtu, .int .i64 lie.link, .int .i64 lie.nonce, .int .i64 lie.seen, .int .i64 lie.seenLink, .int .i64 lie.seenNonce, .int .i64 lie.hold, .bool lie.rep, .bool lie.noOffer, .int .i64 tie.head.id.dir, .int .i64 tie.head.id.orig, .int .i64 tie.head.id.kind, .int .i64 tie.head.id.nr, .int .i64 tie.head.seq, .int .i64 tie.head.life, .int .i64 tie.level, .bool tie.over, .slice ae tie.edges.length ce, .slice ar tie.reaches.length cr, .int .i64 f.d, .int .i64 f.o, .int .i64 f.k, .int .i64 f.n, .int .i64 t.d, .int .i64 t.o, .int .i64 t.k, .int .i64 t.n, .slice ah nh ch] ∧ W.cell? ⟨w.heap.size, 0, none⟩ = some (.int .i64 kind) ∧ W.cell? ⟨w.heap.size, 31, none⟩ = some (.slice ah nh ch) := fun W hb => by
    have h0 := (hb.block w.heap.size (by omega)).trans (heap_alloc_new w _)
    exact ⟨range_list h0, by simp [World.cell?, h0], by simp [World.cell?, h0]⟩
  have hPB : ∀ (V W : World), Below (V.heap.size + 1) (V.alloc (.cells #[.int .i64 kind, .int .i64 lie.node, .int .i64 lie.level, .int .i64 lie.pod, .int .i64 lie.mtu, .int .i64 lie.link, .int .i64 lie.nonce, .int .i64 lie.seen, .int .i64 lie.seenLink, .int .i64 lie.seenNonce, .int .i64 lie.hold, .bool lie.rep, .bool lie.noOffer, .int .i64 tie.head.id.dir, .int .i64 tie.head.id.orig, .int .i64 tie.head.id.kind, .int .i64 tie.head.id.nr, .int .i64 tie.head.seq, .int .i64 tie.head.life, .int .i64 tie.level, .bool tie.over, .slice ae tie.edges.length ce, .slice ar tie.reaches.length cr, .int .i64 f.d, .int .i64 f.o, .int .i64 f.k, .int .i64 f.n, .int .i64 t.d, .int .i64 t.o, .int .i64 t.k, .int .i64 t.n, .slice ah nh ch] 40)) W → PkBox W V.heap.size kind f t := fun V W hb => by
    have h0 := (hb.block V.heap.size (by omega)).trans (heap_alloc_new V _)
    refine ⟨?_, ?_, ?_, ?_, ?_, ?_, ?_, ?_, ?_, ?_⟩
    all_goals first | (simp [World.cell?, h0]; done) | (have := hb.size; simp at this; omega)
  obtain ⟨lo, hlo⟩ : ∃ lo, own.length = lo := ⟨_, rfl⟩
  have hC1 : ∀ (B : Nat) (W : World), Below w.heap.size w W → PkBox W B kind f t → Calls Try.prog 31 #[.slice a lo ca, .func (.func 42) #[] #[.pointer (some ⟨B, 0, none⟩)]] W fun e w' => (∃ v, e = .returned v ∧ OwnH 34 w' W.heap.size v mine) ∧ Below W.heap.size W w' := fun B W hb hB => by
    rw [← hlo, ← hmine]
    exact counted_any own a ca B kind f t W (hown.below hb) hol hca hokO hB
  have hC2 : ∀ (B : Nat) (W : World), Below w.heap.size w W → PkBox W B kind f t → Calls Try.prog 31 #[.slice ah nh ch, .func (.func 42) #[] #[.pointer (some ⟨B, 0, none⟩)]] W fun e w' => (∃ v, e = .returned v ∧ OwnH 34 w' W.heap.size v told) ∧ Below W.heap.size W w' := fun B W hb hB => by
    rw [hnh, ← htold]
    exact counted_any hs ah ch B kind f t W (hhs.below hb) (by omega) (by omega) hokH hB
  have hok1 : ∀ x ∈ mine, okH x := by
    rw [← hmine]
    exact fold_all (P := okH) _ (by simp) (fun x hx => hokO x (by simp at hx; exact hx.1))
  have hok2 : ∀ x ∈ told, okH x := by
    rw [← htold]
    exact fold_all (P := okH) _ (by simp) (fun x hx => hokH x (by simp at hx; exact hx.1))
  have hl1 : mine.length ≤ 4000 := by
    rw [← hmine]
    have := merge_len (own.filter fun x => cntB kind f t x.id) []
    have := List.length_filter_le (fun x : THd => cntB kind f t x.id) own
    simp at *; omega
  have hl2 : told.length ≤ 64 := by
    rw [← htold]
    have := merge_len (hs.filter fun x => cntB kind f t x.id) []
    have := List.length_filter_le (fun x : THd => cntB kind f t x.id) hs
    simp at *; omega
  have ha1 : AscT mine := by rw [← hmine]; exact merge_asc _ _
  have ha2 : AscT told := by rw [← htold]; exact merge_asc _ _
  have hab : AscT both := by rw [← hboth]; exact merge_asc _ _
  have hlb : both.length ≤ 4064 := by rw [← hboth]; have := merge_len mine told; omega
  have hor : ∀ h ∈ both, ¬ (findT mine h.id = none ∧ findT told h.id = none) := fun h hh q => by
    rw [← hboth] at hh
    obtain ⟨x, hx, e⟩ := merge_from hh
    rcases List.mem_append.1 hx with q2 | q2
    · exact findT_none.1 q.1 x q2 e
    · exact findT_none.1 q.2 x q2 e
  have hmrg : ∀ (W : World) (A1 A2 : Option Addr) (c1 c2 n1 n2 : Nat), n1 = mine.length → n2 = told.length → RdT W A1 mine → RdT W A2 told → n1 ≤ c1 → n2 ≤ c2 → Calls Try.prog 12 #[.slice A1 n1 c1, .slice A2 n2 c2] W fun e w' => ∃ v, e = .returned v ∧ OwnH 34 w' W.heap.size v both ∧ Below W.heap.size W w' := fun W A1 A2 c1 c2 n1 n2 e1 e2 r1 r2 h1 h2 => by
    subst e1 e2
    rw [← hboth]
    exact pmergeB_any mine told A1 A2 c1 c2 W r1 r2 (by omega) (by rw [hboth]; omega) h1 h2 (fun x hx => by rcases List.mem_append.1 hx with q | q; exact hok1 x q; exact hok2 x q)
  have HW := Lib.hid hW
  have HRG := Lib.hid hRG
  have HPB := Lib.hid hPB
  have HC1 := Lib.hid hC1
  have HC2 := Lib.hid hC2
  have HMG := Lib.hid hmrg
  have HOR := Lib.hid hor
  have HAB := Lib.hid hab
  have HA1 := Lib.hid ha1
  have HA2 := Lib.hid ha2
  have HOK1 := Lib.hid hok1
  have HOK2 := Lib.hid hok2
  have B0 : Hid (Below w.heap.size w (w.alloc (.cells #[.int .i64 kind, .int .i64 lie.node, .int .i64 lie.level, .int .i64 lie.pod, .int .i64 lie.mtu, .int .i64 lie.link, .int .i64 lie.nonce, .int .i64 lie.seen, .int .i64 lie.seenLink, .int .i64 lie.seenNonce, .int .i64 lie.hold, .bool lie.rep, .bool lie.noOffer, .int .i64 tie.head.id.dir, .int .i64 tie.head.id.orig, .int .i64 tie.head.id.kind, .int .i64 tie.head.id.nr, .int .i64 tie.head.seq, .int .i64 tie.head.life, .int .i64 tie.level, .bool tie.over, .slice ae tie.edges.length ce, .slice ar tie.reaches.length cr, .int .i64 f.d, .int .i64 f.o, .int .i64 f.k, .int .i64 f.n, .int .i64 t.d, .int .i64 t.o, .int .i64 t.k, .int .i64 t.n, .slice ah nh ch] 40))) := (Below.refl _ _).alloc (Nat.le_refl _) _
  have SZ0 : Hid ((w.alloc (.cells #[.int .i64 kind, .int .i64 lie.node, .int .i64 lie.level, .int .i64 lie.pod, .int .i64 lie.mtu, .int .i64 lie.link, .int .i64 lie.nonce, .int .i64 lie.seen, .int .i64 lie.seenLink, .int .i64 lie.seenNonce, .int .i64 lie.hold, .bool lie.rep, .bool lie.noOffer, .int .i64 tie.head.id.dir, .int .i64 tie.head.id.orig, .int .i64 tie.head.id.kind, .int .i64 tie.head.id.nr, .int .i64 tie.head.seq, .int .i64 tie.head.life, .int .i64 tie.level, .bool tie.over, .slice ae tie.edges.length ce, .slice ar tie.reaches.length cr, .int .i64 f.d, .int .i64 f.o, .int .i64 f.k, .int .i64 f.n, .int .i64 t.d, .int .i64 t.o, .int .i64 t.k, .int .i64 t.n, .slice ah nh ch] 40)).heap.size = w.heap.size + 1) := by unfold Hid; simp
  obtain ⟨hr0, hc0, hc31⟩ := hRG _ (Below.refl _ _)
  have R0 := Lib.hid hr0
  rw [hlo]
  have hd : (kind == 3) = decide (kind = 3) := by rfl
  have T1 : True := trivial
  have TC : True := trivial
  clear hW hRG hPB hC1 hC2 hmrg hor hab ha1 ha2 hok1 hok2 hp hr hown hhs hokO hokH hr0 hmine htold hboth hd hc31 hlo hnh hol hca
  have hq : (kind == 3) = true := by simpa using hk3
  have HK3 := Lib.hid hk3
  clear hk3
  go_enter Try.func13, Try.ntmps13
  go_wp2_with (first
    | (refine wpList_load_gg 40 (.tmp 3) rfl w.heap.size 0 rfl [.int .i64 kind, .int .i64 lie.node, .int .i64 lie.level, .int .i64 lie.pod, .int .i64 lie.mtu, .int .i64 lie.link, .int .i64 lie.nonce, .int .i64 lie.seen, .int .i64 lie.seenLink, .int .i64 lie.seenNonce, .int .i64 lie.hold, .bool lie.rep, .bool lie.noOffer, .int .i64 tie.head.id.dir, .int .i64 tie.head.id.orig, .int .i64 tie.head.id.kind, .int .i64 tie.head.id.nr, .int .i64 tie.head.seq, .int .i64 tie.head.life, .int .i64 tie.level, .bool tie.over, .slice ae tie.edges.length ce, .slice ar tie.reaches.length cr, .int .i64 f.d, .int .i64 f.o, .int .i64 f.k, .int .i64 f.n, .int .i64 t.d, .int .i64 t.o, .int .i64 t.k, .int .i64 t.n, .slice ah nh ch] _ R0.out Try.underlying40 rfl (by kernel_rfl) (by rfl) ?_)
    | (go_at_call 29; refine (HW.out _ B0.out).mono ?_; rintro e w1 ⟨rfl, hb⟩; have S1 := Lib.hid (hb.mono (show w.heap.size + 1 ≤ _ by rw [SZ0.out]; exact Nat.le_refl _)); have B1 := Lib.hid (B0.out.trans (hb.mono B0.out.size)); have R1 := Lib.hid (HRG.out _ S1.out).1; clear hb)
    | (refine wpList_load_mid rfl 40 (.tmp 3) rfl w.heap.size 0 rfl _ _ R1.out Try.underlying40 rfl (by kernel_rfl) ?_)
    | (go_at_call 30; refine (counting_any kind lie tie f t ae ar ah ce cr ch nh _).mono ?_; rintro e w3 ⟨rfl, hw3⟩; have HW3 := Lib.hid hw3; clear hw3))
  have b3 : Below w.heap.size w w3.drew := by rw [← HW3.out]; exact (B1.out.alloc B1.out.size _).drew
  have pb3 : PkBox w3.drew w1.heap.size kind f t := by rw [← HW3.out]; exact HPB.out w1 _ (Below.refl _ _).drew
  have s3 : Below (w.heap.size + 1) (w.alloc (.cells #[.int .i64 kind, .int .i64 lie.node, .int .i64 lie.level, .int .i64 lie.pod, .int .i64 lie.mtu, .int .i64 lie.link, .int .i64 lie.nonce, .int .i64 lie.seen, .int .i64 lie.seenLink, .int .i64 lie.seenNonce, .int .i64 lie.hold, .bool lie.rep, .bool lie.noOffer, .int .i64 tie.head.id.dir, .int .i64 tie.head.id.orig, .int .i64 tie.head.id.kind, .int .i64 tie.head.id.nr, .int .i64 tie.head.seq, .int .i64 tie.head.life, .int .i64 tie.level, .bool tie.over, .slice ae tie.edges.length ce, .slice ar tie.reaches.length cr, .int .i64 f.d, .int .i64 f.o, .int .i64 f.k, .int .i64 f.n, .int .i64 t.d, .int .i64 t.o, .int .i64 t.k, .int .i64 t.n, .slice ah nh ch] 40)) w3.drew := by rw [← HW3.out]; exact (S1.out.alloc (by have := S1.out.size; have := SZ0.out; omega) _).drew
  have c31 : w3.cell? ⟨w.heap.size, 31, none⟩ = some (.slice ah nh ch) := (HRG.out _ s3).2.2
  have B3 := Lib.hid b3
  have PB3 := Lib.hid pb3
  have LW : Hid (w.heap.size < w3.drew.heap.size) := by have := s3.size; have := SZ0.out; unfold Hid; omega
  clear b3 pb3 s3
  go_region_held (fun W => W.cell? ⟨w.heap.size, 31, none⟩ = some (.slice ah nh ch)) (first | exact c31 | assumption) (first | (go_at_call 31; have _t := TC; clear TC _t; (with_reducible refine (HC1.out _ _ B3.out PB3.out).mono ?_); rintro e w5 ⟨⟨v5, rfl, ho⟩, hb⟩; obtain ⟨mA, mn, mc, rfl, hmn, hmc⟩ := own_formN ho; have c5 := (hb.cell (p := ⟨w.heap.size, 31, none⟩) LW.out).trans c31; have LW5 := Lib.hid (Nat.lt_of_lt_of_le LW.out hb.size); have HMN := Lib.hid hmn; have HMC := Lib.hid hmc; have O5 := Lib.hid ho; have B5 := Lib.hid (B3.out.trans (hb.mono B3.out.size)); have PB5 := Lib.hid (PB3.out.below hb); clear hmn hmc ho hb) | (go_at_call 31; (with_reducible refine (HC2.out _ _ B5.out PB5.out).mono ?_); rintro e w6 ⟨⟨v6, rfl, ho⟩, hb⟩; obtain ⟨tA, tn, tc, rfl, htn, htc⟩ := own_formN ho; have c6 := (hb.cell (p := ⟨w.heap.size, 31, none⟩) LW5.out).trans c5; have HTN := Lib.hid htn; have HTC := Lib.hid htc; have O6 := Lib.hid ho; have O5b := Lib.hid (O5.out.below hb); have B6 := Lib.hid (B5.out.trans (hb.mono B5.out.size)); clear htn htc ho hb))
  go_wp2_with (first
    | (go_at_call 12; (with_reducible refine (HMG.out _ _ _ _ _ _ _ HMN.out HTN.out O5b.out.rd O6.out.rd HMC.out HTC.out).mono ?_); rintro e w2 ⟨v2, rfl, ho, hb⟩; obtain ⟨bA, bn, bc, rfl, hbn, hbc⟩ := own_formN ho; have HBN := Lib.hid hbn; have HBC := Lib.hid hbc; have O2b := Lib.hid ho; have O5c := Lib.hid (O5b.out.below hb); have O6c := Lib.hid (O6.out.below hb); have BW2 := Lib.hid (B6.out.trans (hb.mono B6.out.size)); clear hbn hbc ho hb))
  have HL : Hid (bn = both.length) := HBN.out
  have hbl : bn ≤ 4064 := by rw [HBN.out]; exact hlb
  have HRB : Hid (∀ W, Below w2.heap.size w2 W → RdT W bA both) := fun W hb => O2b.out.rd.below hb
  have HFM : Hid (∀ (i : TId) (W : World), Below w2.heap.size w2 W → Calls Try.prog 32 #[.slice mA mn mc, .agg #[.int .i64 i.d, .int .i64 i.o, .int .i64 i.k, .int .i64 i.n]] W (FindE mine i W)) := fun i W hb => by
    have := find_any mine i mA mc W (O5c.out.rd.below hb) HA1.out (by have := hl1; omega) (by rw [← HMN.out]; exact HMC.out)
    rw [← HMN.out] at this
    exact this
  have HFT : Hid (∀ (i : TId) (W : World), Below w2.heap.size w2 W → Calls Try.prog 32 #[.slice tA tn tc, .agg #[.int .i64 i.d, .int .i64 i.o, .int .i64 i.k, .int .i64 i.n]] W (FindE told i W)) := fun i W hb => by
    have := find_any told i tA tc W (O6c.out.rd.below hb) HA2.out (by have := hl2; omega) (by rw [← HTN.out]; exact HTC.out)
    rw [← HTN.out] at this
    exact this
  have HOM : Hid (∀ (i : TId) (x : THd), findT mine i = some x → okH x) := fun i x hx => HOK1.out x (findT_is hx).1
  have HOT : Hid (∀ (i : TId) (x : THd), findT told i = some x → okH x) := fun i x hx => HOK2.out x (findT_is hx).1
  have hlb2 : both.length = bn := HBN.out.symm
  have HLB2 := Lib.hid hlb2
  clear hlb2 hlb hl1 hl2 c6 c5 c31
  go_wp2
  go_loopw [11, 12, 13, 49] (fun v1 v2 v3 u wr => ∃ k : Nat, k ≤ bn ∧ u = .int .i64 k ∧ (∃ A n c, v1 = .slice A n c ∧ n = ((both.take k).flatMap (askF mine told)).length ∧ ((both.take k).flatMap (askF mine told) = [] → A = none)) ∧ (∃ A n c, v2 = .slice A n c ∧ n = ((both.take k).flatMap (sendF (decide (kind = 3)) mine told)).length ∧ ((both.take k).flatMap (sendF (decide (kind = 3)) mine told) = [] → A = none)) ∧ (∃ A n c, v3 = .slice A n c ∧ n = ((both.take k).flatMap (knowF mine told)).length ∧ ((both.take k).flatMap (knowF mine told) = [] → A = none)) ∧
    Hid (OwnE 34 6 cellsT wr w2.heap.size v1 ((both.take k).flatMap (askF mine told))) ∧ Hid (OwnE 24 4 cellsI wr w2.heap.size v2 ((both.take k).flatMap (sendF (decide (kind = 3)) mine told))) ∧ Hid (OwnE 24 4 cellsI wr w2.heap.size v3 ((both.take k).flatMap (knowF mine told))) ∧ Hid (Below w2.heap.size w2 wr)) (fun _ _ _ u _ => bn - (intOf u).toNat)
  case atStart => exact ⟨0, Nat.zero_le _, rfl, ⟨none, 0, 0, rfl, rfl, fun _ => rfl⟩, ⟨none, 0, 0, rfl, rfl, fun _ => rfl⟩, ⟨none, 0, 0, rfl, rfl, fun _ => rfl⟩, OwnE.nil _ _, OwnE.nil _ _, OwnE.nil _ _, Below.refl _ _⟩
  case round =>
    obtain ⟨k, hk, rfl, ⟨A1, n1, c1, rfl, hn1⟩, ⟨A2, n2, c2, rfl, hn2⟩, ⟨A3, n3, c3, rfl, hn3⟩, O1, O2, O3, HB⟩ := hrel
    by_cases hlt : k < bn
    · skip
      obtain ⟨h, hh⟩ : ∃ h, both[k]? = some h := ⟨_, List.getElem?_eq_getElem (by have := HL.out; omega)⟩
      have hmem := List.mem_of_getElem? hh
      have nx1 := flat_next (askF mine told) hh
      have nx2 := flat_next (sendF (decide (kind = 3)) mine told) hh
      have nx3 := flat_next (knowF mine told) hh
      have hap : ∀ i j, i ∈ (both.take (k + 1)).flatMap (sendF (decide (kind = 3)) mine told) → j ∈ (both.take (k + 1)).flatMap (knowF mine told) → i ≠ j := fun i j hi hj e => by
        subst e
        exact send_know (asc_take HAB.out (k + 1)) hi hj
      rw [nx2, nx3] at hap
      obtain ⟨g, o, rfl, hg, hr, -⟩ := (HRB.out _ HB.out).at hh
      have x0 := mid_cell0 hr rfl
      have x1 := mid_cell hr 1 rfl
      have x2 := mid_cell hr 2 rfl
      have x3 := mid_cell hr 3 rfl
      have x4 := mid_cell hr 4 rfl
      have x5 := mid_cell hr 5 rfl
      have BA : Hid (Below w2.heap.size w2 (wr.alloc (.cells #[.int .i64 h.id.d, .int .i64 h.id.o, .int .i64 h.id.k, .int .i64 h.id.n, .int .i64 h.seq, .int .i64 h.life] 34))) := HB.out.alloc HB.out.size _
      have ZA : Hid ((wr.alloc (.cells #[.int .i64 h.id.d, .int .i64 h.id.o, .int .i64 h.id.k, .int .i64 h.id.n, .int .i64 h.seq, .int .i64 h.life] 34)).heap.size = wr.heap.size + 1) := by unfold Hid; simp
      have XH : Hid (∀ W, Below (wr.heap.size + 1) (wr.alloc (.cells #[.int .i64 h.id.d, .int .i64 h.id.o, .int .i64 h.id.k, .int .i64 h.id.n, .int .i64 h.seq, .int .i64 h.life] 34)) W → W.cell? ⟨wr.heap.size, 0, none⟩ = some (.int .i64 h.id.d) ∧ W.cell? ⟨wr.heap.size, 1, none⟩ = some (.int .i64 h.id.o) ∧ W.cell? ⟨wr.heap.size, 2, none⟩ = some (.int .i64 h.id.k) ∧ W.cell? ⟨wr.heap.size, 3, none⟩ = some (.int .i64 h.id.n) ∧ W.cell? ⟨wr.heap.size, 4, none⟩ = some (.int .i64 h.seq) ∧ W.cell? ⟨wr.heap.size, 5, none⟩ = some (.int .i64 h.life)) := fun W hb => by
        have := (hb.block wr.heap.size (by omega)).trans (heap_alloc_new wr _)
        simp [World.cell?, this]
      have hfm := HFM.out h.id
      have hft := HFT.out h.id
      unfold FindE at hfm hft
      have hor := HOR.out h hmem
      clear hr hh hmem
      obtain ⟨L1, e1⟩ : ∃ L, (both.take k).flatMap (askF mine told) = L := ⟨_, rfl⟩
      obtain ⟨L2, e2⟩ : ∃ L, (both.take k).flatMap (sendF (decide (kind = 3)) mine told) = L := ⟨_, rfl⟩
      obtain ⟨L3, e3⟩ : ∃ L, (both.take k).flatMap (knowF mine told) = L := ⟨_, rfl⟩
      have hL := flat_len (mine := mine) (told := told) (tide := decide (kind = 3)) (both.take k)
      rw [e1, e2, e3] at hL
      have hLk := List.length_take_le k both
      have HLL : Hid (L1.length ≤ 4064 ∧ L2.length ≤ 4064 ∧ L3.length ≤ 4064) := ⟨by omega, by omega, by omega⟩
      rw [e1] at O1 hn1 nx1
      rw [e2] at O2 hn2 nx2 hap
      rw [e3] at O3 hn3 nx3 hap
      have hM := HOM.out h.id
      have hT := HOT.out h.id
      obtain ⟨X1, ex1⟩ : ∃ X, askF mine told h = X := ⟨_, rfl⟩
      obtain ⟨X2, ex2⟩ : ∃ X, sendF (decide (kind = 3)) mine told h = X := ⟨_, rfl⟩
      obtain ⟨X3, ex3⟩ : ∃ X, knowF mine told h = X := ⟨_, rfl⟩
      rw [ex1] at nx1
      rw [ex2] at nx2 hap
      rw [ex3] at nx3 hap
      unfold askF at ex1
      unfold sendF at ex2
      unfold knowF at ex3
      clear e1 e2 e3
      cases em : findT mine h.id with
      | none =>
        cases et : findT told h.id with
        | none => exact absurd ⟨em, et⟩ hor
        | some v =>
          have hfm2 := hfm
          rw [em] at hfm ex1 ex2 ex3
          obtain ⟨m, hm⟩ : ∃ m, zeroH = m := ⟨_, rfl⟩
          simp only [Option.getD_none, Option.isSome_none, hm] at hfm
          clear hfm2
          rw [et] at hft ex1 ex2 ex3 hT
          simp only [Option.getD_some, Option.isSome_some] at hft
          have okv := hT v rfl
          have okm : okH m := by rw [← hm]; exact okH_zero
          obtain ⟨nv, hnv⟩ : ∃ nv, newT m v = nv := ⟨_, rfl⟩
          have hnw := fun W => pnewer_any m v okm.2.2 okv.2.2 W
          rw [hnv] at hnw
          dsimp only at ex1 ex2 ex3
          subst ex1 ex2 ex3
          simp only [List.append_nil] at nx1 nx2 nx3 hap
          have HF1 := Lib.hid hfm
          have HF2 := Lib.hid hft
          have HN1 := Lib.hid hn1
          have HN2 := Lib.hid hn2
          have HN3 := Lib.hid hn3
          have HAP := Lib.hid hap
          have T1 : True := trivial
          clear hfm hft hn1 hn2 hn3 hap hM hT hor hL hLk
          go_wp2_with (first
            | (go_at_call 32; have _t := T1; clear T1 _t; (with_reducible refine (HF1.out _ BA.out).mono ?_); rintro e w5 ⟨rfl, hb⟩; have B5 := Lib.hid (BA.out.trans (hb.mono BA.out.size)); have S5 := Lib.hid (hb.mono (show wr.heap.size + 1 ≤ _ by rw [ZA.out]; exact Nat.le_refl _)); have LT5 := Lib.hid (show wr.heap.size < w5.heap.size by have := hb.size; have := ZA.out; omega); obtain ⟨a0, a1, a2, a3, a4, a5⟩ := XH.out (w5.alloc (.cells #[.int .i64 m.id.d, .int .i64 m.id.o, .int .i64 m.id.k, .int .i64 m.id.n, .int .i64 m.seq, .int .i64 m.life] 34)) (S5.out.alloc (by have := LT5.out; omega) _); have XM : Hid (∀ W, Below (w5.heap.size + 1) (w5.alloc (.cells #[.int .i64 m.id.d, .int .i64 m.id.o, .int .i64 m.id.k, .int .i64 m.id.n, .int .i64 m.seq, .int .i64 m.life] 34)) W → W.cell? ⟨w5.heap.size, 0, none⟩ = some (.int .i64 m.id.d) ∧ W.cell? ⟨w5.heap.size, 1, none⟩ = some (.int .i64 m.id.o) ∧ W.cell? ⟨w5.heap.size, 2, none⟩ = some (.int .i64 m.id.k) ∧ W.cell? ⟨w5.heap.size, 3, none⟩ = some (.int .i64 m.id.n) ∧ W.cell? ⟨w5.heap.size, 4, none⟩ = some (.int .i64 m.seq) ∧ W.cell? ⟨w5.heap.size, 5, none⟩ = some (.int .i64 m.life)) := (fun W hbm => by have := (hbm.block w5.heap.size (by omega)).trans (heap_alloc_new w5 _); simp [World.cell?, this]); clear hb)
            | (go_at_call 32; (with_reducible refine (HF2.out _ (B5.out.alloc B5.out.size _)).mono ?_); rintro e w6 ⟨rfl, hb⟩; have B6 := Lib.hid ((B5.out.alloc B5.out.size (.cells #[.int .i64 m.id.d, .int .i64 m.id.o, .int .i64 m.id.k, .int .i64 m.id.n, .int .i64 m.seq, .int .i64 m.life] 34)).trans (hb.mono (by have := B5.out.size; simp; omega))); have S6 := Lib.hid ((S5.out.alloc (by have := LT5.out; omega) (.cells #[.int .i64 m.id.d, .int .i64 m.id.o, .int .i64 m.id.k, .int .i64 m.id.n, .int .i64 m.seq, .int .i64 m.life] 34)).trans (hb.mono (by have := LT5.out; simp; omega))); have LT6 := Lib.hid (show w5.heap.size < w6.heap.size by have := hb.size; simp at this; omega); have M6 := Lib.hid (hb.mono (show w5.heap.size + 1 ≤ _ by simp)); obtain ⟨m0, m1, m2, m3, m4, m5⟩ := XM.out (w6.alloc (.cells #[.int .i64 v.id.d, .int .i64 v.id.o, .int .i64 v.id.k, .int .i64 v.id.n, .int .i64 v.seq, .int .i64 v.life] 34)) (M6.out.alloc (by have := LT6.out; omega) _); have XT : Hid (∀ W, Below (w6.heap.size + 1) (w6.alloc (.cells #[.int .i64 v.id.d, .int .i64 v.id.o, .int .i64 v.id.k, .int .i64 v.id.n, .int .i64 v.seq, .int .i64 v.life] 34)) W → W.cell? ⟨w6.heap.size, 0, none⟩ = some (.int .i64 v.id.d) ∧ W.cell? ⟨w6.heap.size, 1, none⟩ = some (.int .i64 v.id.o) ∧ W.cell? ⟨w6.heap.size, 2, none⟩ = some (.int .i64 v.id.k) ∧ W.cell? ⟨w6.heap.size, 3, none⟩ = some (.int .i64 v.id.n) ∧ W.cell? ⟨w6.heap.size, 4, none⟩ = some (.int .i64 v.seq) ∧ W.cell? ⟨w6.heap.size, 5, none⟩ = some (.int .i64 v.life)) := (fun W hbm => by have := (hbm.block w6.heap.size (by omega)).trans (heap_alloc_new w6 _); simp [World.cell?, this]); clear hb a0 a1 a2 a3 a4 a5)
            | (go_at_call 15; (with_reducible refine (hnw _).mono ?_); rintro e w7 ⟨rfl, hfw⟩; have B7 := Lib.hid ((B6.out.alloc B6.out.size (.cells #[.int .i64 v.id.d, .int .i64 v.id.o, .int .i64 v.id.k, .int .i64 v.id.n, .int .i64 v.seq, .int .i64 v.life] 34)).trans (hfw.bel.mono (by have := B6.out.size; simp; omega))); obtain ⟨a0, a1, a2, a3, a4, a5⟩ := XH.out w7 ((S6.out.alloc (by have := LT5.out; have := LT6.out; omega) (.cells #[.int .i64 v.id.d, .int .i64 v.id.o, .int .i64 v.id.k, .int .i64 v.id.n, .int .i64 v.seq, .int .i64 v.life] 34)).trans (hfw.bel.mono (by have := LT5.out; have := LT6.out; simp; omega))); obtain ⟨b0, b1, b2, b3, b4, b5⟩ := XT.out w7 (hfw.bel.mono (by simp)); have K7 := Lib.hid (((((Below.refl wr.heap.size wr).alloc (Nat.le_refl _) (.cells #[.int .i64 h.id.d, .int .i64 h.id.o, .int .i64 h.id.k, .int .i64 h.id.n, .int .i64 h.seq, .int .i64 h.life] 34)).trans (S5.out.mono (Nat.le_succ _))).alloc (by have := LT5.out; omega) (.cells #[.int .i64 m.id.d, .int .i64 m.id.o, .int .i64 m.id.k, .int .i64 m.id.n, .int .i64 m.seq, .int .i64 m.life] 34) |>.trans (M6.out.mono (by have := LT5.out; omega))).alloc (by have := LT5.out; have := LT6.out; omega) (.cells #[.int .i64 v.id.d, .int .i64 v.id.o, .int .i64 v.id.k, .int .i64 v.id.n, .int .i64 v.seq, .int .i64 v.life] 34) |>.trans (hfw.bel.mono (by have := LT5.out; have := LT6.out; simp; omega))); clear hfw m0 m1 m2 m3 m4 m5)
            | (at_builtin; refine kindH.wp_append rfl _ _ rfl w2.heap.size _ L1 rfl (O1.out.below K7.out |>.below ((Below.refl _ _).alloc (Nat.le_refl _) _)) _ [v] 1 1 rfl rfl (rd_oneE kindH w7 v) (by have := HLL.out; unfold maxLen; simp; omega) (by have := HLL.out; simp; omega) (by have := B7.out.size; simp; omega) ?_; intro A8 n8 c8 w8 hn8 ho8 hb8 hg8; have N8 := Lib.hid hn8; have O8 := Lib.hid ho8; have B8 := Lib.hid ((B7.out.alloc B7.out.size _).trans hb8); have G8 := Lib.hid hg8; clear hn8 ho8 hb8 hg8))
          go_roundw
          case rel => exact ⟨k + 1, by omega, by go_num, ⟨A8, n8, c8, rfl, by rw [nx1]; exact N8.out, by rw [nx1]; intro q; simp at q⟩, ⟨A2, n2, c2, rfl, by rw [nx2]; exact HN2.out.1, by rw [nx2]; exact HN2.out.2⟩, ⟨A3, n3, c3, rfl, by rw [nx3]; exact HN3.out.1, by rw [nx3]; exact HN3.out.2⟩, by unfold Hid; rw [nx1]; exact O8.out, by unfold Hid; rw [nx2]; exact OwnE.grownT ((O2.out.below K7.out).below ((Below.refl _ _).alloc (Nat.le_refl _) _)) ((O1.out.below K7.out).below ((Below.refl _ _).alloc (Nat.le_refl _) _)) G8.out (by decide), by unfold Hid; rw [nx3]; exact OwnE.grownT ((O3.out.below K7.out).below ((Below.refl _ _).alloc (Nat.le_refl _) _)) ((O1.out.below K7.out).below ((Below.refl _ _).alloc (Nat.le_refl _) _)) G8.out (by decide), B8.out⟩
          case measure => simp [intOf]; omega
      | some m =>
        cases et : findT told h.id with
        | none =>
          have hk3 := HK3.out
          rw [em] at hfm ex1 ex2 ex3 hM
          simp only [Option.getD_some, Option.isSome_some] at hfm
          have okm := hM m rfl
          rw [et] at hft ex1 ex2 ex3
          obtain ⟨v, hv⟩ : ∃ v, zeroH = v := ⟨_, rfl⟩
          simp only [Option.getD_none, Option.isSome_none, hv] at hft
          have okv : okH v := by rw [← hv]; exact okH_zero
          obtain ⟨nv, hnv⟩ : ∃ nv, newT m v = nv := ⟨_, rfl⟩
          have hnw := fun W => pnewer_any m v okm.2.2 okv.2.2 W
          rw [hnv] at hnw
          dsimp only at ex1 ex2 ex3
          rw [decide_eq_true hk3] at ex2
          clear hk3
          rw [if_pos rfl] at ex2
          subst ex1 ex2 ex3
          simp only [List.append_nil] at nx1 nx2 nx3 hap
          have HF1 := Lib.hid hfm
          have HF2 := Lib.hid hft
          have HN1 := Lib.hid hn1
          have HN2 := Lib.hid hn2
          have HN3 := Lib.hid hn3
          have HAP := Lib.hid hap
          have T1 : True := trivial
          clear hfm hft hn1 hn2 hn3 hap hM hT hor hL hLk
          go_wp2_with (first
            | (go_at_call 32; have _t := T1; clear T1 _t; (with_reducible refine (HF1.out _ BA.out).mono ?_); rintro e w5 ⟨rfl, hb⟩; have B5 := Lib.hid (BA.out.trans (hb.mono BA.out.size)); have S5 := Lib.hid (hb.mono (show wr.heap.size + 1 ≤ _ by rw [ZA.out]; exact Nat.le_refl _)); have LT5 := Lib.hid (show wr.heap.size < w5.heap.size by have := hb.size; have := ZA.out; omega); obtain ⟨a0, a1, a2, a3, a4, a5⟩ := XH.out (w5.alloc (.cells #[.int .i64 m.id.d, .int .i64 m.id.o, .int .i64 m.id.k, .int .i64 m.id.n, .int .i64 m.seq, .int .i64 m.life] 34)) (S5.out.alloc (by have := LT5.out; omega) _); have XM : Hid (∀ W, Below (w5.heap.size + 1) (w5.alloc (.cells #[.int .i64 m.id.d, .int .i64 m.id.o, .int .i64 m.id.k, .int .i64 m.id.n, .int .i64 m.seq, .int .i64 m.life] 34)) W → W.cell? ⟨w5.heap.size, 0, none⟩ = some (.int .i64 m.id.d) ∧ W.cell? ⟨w5.heap.size, 1, none⟩ = some (.int .i64 m.id.o) ∧ W.cell? ⟨w5.heap.size, 2, none⟩ = some (.int .i64 m.id.k) ∧ W.cell? ⟨w5.heap.size, 3, none⟩ = some (.int .i64 m.id.n) ∧ W.cell? ⟨w5.heap.size, 4, none⟩ = some (.int .i64 m.seq) ∧ W.cell? ⟨w5.heap.size, 5, none⟩ = some (.int .i64 m.life)) := (fun W hbm => by have := (hbm.block w5.heap.size (by omega)).trans (heap_alloc_new w5 _); simp [World.cell?, this]); clear hb)
            | (go_at_call 32; (with_reducible refine (HF2.out _ (B5.out.alloc B5.out.size _)).mono ?_); rintro e w6 ⟨rfl, hb⟩; have B6 := Lib.hid ((B5.out.alloc B5.out.size (.cells #[.int .i64 m.id.d, .int .i64 m.id.o, .int .i64 m.id.k, .int .i64 m.id.n, .int .i64 m.seq, .int .i64 m.life] 34)).trans (hb.mono (by have := B5.out.size; simp; omega))); have S6 := Lib.hid ((S5.out.alloc (by have := LT5.out; omega) (.cells #[.int .i64 m.id.d, .int .i64 m.id.o, .int .i64 m.id.k, .int .i64 m.id.n, .int .i64 m.seq, .int .i64 m.life] 34)).trans (hb.mono (by have := LT5.out; simp; omega))); have LT6 := Lib.hid (show w5.heap.size < w6.heap.size by have := hb.size; simp at this; omega); have M6 := Lib.hid (hb.mono (show w5.heap.size + 1 ≤ _ by simp)); obtain ⟨m0, m1, m2, m3, m4, m5⟩ := XM.out (w6.alloc (.cells #[.int .i64 v.id.d, .int .i64 v.id.o, .int .i64 v.id.k, .int .i64 v.id.n, .int .i64 v.seq, .int .i64 v.life] 34)) (M6.out.alloc (by have := LT6.out; omega) _); have XT : Hid (∀ W, Below (w6.heap.size + 1) (w6.alloc (.cells #[.int .i64 v.id.d, .int .i64 v.id.o, .int .i64 v.id.k, .int .i64 v.id.n, .int .i64 v.seq, .int .i64 v.life] 34)) W → W.cell? ⟨w6.heap.size, 0, none⟩ = some (.int .i64 v.id.d) ∧ W.cell? ⟨w6.heap.size, 1, none⟩ = some (.int .i64 v.id.o) ∧ W.cell? ⟨w6.heap.size, 2, none⟩ = some (.int .i64 v.id.k) ∧ W.cell? ⟨w6.heap.size, 3, none⟩ = some (.int .i64 v.id.n) ∧ W.cell? ⟨w6.heap.size, 4, none⟩ = some (.int .i64 v.seq) ∧ W.cell? ⟨w6.heap.size, 5, none⟩ = some (.int .i64 v.life)) := (fun W hbm => by have := (hbm.block w6.heap.size (by omega)).trans (heap_alloc_new w6 _); simp [World.cell?, this]); clear hb a0 a1 a2 a3 a4 a5)
            | (go_at_call 15; (with_reducible refine (hnw _).mono ?_); rintro e w7 ⟨rfl, hfw⟩; have B7 := Lib.hid ((B6.out.alloc B6.out.size (.cells #[.int .i64 v.id.d, .int .i64 v.id.o, .int .i64 v.id.k, .int .i64 v.id.n, .int .i64 v.seq, .int .i64 v.life] 34)).trans (hfw.bel.mono (by have := B6.out.size; simp; omega))); obtain ⟨a0, a1, a2, a3, a4, a5⟩ := XH.out w7 ((S6.out.alloc (by have := LT5.out; have := LT6.out; omega) (.cells #[.int .i64 v.id.d, .int .i64 v.id.o, .int .i64 v.id.k, .int .i64 v.id.n, .int .i64 v.seq, .int .i64 v.life] 34)).trans (hfw.bel.mono (by have := LT5.out; have := LT6.out; simp; omega))); obtain ⟨b0, b1, b2, b3, b4, b5⟩ := XT.out w7 (hfw.bel.mono (by simp)); have K7 := Lib.hid (((((Below.refl wr.heap.size wr).alloc (Nat.le_refl _) (.cells #[.int .i64 h.id.d, .int .i64 h.id.o, .int .i64 h.id.k, .int .i64 h.id.n, .int .i64 h.seq, .int .i64 h.life] 34)).trans (S5.out.mono (Nat.le_succ _))).alloc (by have := LT5.out; omega) (.cells #[.int .i64 m.id.d, .int .i64 m.id.o, .int .i64 m.id.k, .int .i64 m.id.n, .int .i64 m.seq, .int .i64 m.life] 34) |>.trans (M6.out.mono (by have := LT5.out; omega))).alloc (by have := LT5.out; have := LT6.out; omega) (.cells #[.int .i64 v.id.d, .int .i64 v.id.o, .int .i64 v.id.k, .int .i64 v.id.n, .int .i64 v.seq, .int .i64 v.life] 34) |>.trans (hfw.bel.mono (by have := LT5.out; have := LT6.out; simp; omega))); clear hfw m0 m1 m2 m3 m4 m5)
            | (at_builtin; refine kindI.wp_append rfl _ _ rfl w2.heap.size _ L2 rfl (O2.out.below K7.out |>.below ((Below.refl _ _).alloc (Nat.le_refl _) _)) _ [h.id] 1 1 rfl rfl (rd_oneE kindI w7 h.id) (by have := HLL.out; unfold maxLen; simp; omega) (by have := HLL.out; simp; omega) (by have := B7.out.size; simp; omega) ?_; intro A8 n8 c8 w8 hn8 ho8 hb8 hg8; have N8 := Lib.hid hn8; have O8 := Lib.hid ho8; have B8 := Lib.hid ((B7.out.alloc B7.out.size _).trans hb8); have G8 := Lib.hid hg8; clear hn8 ho8 hb8 hg8))
          go_roundw
          case rel => exact ⟨k + 1, by omega, by go_num, ⟨A1, n1, c1, rfl, by rw [nx1]; exact HN1.out.1, by rw [nx1]; exact HN1.out.2⟩, ⟨A8, n8, c8, rfl, by rw [nx2]; exact N8.out, by rw [nx2]; intro q; simp at q⟩, ⟨A3, n3, c3, rfl, by rw [nx3]; exact HN3.out.1, by rw [nx3]; exact HN3.out.2⟩, by unfold Hid; rw [nx1]; exact OwnE.grownT ((O1.out.below K7.out).below ((Below.refl _ _).alloc (Nat.le_refl _) _)) ((O2.out.below K7.out).below ((Below.refl _ _).alloc (Nat.le_refl _) _)) G8.out (by decide), by unfold Hid; rw [nx2]; exact O8.out, by unfold Hid; rw [nx3]; exact OwnE.grownA ((O3.out.below K7.out).below ((Below.refl _ _).alloc (Nat.le_refl _) _)) ((O2.out.below K7.out).below ((Below.refl _ _).alloc (Nat.le_refl _) _)) G8.out (fun i j hi hj e => HAP.out j i (List.mem_append_left _ hj) hi e.symm) (fun q => by rw [HN3.out.2 q]; rfl) (fun q => by rw [HN2.out.2 q]; rfl), B8.out⟩
          case measure => simp [intOf]; omega
        | some v =>
          rcases Int.lt_trichotomy (newT m v) 0 with hneg0 | hz0 | hpos0
          · have hneg := hneg0
            rw [em] at hfm ex1 ex2 ex3 hM
            simp only [Option.getD_some, Option.isSome_some] at hfm
            have okm := hM m rfl
            rw [et] at hft ex1 ex2 ex3 hT
            simp only [Option.getD_some, Option.isSome_some] at hft
            have okv := hT v rfl
            obtain ⟨nv, hnv⟩ : ∃ nv, newT m v = nv := ⟨_, rfl⟩
            have hnw := fun W => pnewer_any m v okm.2.2 okv.2.2 W
            rw [hnv] at hnw
            dsimp only at ex1 ex2 ex3
            rw [hnv] at ex1 ex2 ex3 hneg
            rw [if_pos hneg] at ex1
            rw [if_neg (by omega)] at ex2 ex3
            have d1 : decide (nv < 0) = true := decide_eq_true hneg
            subst ex1 ex2 ex3
            simp only [List.append_nil] at nx1 nx2 nx3 hap
            have HF1 := Lib.hid hfm
            have HF2 := Lib.hid hft
            have HN1 := Lib.hid hn1
            have HN2 := Lib.hid hn2
            have HN3 := Lib.hid hn3
            have HAP := Lib.hid hap
            have T1 : True := trivial
            clear hfm hft hn1 hn2 hn3 hap hM hT hor hL hLk
            go_wp2_with (first
              | (go_at_call 32; have _t := T1; clear T1 _t; (with_reducible refine (HF1.out _ BA.out).mono ?_); rintro e w5 ⟨rfl, hb⟩; have B5 := Lib.hid (BA.out.trans (hb.mono BA.out.size)); have S5 := Lib.hid (hb.mono (show wr.heap.size + 1 ≤ _ by rw [ZA.out]; exact Nat.le_refl _)); have LT5 := Lib.hid (show wr.heap.size < w5.heap.size by have := hb.size; have := ZA.out; omega); obtain ⟨a0, a1, a2, a3, a4, a5⟩ := XH.out (w5.alloc (.cells #[.int .i64 m.id.d, .int .i64 m.id.o, .int .i64 m.id.k, .int .i64 m.id.n, .int .i64 m.seq, .int .i64 m.life] 34)) (S5.out.alloc (by have := LT5.out; omega) _); have XM : Hid (∀ W, Below (w5.heap.size + 1) (w5.alloc (.cells #[.int .i64 m.id.d, .int .i64 m.id.o, .int .i64 m.id.k, .int .i64 m.id.n, .int .i64 m.seq, .int .i64 m.life] 34)) W → W.cell? ⟨w5.heap.size, 0, none⟩ = some (.int .i64 m.id.d) ∧ W.cell? ⟨w5.heap.size, 1, none⟩ = some (.int .i64 m.id.o) ∧ W.cell? ⟨w5.heap.size, 2, none⟩ = some (.int .i64 m.id.k) ∧ W.cell? ⟨w5.heap.size, 3, none⟩ = some (.int .i64 m.id.n) ∧ W.cell? ⟨w5.heap.size, 4, none⟩ = some (.int .i64 m.seq) ∧ W.cell? ⟨w5.heap.size, 5, none⟩ = some (.int .i64 m.life)) := (fun W hbm => by have := (hbm.block w5.heap.size (by omega)).trans (heap_alloc_new w5 _); simp [World.cell?, this]); clear hb)
              | (go_at_call 32; (with_reducible refine (HF2.out _ (B5.out.alloc B5.out.size _)).mono ?_); rintro e w6 ⟨rfl, hb⟩; have B6 := Lib.hid ((B5.out.alloc B5.out.size (.cells #[.int .i64 m.id.d, .int .i64 m.id.o, .int .i64 m.id.k, .int .i64 m.id.n, .int .i64 m.seq, .int .i64 m.life] 34)).trans (hb.mono (by have := B5.out.size; simp; omega))); have S6 := Lib.hid ((S5.out.alloc (by have := LT5.out; omega) (.cells #[.int .i64 m.id.d, .int .i64 m.id.o, .int .i64 m.id.k, .int .i64 m.id.n, .int .i64 m.seq, .int .i64 m.life] 34)).trans (hb.mono (by have := LT5.out; simp; omega))); have LT6 := Lib.hid (show w5.heap.size < w6.heap.size by have := hb.size; simp at this; omega); have M6 := Lib.hid (hb.mono (show w5.heap.size + 1 ≤ _ by simp)); obtain ⟨m0, m1, m2, m3, m4, m5⟩ := XM.out (w6.alloc (.cells #[.int .i64 v.id.d, .int .i64 v.id.o, .int .i64 v.id.k, .int .i64 v.id.n, .int .i64 v.seq, .int .i64 v.life] 34)) (M6.out.alloc (by have := LT6.out; omega) _); have XT : Hid (∀ W, Below (w6.heap.size + 1) (w6.alloc (.cells #[.int .i64 v.id.d, .int .i64 v.id.o, .int .i64 v.id.k, .int .i64 v.id.n, .int .i64 v.seq, .int .i64 v.life] 34)) W → W.cell? ⟨w6.heap.size, 0, none⟩ = some (.int .i64 v.id.d) ∧ W.cell? ⟨w6.heap.size, 1, none⟩ = some (.int .i64 v.id.o) ∧ W.cell? ⟨w6.heap.size, 2, none⟩ = some (.int .i64 v.id.k) ∧ W.cell? ⟨w6.heap.size, 3, none⟩ = some (.int .i64 v.id.n) ∧ W.cell? ⟨w6.heap.size, 4, none⟩ = some (.int .i64 v.seq) ∧ W.cell? ⟨w6.heap.size, 5, none⟩ = some (.int .i64 v.life)) := (fun W hbm => by have := (hbm.block w6.heap.size (by omega)).trans (heap_alloc_new w6 _); simp [World.cell?, this]); clear hb a0 a1 a2 a3 a4 a5)
              | (go_at_call 15; (with_reducible refine (hnw _).mono ?_); rintro e w7 ⟨rfl, hfw⟩; have B7 := Lib.hid ((B6.out.alloc B6.out.size (.cells #[.int .i64 v.id.d, .int .i64 v.id.o, .int .i64 v.id.k, .int .i64 v.id.n, .int .i64 v.seq, .int .i64 v.life] 34)).trans (hfw.bel.mono (by have := B6.out.size; simp; omega))); obtain ⟨a0, a1, a2, a3, a4, a5⟩ := XH.out w7 ((S6.out.alloc (by have := LT5.out; have := LT6.out; omega) (.cells #[.int .i64 v.id.d, .int .i64 v.id.o, .int .i64 v.id.k, .int .i64 v.id.n, .int .i64 v.seq, .int .i64 v.life] 34)).trans (hfw.bel.mono (by have := LT5.out; have := LT6.out; simp; omega))); obtain ⟨b0, b1, b2, b3, b4, b5⟩ := XT.out w7 (hfw.bel.mono (by simp)); have K7 := Lib.hid (((((Below.refl wr.heap.size wr).alloc (Nat.le_refl _) (.cells #[.int .i64 h.id.d, .int .i64 h.id.o, .int .i64 h.id.k, .int .i64 h.id.n, .int .i64 h.seq, .int .i64 h.life] 34)).trans (S5.out.mono (Nat.le_succ _))).alloc (by have := LT5.out; omega) (.cells #[.int .i64 m.id.d, .int .i64 m.id.o, .int .i64 m.id.k, .int .i64 m.id.n, .int .i64 m.seq, .int .i64 m.life] 34) |>.trans (M6.out.mono (by have := LT5.out; omega))).alloc (by have := LT5.out; have := LT6.out; omega) (.cells #[.int .i64 v.id.d, .int .i64 v.id.o, .int .i64 v.id.k, .int .i64 v.id.n, .int .i64 v.seq, .int .i64 v.life] 34) |>.trans (hfw.bel.mono (by have := LT5.out; have := LT6.out; simp; omega))); clear hfw m0 m1 m2 m3 m4 m5)
              | (at_builtin; refine kindH.wp_append rfl _ _ rfl w2.heap.size _ L1 rfl (O1.out.below K7.out |>.below ((Below.refl _ _).alloc (Nat.le_refl _) _)) _ [v] 1 1 rfl rfl (rd_oneE kindH w7 v) (by have := HLL.out; unfold maxLen; simp; omega) (by have := HLL.out; simp; omega) (by have := B7.out.size; simp; omega) ?_; intro A8 n8 c8 w8 hn8 ho8 hb8 hg8; have N8 := Lib.hid hn8; have O8 := Lib.hid ho8; have B8 := Lib.hid ((B7.out.alloc B7.out.size _).trans hb8); have G8 := Lib.hid hg8; clear hn8 ho8 hb8 hg8))
            go_roundw
            case rel => exact ⟨k + 1, by omega, by go_num, ⟨A8, n8, c8, rfl, by rw [nx1]; exact N8.out, by rw [nx1]; intro q; simp at q⟩, ⟨A2, n2, c2, rfl, by rw [nx2]; exact HN2.out.1, by rw [nx2]; exact HN2.out.2⟩, ⟨A3, n3, c3, rfl, by rw [nx3]; exact HN3.out.1, by rw [nx3]; exact HN3.out.2⟩, by unfold Hid; rw [nx1]; exact O8.out, by unfold Hid; rw [nx2]; exact OwnE.grownT ((O2.out.below K7.out).below ((Below.refl _ _).alloc (Nat.le_refl _) _)) ((O1.out.below K7.out).below ((Below.refl _ _).alloc (Nat.le_refl _) _)) G8.out (by decide), by unfold Hid; rw [nx3]; exact OwnE.grownT ((O3.out.below K7.out).below ((Below.refl _ _).alloc (Nat.le_refl _) _)) ((O1.out.below K7.out).below ((Below.refl _ _).alloc (Nat.le_refl _) _)) G8.out (by decide), B8.out⟩
            case measure => simp [intOf]; omega
          · have hz := hz0
            rw [em] at hfm ex1 ex2 ex3 hM
            simp only [Option.getD_some, Option.isSome_some] at hfm
            have okm := hM m rfl
            rw [et] at hft ex1 ex2 ex3 hT
            simp only [Option.getD_some, Option.isSome_some] at hft
            have okv := hT v rfl
            obtain ⟨nv, hnv⟩ : ∃ nv, newT m v = nv := ⟨_, rfl⟩
            have hnw := fun W => pnewer_any m v okm.2.2 okv.2.2 W
            rw [hnv] at hnw
            dsimp only at ex1 ex2 ex3
            rw [hnv] at ex1 ex2 ex3 hz
            rw [if_pos hz] at ex3
            rw [if_neg (by omega)] at ex1 ex2
            have d1 : decide (nv < 0) = false := decide_eq_false (by omega)
            have d2 : (nv == 0) = true := by simpa using hz
            subst ex1 ex2 ex3
            simp only [List.append_nil] at nx1 nx2 nx3 hap
            have HF1 := Lib.hid hfm
            have HF2 := Lib.hid hft
            have HN1 := Lib.hid hn1
            have HN2 := Lib.hid hn2
            have HN3 := Lib.hid hn3
            have HAP := Lib.hid hap
            have T1 : True := trivial
            clear hfm hft hn1 hn2 hn3 hap hM hT hor hL hLk
            go_wp2_with (first
              | (go_at_call 32; have _t := T1; clear T1 _t; (with_reducible refine (HF1.out _ BA.out).mono ?_); rintro e w5 ⟨rfl, hb⟩; have B5 := Lib.hid (BA.out.trans (hb.mono BA.out.size)); have S5 := Lib.hid (hb.mono (show wr.heap.size + 1 ≤ _ by rw [ZA.out]; exact Nat.le_refl _)); have LT5 := Lib.hid (show wr.heap.size < w5.heap.size by have := hb.size; have := ZA.out; omega); obtain ⟨a0, a1, a2, a3, a4, a5⟩ := XH.out (w5.alloc (.cells #[.int .i64 m.id.d, .int .i64 m.id.o, .int .i64 m.id.k, .int .i64 m.id.n, .int .i64 m.seq, .int .i64 m.life] 34)) (S5.out.alloc (by have := LT5.out; omega) _); have XM : Hid (∀ W, Below (w5.heap.size + 1) (w5.alloc (.cells #[.int .i64 m.id.d, .int .i64 m.id.o, .int .i64 m.id.k, .int .i64 m.id.n, .int .i64 m.seq, .int .i64 m.life] 34)) W → W.cell? ⟨w5.heap.size, 0, none⟩ = some (.int .i64 m.id.d) ∧ W.cell? ⟨w5.heap.size, 1, none⟩ = some (.int .i64 m.id.o) ∧ W.cell? ⟨w5.heap.size, 2, none⟩ = some (.int .i64 m.id.k) ∧ W.cell? ⟨w5.heap.size, 3, none⟩ = some (.int .i64 m.id.n) ∧ W.cell? ⟨w5.heap.size, 4, none⟩ = some (.int .i64 m.seq) ∧ W.cell? ⟨w5.heap.size, 5, none⟩ = some (.int .i64 m.life)) := (fun W hbm => by have := (hbm.block w5.heap.size (by omega)).trans (heap_alloc_new w5 _); simp [World.cell?, this]); clear hb)
              | (go_at_call 32; (with_reducible refine (HF2.out _ (B5.out.alloc B5.out.size _)).mono ?_); rintro e w6 ⟨rfl, hb⟩; have B6 := Lib.hid ((B5.out.alloc B5.out.size (.cells #[.int .i64 m.id.d, .int .i64 m.id.o, .int .i64 m.id.k, .int .i64 m.id.n, .int .i64 m.seq, .int .i64 m.life] 34)).trans (hb.mono (by have := B5.out.size; simp; omega))); have S6 := Lib.hid ((S5.out.alloc (by have := LT5.out; omega) (.cells #[.int .i64 m.id.d, .int .i64 m.id.o, .int .i64 m.id.k, .int .i64 m.id.n, .int .i64 m.seq, .int .i64 m.life] 34)).trans (hb.mono (by have := LT5.out; simp; omega))); have LT6 := Lib.hid (show w5.heap.size < w6.heap.size by have := hb.size; simp at this; omega); have M6 := Lib.hid (hb.mono (show w5.heap.size + 1 ≤ _ by simp)); obtain ⟨m0, m1, m2, m3, m4, m5⟩ := XM.out (w6.alloc (.cells #[.int .i64 v.id.d, .int .i64 v.id.o, .int .i64 v.id.k, .int .i64 v.id.n, .int .i64 v.seq, .int .i64 v.life] 34)) (M6.out.alloc (by have := LT6.out; omega) _); have XT : Hid (∀ W, Below (w6.heap.size + 1) (w6.alloc (.cells #[.int .i64 v.id.d, .int .i64 v.id.o, .int .i64 v.id.k, .int .i64 v.id.n, .int .i64 v.seq, .int .i64 v.life] 34)) W → W.cell? ⟨w6.heap.size, 0, none⟩ = some (.int .i64 v.id.d) ∧ W.cell? ⟨w6.heap.size, 1, none⟩ = some (.int .i64 v.id.o) ∧ W.cell? ⟨w6.heap.size, 2, none⟩ = some (.int .i64 v.id.k) ∧ W.cell? ⟨w6.heap.size, 3, none⟩ = some (.int .i64 v.id.n) ∧ W.cell? ⟨w6.heap.size, 4, none⟩ = some (.int .i64 v.seq) ∧ W.cell? ⟨w6.heap.size, 5, none⟩ = some (.int .i64 v.life)) := (fun W hbm => by have := (hbm.block w6.heap.size (by omega)).trans (heap_alloc_new w6 _); simp [World.cell?, this]); clear hb a0 a1 a2 a3 a4 a5)
              | (go_at_call 15; (with_reducible refine (hnw _).mono ?_); rintro e w7 ⟨rfl, hfw⟩; have B7 := Lib.hid ((B6.out.alloc B6.out.size (.cells #[.int .i64 v.id.d, .int .i64 v.id.o, .int .i64 v.id.k, .int .i64 v.id.n, .int .i64 v.seq, .int .i64 v.life] 34)).trans (hfw.bel.mono (by have := B6.out.size; simp; omega))); obtain ⟨a0, a1, a2, a3, a4, a5⟩ := XH.out w7 ((S6.out.alloc (by have := LT5.out; have := LT6.out; omega) (.cells #[.int .i64 v.id.d, .int .i64 v.id.o, .int .i64 v.id.k, .int .i64 v.id.n, .int .i64 v.seq, .int .i64 v.life] 34)).trans (hfw.bel.mono (by have := LT5.out; have := LT6.out; simp; omega))); obtain ⟨b0, b1, b2, b3, b4, b5⟩ := XT.out w7 (hfw.bel.mono (by simp)); have K7 := Lib.hid (((((Below.refl wr.heap.size wr).alloc (Nat.le_refl _) (.cells #[.int .i64 h.id.d, .int .i64 h.id.o, .int .i64 h.id.k, .int .i64 h.id.n, .int .i64 h.seq, .int .i64 h.life] 34)).trans (S5.out.mono (Nat.le_succ _))).alloc (by have := LT5.out; omega) (.cells #[.int .i64 m.id.d, .int .i64 m.id.o, .int .i64 m.id.k, .int .i64 m.id.n, .int .i64 m.seq, .int .i64 m.life] 34) |>.trans (M6.out.mono (by have := LT5.out; omega))).alloc (by have := LT5.out; have := LT6.out; omega) (.cells #[.int .i64 v.id.d, .int .i64 v.id.o, .int .i64 v.id.k, .int .i64 v.id.n, .int .i64 v.seq, .int .i64 v.life] 34) |>.trans (hfw.bel.mono (by have := LT5.out; have := LT6.out; simp; omega))); clear hfw m0 m1 m2 m3 m4 m5)
              | (at_builtin; refine kindI.wp_append rfl _ _ rfl w2.heap.size _ L3 rfl (O3.out.below K7.out |>.below ((Below.refl _ _).alloc (Nat.le_refl _) _)) _ [h.id] 1 1 rfl rfl (rd_oneE kindI w7 h.id) (by have := HLL.out; unfold maxLen; simp; omega) (by have := HLL.out; simp; omega) (by have := B7.out.size; simp; omega) ?_; intro A8 n8 c8 w8 hn8 ho8 hb8 hg8; have N8 := Lib.hid hn8; have O8 := Lib.hid ho8; have B8 := Lib.hid ((B7.out.alloc B7.out.size _).trans hb8); have G8 := Lib.hid hg8; clear hn8 ho8 hb8 hg8))
            go_roundw
            case rel => exact ⟨k + 1, by omega, by go_num, ⟨A1, n1, c1, rfl, by rw [nx1]; exact HN1.out.1, by rw [nx1]; exact HN1.out.2⟩, ⟨A2, n2, c2, rfl, by rw [nx2]; exact HN2.out.1, by rw [nx2]; exact HN2.out.2⟩, ⟨A8, n8, c8, rfl, by rw [nx3]; exact N8.out, by rw [nx3]; intro q; simp at q⟩, by unfold Hid; rw [nx1]; exact OwnE.grownT ((O1.out.below K7.out).below ((Below.refl _ _).alloc (Nat.le_refl _) _)) ((O3.out.below K7.out).below ((Below.refl _ _).alloc (Nat.le_refl _) _)) G8.out (by decide), by unfold Hid; rw [nx2]; exact OwnE.grownA ((O2.out.below K7.out).below ((Below.refl _ _).alloc (Nat.le_refl _) _)) ((O3.out.below K7.out).below ((Below.refl _ _).alloc (Nat.le_refl _) _)) G8.out (fun i j hi hj => HAP.out i j hi (List.mem_append_left _ hj)) (fun q => by rw [HN2.out.2 q]; rfl) (fun q => by rw [HN3.out.2 q]; rfl), by unfold Hid; rw [nx3]; exact O8.out, B8.out⟩
            case measure => simp [intOf]; omega
          · have hpos := hpos0
            rw [em] at hfm ex1 ex2 ex3 hM
            simp only [Option.getD_some, Option.isSome_some] at hfm
            have okm := hM m rfl
            rw [et] at hft ex1 ex2 ex3 hT
            simp only [Option.getD_some, Option.isSome_some] at hft
            have okv := hT v rfl
            obtain ⟨nv, hnv⟩ : ∃ nv, newT m v = nv := ⟨_, rfl⟩
            have hnw := fun W => pnewer_any m v okm.2.2 okv.2.2 W
            rw [hnv] at hnw
            dsimp only at ex1 ex2 ex3
            rw [hnv] at ex1 ex2 ex3 hpos
            rw [if_pos hpos] at ex2
            rw [if_neg (by omega)] at ex1 ex3
            have d1 : decide (nv < 0) = false := decide_eq_false (by omega)
            have d2 : (nv == 0) = false := by simp; omega
            subst ex1 ex2 ex3
            simp only [List.append_nil] at nx1 nx2 nx3 hap
            have HF1 := Lib.hid hfm
            have HF2 := Lib.hid hft
            have HN1 := Lib.hid hn1
            have HN2 := Lib.hid hn2
            have HN3 := Lib.hid hn3
            have HAP := Lib.hid hap
            have T1 : True := trivial
            clear hfm hft hn1 hn2 hn3 hap hM hT hor hL hLk
            go_wp2_with (first
              | (go_at_call 32; have _t := T1; clear T1 _t; (with_reducible refine (HF1.out _ BA.out).mono ?_); rintro e w5 ⟨rfl, hb⟩; have B5 := Lib.hid (BA.out.trans (hb.mono BA.out.size)); have S5 := Lib.hid (hb.mono (show wr.heap.size + 1 ≤ _ by rw [ZA.out]; exact Nat.le_refl _)); have LT5 := Lib.hid (show wr.heap.size < w5.heap.size by have := hb.size; have := ZA.out; omega); obtain ⟨a0, a1, a2, a3, a4, a5⟩ := XH.out (w5.alloc (.cells #[.int .i64 m.id.d, .int .i64 m.id.o, .int .i64 m.id.k, .int .i64 m.id.n, .int .i64 m.seq, .int .i64 m.life] 34)) (S5.out.alloc (by have := LT5.out; omega) _); have XM : Hid (∀ W, Below (w5.heap.size + 1) (w5.alloc (.cells #[.int .i64 m.id.d, .int .i64 m.id.o, .int .i64 m.id.k, .int .i64 m.id.n, .int .i64 m.seq, .int .i64 m.life] 34)) W → W.cell? ⟨w5.heap.size, 0, none⟩ = some (.int .i64 m.id.d) ∧ W.cell? ⟨w5.heap.size, 1, none⟩ = some (.int .i64 m.id.o) ∧ W.cell? ⟨w5.heap.size, 2, none⟩ = some (.int .i64 m.id.k) ∧ W.cell? ⟨w5.heap.size, 3, none⟩ = some (.int .i64 m.id.n) ∧ W.cell? ⟨w5.heap.size, 4, none⟩ = some (.int .i64 m.seq) ∧ W.cell? ⟨w5.heap.size, 5, none⟩ = some (.int .i64 m.life)) := (fun W hbm => by have := (hbm.block w5.heap.size (by omega)).trans (heap_alloc_new w5 _); simp [World.cell?, this]); clear hb)
              | (go_at_call 32; (with_reducible refine (HF2.out _ (B5.out.alloc B5.out.size _)).mono ?_); rintro e w6 ⟨rfl, hb⟩; have B6 := Lib.hid ((B5.out.alloc B5.out.size (.cells #[.int .i64 m.id.d, .int .i64 m.id.o, .int .i64 m.id.k, .int .i64 m.id.n, .int .i64 m.seq, .int .i64 m.life] 34)).trans (hb.mono (by have := B5.out.size; simp; omega))); have S6 := Lib.hid ((S5.out.alloc (by have := LT5.out; omega) (.cells #[.int .i64 m.id.d, .int .i64 m.id.o, .int .i64 m.id.k, .int .i64 m.id.n, .int .i64 m.seq, .int .i64 m.life] 34)).trans (hb.mono (by have := LT5.out; simp; omega))); have LT6 := Lib.hid (show w5.heap.size < w6.heap.size by have := hb.size; simp at this; omega); have M6 := Lib.hid (hb.mono (show w5.heap.size + 1 ≤ _ by simp)); obtain ⟨m0, m1, m2, m3, m4, m5⟩ := XM.out (w6.alloc (.cells #[.int .i64 v.id.d, .int .i64 v.id.o, .int .i64 v.id.k, .int .i64 v.id.n, .int .i64 v.seq, .int .i64 v.life] 34)) (M6.out.alloc (by have := LT6.out; omega) _); have XT : Hid (∀ W, Below (w6.heap.size + 1) (w6.alloc (.cells #[.int .i64 v.id.d, .int .i64 v.id.o, .int .i64 v.id.k, .int .i64 v.id.n, .int .i64 v.seq, .int .i64 v.life] 34)) W → W.cell? ⟨w6.heap.size, 0, none⟩ = some (.int .i64 v.id.d) ∧ W.cell? ⟨w6.heap.size, 1, none⟩ = some (.int .i64 v.id.o) ∧ W.cell? ⟨w6.heap.size, 2, none⟩ = some (.int .i64 v.id.k) ∧ W.cell? ⟨w6.heap.size, 3, none⟩ = some (.int .i64 v.id.n) ∧ W.cell? ⟨w6.heap.size, 4, none⟩ = some (.int .i64 v.seq) ∧ W.cell? ⟨w6.heap.size, 5, none⟩ = some (.int .i64 v.life)) := (fun W hbm => by have := (hbm.block w6.heap.size (by omega)).trans (heap_alloc_new w6 _); simp [World.cell?, this]); clear hb a0 a1 a2 a3 a4 a5)
              | (go_at_call 15; (with_reducible refine (hnw _).mono ?_); rintro e w7 ⟨rfl, hfw⟩; have B7 := Lib.hid ((B6.out.alloc B6.out.size (.cells #[.int .i64 v.id.d, .int .i64 v.id.o, .int .i64 v.id.k, .int .i64 v.id.n, .int .i64 v.seq, .int .i64 v.life] 34)).trans (hfw.bel.mono (by have := B6.out.size; simp; omega))); obtain ⟨a0, a1, a2, a3, a4, a5⟩ := XH.out w7 ((S6.out.alloc (by have := LT5.out; have := LT6.out; omega) (.cells #[.int .i64 v.id.d, .int .i64 v.id.o, .int .i64 v.id.k, .int .i64 v.id.n, .int .i64 v.seq, .int .i64 v.life] 34)).trans (hfw.bel.mono (by have := LT5.out; have := LT6.out; simp; omega))); obtain ⟨b0, b1, b2, b3, b4, b5⟩ := XT.out w7 (hfw.bel.mono (by simp)); have K7 := Lib.hid (((((Below.refl wr.heap.size wr).alloc (Nat.le_refl _) (.cells #[.int .i64 h.id.d, .int .i64 h.id.o, .int .i64 h.id.k, .int .i64 h.id.n, .int .i64 h.seq, .int .i64 h.life] 34)).trans (S5.out.mono (Nat.le_succ _))).alloc (by have := LT5.out; omega) (.cells #[.int .i64 m.id.d, .int .i64 m.id.o, .int .i64 m.id.k, .int .i64 m.id.n, .int .i64 m.seq, .int .i64 m.life] 34) |>.trans (M6.out.mono (by have := LT5.out; omega))).alloc (by have := LT5.out; have := LT6.out; omega) (.cells #[.int .i64 v.id.d, .int .i64 v.id.o, .int .i64 v.id.k, .int .i64 v.id.n, .int .i64 v.seq, .int .i64 v.life] 34) |>.trans (hfw.bel.mono (by have := LT5.out; have := LT6.out; simp; omega))); clear hfw m0 m1 m2 m3 m4 m5)
              | (at_builtin; refine kindI.wp_append rfl _ _ rfl w2.heap.size _ L2 rfl (O2.out.below K7.out |>.below ((Below.refl _ _).alloc (Nat.le_refl _) _)) _ [h.id] 1 1 rfl rfl (rd_oneE kindI w7 h.id) (by have := HLL.out; unfold maxLen; simp; omega) (by have := HLL.out; simp; omega) (by have := B7.out.size; simp; omega) ?_; intro A8 n8 c8 w8 hn8 ho8 hb8 hg8; have N8 := Lib.hid hn8; have O8 := Lib.hid ho8; have B8 := Lib.hid ((B7.out.alloc B7.out.size _).trans hb8); have G8 := Lib.hid hg8; clear hn8 ho8 hb8 hg8))
            go_roundw
            case rel => exact ⟨k + 1, by omega, by go_num, ⟨A1, n1, c1, rfl, by rw [nx1]; exact HN1.out.1, by rw [nx1]; exact HN1.out.2⟩, ⟨A8, n8, c8, rfl, by rw [nx2]; exact N8.out, by rw [nx2]; intro q; simp at q⟩, ⟨A3, n3, c3, rfl, by rw [nx3]; exact HN3.out.1, by rw [nx3]; exact HN3.out.2⟩, by unfold Hid; rw [nx1]; exact OwnE.grownT ((O1.out.below K7.out).below ((Below.refl _ _).alloc (Nat.le_refl _) _)) ((O2.out.below K7.out).below ((Below.refl _ _).alloc (Nat.le_refl _) _)) G8.out (by decide), by unfold Hid; rw [nx2]; exact O8.out, by unfold Hid; rw [nx3]; exact OwnE.grownA ((O3.out.below K7.out).below ((Below.refl _ _).alloc (Nat.le_refl _) _)) ((O2.out.below K7.out).below ((Below.refl _ _).alloc (Nat.le_refl _) _)) G8.out (fun i j hi hj e => HAP.out j i (List.mem_append_left _ hj) hi e.symm) (fun q => by rw [HN3.out.2 q]; rfl) (fun q => by rw [HN2.out.2 q]; rfl), B8.out⟩
            case measure => simp [intOf]; omega
    · obtain rfl : k = bn := by omega
      have htk : both.take k = both := List.take_of_length_le (by rw [HLB2.out]; exact Nat.le_refl _)
      rw [htk] at O1 O2 O3
      clear hn1 hn2 hn3 htk hlt
      go_wp2
      refine bodyPost_ret (results_tmp3 rfl _ _ _) rfl ?_
      exact ⟨⟨_, _, _, rfl, O1.out.mono BW2.out.size, O2.out.mono BW2.out.size, O3.out.mono BW2.out.size⟩, BW2.out.trans (HB.out.mono BW2.out.size)⟩
end Go.Proofs.Ytjfnpciecgemeaa.ti
