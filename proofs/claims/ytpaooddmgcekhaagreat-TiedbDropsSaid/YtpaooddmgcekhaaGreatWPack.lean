/-
  THE TRAVERSAL's packet.
-/
import Derived.Test.YtpaooddmgcekhaaGreatWEachH
import Derived.Test.YtpaooddmgcekhaaGreatWTie
namespace Go.Proofs.YtpaooddmgcekhaaGreat
open Go.RowKit Go.Shelf
set_option linter.unusedVariables false

/-- A value is a slice of structs that reads as a list. -/
def Sl {E : Type} (sz : Nat) (enc : E → List Value) (n₀ : Nat) (W : World) (v : Value) (l : List E) : Prop := ∃ A c, v = .slice A l.length c ∧ l.length ≤ c ∧ c ≤ maxLen ∧ RdR sz enc n₀ W A l
theorem Sl.below {E : Type} {sz : Nat} {enc : E → List Value} {n₀ : Nat} {W W' : World} {v : Value} {l : List E} (h : Sl sz enc n₀ W v l) (hb : Below n₀ W W') : Sl sz enc n₀ W' v l := by
  obtain ⟨A, c, e, h1, h2, hr⟩ := h
  exact ⟨A, c, e, h1, h2, hr.below hb⟩
theorem Sl.mono {E : Type} {sz : Nat} {enc : E → List Value} {n₀ n₁ : Nat} {W : World} {v : Value} {l : List E} (h : Sl sz enc n₀ W v l) (hn : n₀ ≤ n₁) : Sl sz enc n₁ W v l := by
  obtain ⟨A, c, e, h1, h2, hr⟩ := h
  exact ⟨A, c, e, h1, h2, hr.mono hn⟩
theorem flat_get {E : Type} {enc : E → List Value} {sz : Nat} (hsz : ∀ x, (enc x).length = sz) : ∀ (l : List E) (j : Nat) (x : E), l[j]? = some x → ∀ (i : Nat) (v : Value), (enc x)[i]? = some v → (l.flatMap enc)[j * sz + i]? = some v := by
  intro l
  induction l with
  | nil => intro j x h; simp at h
  | cons y l ih =>
    intro j x h i v hv
    rw [List.flatMap_cons]
    cases j with
    | zero =>
      simp at h
      subst h
      have hi := (List.getElem?_eq_some_iff.1 hv).1
      rw [Nat.zero_mul, Nat.zero_add, List.getElem?_append_left hi]
      exact hv
    | succ j =>
      have h' : l[j]? = some x := by simpa using h
      have hl := hsz y
      rw [Nat.succ_mul, List.getElem?_append_right (by omega), hl, show j * sz + sz + i - sz = j * sz + i by omega]
      exact ih j x h' i v hv
/-- A row of one's own reads as its list. -/
theorem Sl.own {E : Type} {sz : Nat} {enc : E → List Value} (hsz : ∀ x, (enc x).length = sz) {n₀ : Nat} {W : World} {e : TypeId} {v : Value} {l : List E} (h : W.ownsRow n₀ e sz v l.length (l.flatMap enc)) : Sl sz enc W.heap.size W v l := by
  rcases h.2 with ⟨rfl, h0⟩ | ⟨g, cap, cur, rfl, _, hh, hc, hm, _, hx⟩
  · exact ⟨none, 0, by rw [h0], by omega, Nat.zero_le _, fun hp => by omega⟩
  · refine ⟨_, cap, rfl, hc, hm, fun hp => ⟨g, 0, rfl, lt_of_block hh, fun j x hj i u hu => ?_⟩⟩
    rw [cell_of_row W g _ cur e (0, 0) hh, Nat.zero_add]
    have hf := flat_get hsz l j x hj i u hu
    have hlt : j * sz + i < l.length * sz := by
      have hj' := (List.getElem?_eq_some_iff.1 hj).1
      have hi := (List.getElem?_eq_some_iff.1 hu).1
      rw [hsz] at hi
      have := Nat.mul_le_mul_right sz (Nat.succ_le_of_lt hj')
      rw [Nat.succ_mul] at this
      omega
    rw [← hx, List.getElem?_take, if_pos hlt] at hf
    simpa using hf
theorem len_encHead (x : HeadT) : (encHead x).length = 6 := rfl
theorem len_encEdge (x : EdgeT) : (encEdge x).length = 3 := rfl
theorem len_encReach (x : ReachT) : (encReach x).length = 3 := rfl

section
variable {σ : Type}
theorem packet1_any {E : Env σ} (ok : E.Ok) (q1 q2 B off : Nat) (hq1 : q1 ≠ B) (hq2 : q2 ≠ B) (x : LieT) {r : Nat} (t : σ × Bool) (W : World) (h : E.St (r + 12) t W)
    (h1 : At E.base W q1 0 [.pointer (some ⟨E.bt, 0, none⟩)]) (h2 : At E.base W q2 0 [.pointer (some ⟨B, off, none⟩)]) (ha : At E.base W B (off + 1) (encLie x)) :
    Calls Tryz.prog 85 #[.pointer (some ⟨q1, 0, none⟩), .pointer (some ⟨q2, 0, none⟩)] W fun e w' =>
      e = .returned (.tuple #[]) ∧ E.St r (lieM E.M x t).2 w' ∧ Chg E.base B (off + 1) (off + 1 + 12) W w' ∧ At E.base w' B (off + 1) (encLie (lieM E.M x t).1) := by
  have c1 := h1.cell0 rfl
  have c2 := h2.cell0 rfl
  have hc := Lib.hid (lie_any ok B (off + 1) x t W.drew (h.drew ok) ha)
  have H1 := Lib.hid h1.drew
  have H2 := Lib.hid h2.drew
  clear h h1 h2 ha
  go_enter Tryz.func85, Tryz.ntmps85
  go_wp2
  go_region_held (fun w' => w'.cell? ⟨q1, 0, none⟩ = some (.pointer (some ⟨E.bt, 0, none⟩)) ∧ w'.cell? ⟨q2, 0, none⟩ = some (.pointer (some ⟨B, off, none⟩))) (first | go_keep | exact ⟨by assumption, by assumption⟩)
    (first
      | (go_at_call 86; refine hc.out.mono ?_; rintro e w1 ⟨rfl, hs1, hc1, ha1⟩; have d1 := (At.chg H1.out hc1 (.inl hq1)).cell0 rfl; have d2 := (At.chg H2.out hc1 (.inl hq2)).cell0 rfl; have S1 := Lib.hid hs1; have C1 := Lib.hid hc1.drawn; have A1 := Lib.hid ha1; clear hs1 hc1 ha1))
  go_wp2
  go_end0
  exact ⟨rfl, S1.out, C1.out, A1.out⟩

theorem packet3_any {E : Env σ} (ok : E.Ok) (q1 q2 B off : Nat) (hq1 : q1 ≠ B) (hq2 : q2 ≠ B) (x : IdT) {r : Nat} (t : σ × Bool) (W : World) (h : E.St (r + 4) t W)
    (h1 : At E.base W q1 0 [.pointer (some ⟨E.bt, 0, none⟩)]) (h2 : At E.base W q2 0 [.pointer (some ⟨B, off, none⟩)]) (ha : At E.base W B (off + 23) (encId x)) :
    Calls Tryz.prog 89 #[.pointer (some ⟨q1, 0, none⟩), .pointer (some ⟨q2, 0, none⟩)] W fun e w' =>
      e = .returned (.tuple #[]) ∧ E.St r (idM E.M x t).2 w' ∧ Chg E.base B (off + 23) (off + 23 + 4) W w' ∧ At E.base w' B (off + 23) (encId (idM E.M x t).1) := by
  have c1 := h1.cell0 rfl
  have c2 := h2.cell0 rfl
  have hc := Lib.hid (tieId_any ok B (off + 23) x t W.drew (h.drew ok) ha)
  have H1 := Lib.hid h1.drew
  have H2 := Lib.hid h2.drew
  clear h h1 h2 ha
  go_enter Tryz.func89, Tryz.ntmps89
  go_wp2
  go_region_held (fun w' => w'.cell? ⟨q1, 0, none⟩ = some (.pointer (some ⟨E.bt, 0, none⟩)) ∧ w'.cell? ⟨q2, 0, none⟩ = some (.pointer (some ⟨B, off, none⟩))) (first | go_keep | exact ⟨by assumption, by assumption⟩)
    (first
      | (go_at_call 90; refine hc.out.mono ?_; rintro e w1 ⟨rfl, hs1, hc1, ha1⟩; have d1 := (At.chg H1.out hc1 (.inl hq1)).cell0 rfl; have d2 := (At.chg H2.out hc1 (.inl hq2)).cell0 rfl; have S1 := Lib.hid hs1; have C1 := Lib.hid hc1.drawn; have A1 := Lib.hid ha1; clear hs1 hc1 ha1))
  go_wp2
  go_end0
  exact ⟨rfl, S1.out, C1.out, A1.out⟩

theorem packet4_any {E : Env σ} (ok : E.Ok) (q1 q2 B off : Nat) (hq1 : q1 ≠ B) (hq2 : q2 ≠ B) (x : IdT) {r : Nat} (t : σ × Bool) (W : World) (h : E.St (r + 4) t W)
    (h1 : At E.base W q1 0 [.pointer (some ⟨E.bt, 0, none⟩)]) (h2 : At E.base W q2 0 [.pointer (some ⟨B, off, none⟩)]) (ha : At E.base W B (off + 27) (encId x)) :
    Calls Tryz.prog 91 #[.pointer (some ⟨q1, 0, none⟩), .pointer (some ⟨q2, 0, none⟩)] W fun e w' =>
      e = .returned (.tuple #[]) ∧ E.St r (idM E.M x t).2 w' ∧ Chg E.base B (off + 27) (off + 27 + 4) W w' ∧ At E.base w' B (off + 27) (encId (idM E.M x t).1) := by
  have c1 := h1.cell0 rfl
  have c2 := h2.cell0 rfl
  have hc := Lib.hid (tieId_any ok B (off + 27) x t W.drew (h.drew ok) ha)
  have H1 := Lib.hid h1.drew
  have H2 := Lib.hid h2.drew
  clear h h1 h2 ha
  go_enter Tryz.func91, Tryz.ntmps91
  go_wp2
  go_region_held (fun w' => w'.cell? ⟨q1, 0, none⟩ = some (.pointer (some ⟨E.bt, 0, none⟩)) ∧ w'.cell? ⟨q2, 0, none⟩ = some (.pointer (some ⟨B, off, none⟩))) (first | go_keep | exact ⟨by assumption, by assumption⟩)
    (first
      | (go_at_call 90; refine hc.out.mono ?_; rintro e w1 ⟨rfl, hs1, hc1, ha1⟩; have d1 := (At.chg H1.out hc1 (.inl hq1)).cell0 rfl; have d2 := (At.chg H2.out hc1 (.inl hq2)).cell0 rfl; have S1 := Lib.hid hs1; have C1 := Lib.hid hc1.drawn; have A1 := Lib.hid ha1; clear hs1 hc1 ha1))
  go_wp2
  go_end0
  exact ⟨rfl, S1.out, C1.out, A1.out⟩


/-- What a tie leaves. -/
def TieR (base n₀ B off : Nat) (x : TieT) (w : World) : Prop := ∃ ve vr, At base w B off (encTie x ve vr) ∧ w.ownsRow n₀ 94 3 ve x.edges.length (x.edges.flatMap encEdge) ∧ w.ownsRow n₀ 99 3 vr x.reaches.length (x.reaches.flatMap encReach)
theorem TieR.keep {base n₀ B off : Nat} {x : TieT} {w w' : World} (h : TieR base n₀ B off x w) (k : Keep base w w') : TieR base n₀ B off x w' := by
  obtain ⟨ve, vr, h1, h2, h3⟩ := h
  exact ⟨ve, vr, h1.keep k, own_keep h2 rfl k, own_keep h3 rfl k⟩
theorem packet2_any {E : Env σ} (ok : E.Ok) (q1 q2 B off n₀ : Nat) (hq1 : q1 ≠ B) (hq2 : q2 ≠ B) (x : TieT) (ae ar : Option Addr) (ce cr : Nat) (hle : x.edges.length ≤ 140737488351232) (hlr : x.reaches.length ≤ 140737488351232) (hok : ∀ y ∈ x.reaches, 0 ≤ y.net ∧ y.net < 4294967296) {r : Nat} (t : σ × Bool) (W : World) (hn : n₀ ≤ W.heap.size) (h : E.St (r + 652) t W)
    (h1 : At E.base W q1 0 [.pointer (some ⟨E.bt, 0, none⟩)]) (h2 : At E.base W q2 0 [.pointer (some ⟨B, off, none⟩)]) (ha : At E.base W B (off + 13) (encTie x (.slice ae x.edges.length ce) (.slice ar x.reaches.length cr))) (hre : RdR 3 encEdge E.base W ae x.edges) (hrr : RdR 3 encReach E.base W ar x.reaches) :
    Calls Tryz.prog 87 #[.pointer (some ⟨q1, 0, none⟩), .pointer (some ⟨q2, 0, none⟩)] W fun e w' =>
      e = .returned (.tuple #[]) ∧ E.St r (tieM E.M x t).2 w' ∧ Chg E.base B (off + 13) (off + 13 + 10) W w' ∧ TieR E.base n₀ B (off + 13) (tieM E.M x t).1 w' := by
  have c1 := h1.cell0 rfl
  have c2 := h2.cell0 rfl
  have hc := Lib.hid (tie_any ok B (off + 13) x ae ar ce cr hle hlr hok t W.drew (h.drew ok) ha (hre.below (Below.refl _ _).drew) (hrr.below (Below.refl _ _).drew))
  have H1 := Lib.hid h1.drew
  have H2 := Lib.hid h2.drew
  clear h h1 h2 ha hre hrr hok
  go_enter Tryz.func87, Tryz.ntmps87
  go_wp2
  go_region_held (fun w' => w'.cell? ⟨q1, 0, none⟩ = some (.pointer (some ⟨E.bt, 0, none⟩)) ∧ w'.cell? ⟨q2, 0, none⟩ = some (.pointer (some ⟨B, off, none⟩))) (first | go_keep | exact ⟨by assumption, by assumption⟩)
    (first
      | (go_at_call 88; refine hc.out.mono ?_; rintro e w1 ⟨ve, vr, rfl, hs1, hc1, ha1, ho1, ho2⟩; have d1 := (At.chg H1.out hc1 (.inl hq1)).cell0 rfl; have d2 := (At.chg H2.out hc1 (.inl hq2)).cell0 rfl; have S1 := Lib.hid hs1; have C1 := Lib.hid hc1.drawn; have A1 : RowKit.Hid (TieR E.base n₀ B (off + 13) (tieM E.M x t).1 w1) := ⟨ve, vr, ha1, own_less ho1 hn, own_less ho2 hn⟩; clear hs1 hc1 ha1 ho1 ho2))
  go_wp2
  go_end0
  exact ⟨rfl, S1.out, C1.out, A1.out⟩

/-- A packet's cells. -/
def encPack (p : PackT) (ve vr vh : Value) : List Value := [.int .i64 p.kind] ++ (encLie p.lie ++ (encTie p.tie ve vr ++ (encId p.frm ++ (encId p.to ++ [vh]))))
def encP (k : Int) (l : LieT) (x : TieT) (ve vr : Value) (a b : IdT) (vh : Value) : List Value := [.int .i64 k] ++ (encLie l ++ (encTie x ve vr ++ (encId a ++ (encId b ++ [vh]))))
theorem cellsL {base : Nat} {W W' : World} {B off : Nat} {k : Int} {l l' : LieT} {x : TieT} {ve vr : Value} {a b : IdT} {vh : Value} (h : At base W B off (encP k l x ve vr a b vh)) (c : Chg base B (off + 1) (off + 1 + 12) W W') (h' : At base W' B (off + 1) (encLie l')) : At base W' B off (encP k l' x ve vr a b vh) :=
  At.join (a := [.int .i64 k]) (b := encLie l) (b' := encLie l') (c := encTie x ve vr ++ (encId a ++ (encId b ++ [vh]))) (i := 1) h rfl rfl c h'
theorem cellsX {base : Nat} {W W' : World} {B off : Nat} {k : Int} {l : LieT} {x x' : TieT} {ve vr ve' vr' : Value} {a b : IdT} {vh : Value} (h : At base W B off (encP k l x ve vr a b vh)) (c : Chg base B (off + 13) (off + 13 + 10) W W') (h' : At base W' B (off + 13) (encTie x' ve' vr')) : At base W' B off (encP k l x' ve' vr' a b vh) :=
  At.join (a := [.int .i64 k] ++ encLie l) (b := encTie x ve vr) (b' := encTie x' ve' vr') (c := encId a ++ (encId b ++ [vh])) (i := 13) h rfl rfl c h'
theorem cellsA {base : Nat} {W W' : World} {B off : Nat} {k : Int} {l : LieT} {x : TieT} {ve vr : Value} {a a' b : IdT} {vh : Value} (h : At base W B off (encP k l x ve vr a b vh)) (c : Chg base B (off + 23) (off + 23 + 4) W W') (h' : At base W' B (off + 23) (encId a')) : At base W' B off (encP k l x ve vr a' b vh) :=
  At.join (a := [.int .i64 k] ++ (encLie l ++ encTie x ve vr)) (b := encId a) (b' := encId a') (c := encId b ++ [vh]) (i := 23) h rfl rfl c h'
theorem cellsB {base : Nat} {W W' : World} {B off : Nat} {k : Int} {l : LieT} {x : TieT} {ve vr : Value} {a b b' : IdT} {vh : Value} (h : At base W B off (encP k l x ve vr a b vh)) (c : Chg base B (off + 27) (off + 27 + 4) W W') (h' : At base W' B (off + 27) (encId b')) : At base W' B off (encP k l x ve vr a b' vh) :=
  At.join (a := [.int .i64 k] ++ (encLie l ++ (encTie x ve vr ++ encId a))) (b := encId b) (b' := encId b') (c := [vh]) (i := 27) h rfl rfl c h'

/-- A list lies in no block that is elder. -/
def Far1 (n : Nat) (v : Value) : Prop := ∀ b o m c, v = .slice (some ⟨b, o, none⟩) m c → 0 < m → n ≤ b
theorem Far1.nil {E : Type} {l : List E} (h : l = []) (n : Nat) (A : Option Addr) (c : Nat) : Far1 n (.slice A l.length c) := by
  subst h
  intro b o m c e hm
  injection e with _ e2 _
  subst e2
  cases hm
theorem Far1.own {n : Nat} {W : World} {e : TypeId} {sz k : Nat} {v : Value} {xs : List Value} (h : W.ownsRow n e sz v k xs) : Far1 n v := by
  intro b o m c e hm
  subst e
  exact (h.lt b rfl).1
/-- Where there were no lists, those that were made are new. -/
def FarP (n : Nat) (p : PackT) (ve vr vh : Value) : Prop := p.tie.edges = [] → p.tie.reaches = [] → p.heads = [] → Far1 n ve ∧ Far1 n vr ∧ Far1 n vh
/-- What a traversal leaves of a packet. -/
def PackP (E : Env σ) (B off : Nat) (p : PackT) (t : σ × Bool) (W : World) (e : Ending) (w' : World) : Prop :=
  ∃ ve vr vh, e = .returned (.tuple #[]) ∧ E.St 0 (packM E.M p t).2 w' ∧ Chg E.base B off (off + 32) W w' ∧ At E.base w' B off (encPack (packM E.M p t).1 ve vr vh) ∧
    Sl 3 encEdge w'.heap.size w' ve (packM E.M p t).1.tie.edges ∧ Sl 3 encReach w'.heap.size w' vr (packM E.M p t).1.tie.reaches ∧ Sl 6 encHead w'.heap.size w' vh (packM E.M p t).1.heads ∧ FarP W.heap.size p ve vr vh
theorem sl_up {E : Type} {sz : Nat} {enc : E → List Value} {n₀ : Nat} {W W' : World} {A : Option Addr} {c : Nat} {l : List E} (h1 : l.length ≤ c) (h2 : c ≤ maxLen) (h : RdR sz enc n₀ W A l) (hb : Below n₀ W W') (hn : n₀ ≤ W'.heap.size) : Sl sz enc W'.heap.size W' (.slice A l.length c) l :=
  ⟨A, c, rfl, h1, h2, (h.below hb).mono hn⟩

set_option maxRecDepth 100000 in
set_option maxHeartbeats 8000000 in
theorem packet_other {E : Env σ} (ok : E.Ok) (B off : Nat) (p : PackT) (ve vr vh : Value) (hle : p.tie.edges.length ≤ 140737488351232) (hlr : p.tie.reaches.length ≤ 140737488351232) (hlh : p.heads.length ≤ 140737488351232) (hok : ∀ y ∈ p.tie.reaches, 0 ≤ y.net ∧ y.net < 4294967296)
    {r : Nat} (t : σ × Bool) (W : World) (h : E.St (r + 700) t W) (ha : At E.base W B off (encPack p ve vr vh)) (hse : Sl 3 encEdge E.base W ve p.tie.edges) (hsr : Sl 3 encReach E.base W vr p.tie.reaches) (hsh : Sl 6 encHead E.base W vh p.heads)
    (y : Int × (σ × Bool)) (hy : btw E.M 1 1 4 p.kind t = y) (h1 : ¬ y.1 = 1) (h2 : ¬ y.1 = 2) (h3 : ¬ y.1 = 3) (h4 : ¬ y.1 = 4) :
    Calls Tryz.prog 68 #[.pointer (some ⟨E.bt, 0, none⟩), .pointer (some ⟨B, off, none⟩)] W (PackP E B off p t W) := by
  have hB := ha.lt
  have hBb := ha.1
  have TW := Lib.hid (Two.new ok h 129 rfl B off)
  have KK := two_keep ok h (.cells #[.pointer (some ⟨E.bt, 0, none⟩)] 147) (.cells #[.pointer (some ⟨B, off, none⟩)] 129)
  have S0 := Lib.hid (((h.alloc ok (.cells #[.pointer (some ⟨E.bt, 0, none⟩)] 147)).alloc ok (.cells #[.pointer (some ⟨B, off, none⟩)] 129)).drew ok)
  have A0 := Lib.hid (ha.keep KK).drew
  have K0 := Lib.hid KK
  obtain ⟨ae, ce, rfl, hec, hem, hre⟩ := hse
  obtain ⟨ar, cr, rfl, hrc, hrm, hrr⟩ := hsr
  obtain ⟨ah, ch, rfl, hhc, hhm, hrh⟩ := hsh
  have HRE := Lib.hid hre
  have HRR := Lib.hid hrr
  have HRH := Lib.hid hrh
  have HOK := Lib.hid hok
  have HY := Lib.hid hy
  have TW0 := Lib.hid TW.out.drew
  have q1 := TW.out.c1
  have q2 := TW.out.c2
  clear h ha KK hre hrr hrh hok hy
  go_enter Tryz.func68, Tryz.ntmps68
  go_wp2
  go_region_held (fun w' => w'.cell? ⟨W.heap.size, 0, none⟩ = some (.pointer (some ⟨E.bt, 0, none⟩)) ∧ w'.cell? ⟨W.heap.size + 1, 0, none⟩ = some (.pointer (some ⟨B, off, none⟩))) (first | go_keep | exact ⟨by assumption, by assumption⟩)
    (first
      | (go_at_call 83; (with_reducible refine (between_at0 ok 1 1 4 B off _ _ rfl t _ S0.out A0.out).mono ?_); rintro e w1 ⟨rfl, hs1, hc1, ha1⟩; rw [HY.out] at hs1 ha1; have S1 := Lib.hid hs1; have A1 : RowKit.Hid (At E.base w1 B off (encP y.1 p.lie p.tie (.slice ae p.tie.edges.length ce) (.slice ar p.tie.reaches.length cr) p.frm p.to (.slice ah p.heads.length ch))) := ha1; have TW1 := Lib.hid (TW0.out.chg hc1 hB); have C1 := Lib.hid ((K0.out.chg B off (off + 32)).trans (hc1.drawn.mono (Nat.le_refl _) (show off + 1 ≤ off + 32 by omega))); clear q1 q2; have q1 : w1.cell? ⟨W.heap.size, 0, none⟩ = some (.pointer (some ⟨E.bt, 0, none⟩)) := TW1.out.c1; have q2 : w1.cell? ⟨W.heap.size + 1, 0, none⟩ = some (.pointer (some ⟨B, off, none⟩)) := TW1.out.c2; have kc : w1.cell? ⟨B, off, none⟩ = some (.int .i64 y.1) := A1.out.cell0 rfl; clear hs1 hc1 ha1))
  go_wp2
  go_end0
  have hyy := HY.out
  subst hyy
  have hm : packM E.M p t = ({ p with kind := (btw E.M 1 1 4 p.kind t).1 }, (btw E.M 1 1 4 p.kind t).2) := by
    simp only [packM, if_neg h1, if_neg h2, if_neg h3, if_neg h4]
  unfold PackP
  rw [hm]
  have hbs : E.base ≤ w1.heap.size := by have := C1.out.bel.size; omega
  exact ⟨_, _, _, rfl, S1.out.less (Nat.zero_le _), C1.out, A1.out, sl_up hec hem HRE.out C1.out.bel hbs, sl_up hrc hrm HRR.out C1.out.bel hbs, sl_up hhc hhm HRH.out C1.out.bel hbs, fun h1 h2 h3 => ⟨Far1.nil h1 _ _ _, Far1.nil h2 _ _ _, Far1.nil h3 _ _ _⟩⟩

set_option maxRecDepth 100000 in
set_option maxHeartbeats 8000000 in
theorem packet_lie {E : Env σ} (ok : E.Ok) (B off : Nat) (p : PackT) (ve vr vh : Value) (hle : p.tie.edges.length ≤ 140737488351232) (hlr : p.tie.reaches.length ≤ 140737488351232) (hlh : p.heads.length ≤ 140737488351232) (hok : ∀ y ∈ p.tie.reaches, 0 ≤ y.net ∧ y.net < 4294967296)
    {r : Nat} (t : σ × Bool) (W : World) (h : E.St (r + 700) t W) (ha : At E.base W B off (encPack p ve vr vh)) (hse : Sl 3 encEdge E.base W ve p.tie.edges) (hsr : Sl 3 encReach E.base W vr p.tie.reaches) (hsh : Sl 6 encHead E.base W vh p.heads)
    (y : Int × (σ × Bool)) (hy : btw E.M 1 1 4 p.kind t = y) (h1 : y.1 = 1) :
    Calls Tryz.prog 68 #[.pointer (some ⟨E.bt, 0, none⟩), .pointer (some ⟨B, off, none⟩)] W (PackP E B off p t W) := by
  have hB := ha.lt
  have hBb := ha.1
  have TW := Lib.hid (Two.new ok h 129 rfl B off)
  have KK := two_keep ok h (.cells #[.pointer (some ⟨E.bt, 0, none⟩)] 147) (.cells #[.pointer (some ⟨B, off, none⟩)] 129)
  have S0 := Lib.hid (((h.alloc ok (.cells #[.pointer (some ⟨E.bt, 0, none⟩)] 147)).alloc ok (.cells #[.pointer (some ⟨B, off, none⟩)] 129)).drew ok)
  have A0 := Lib.hid (ha.keep KK).drew
  have K0 := Lib.hid KK
  obtain ⟨ae, ce, rfl, hec, hem, hre⟩ := hse
  obtain ⟨ar, cr, rfl, hrc, hrm, hrr⟩ := hsr
  obtain ⟨ah, ch, rfl, hhc, hhm, hrh⟩ := hsh
  have HRE := Lib.hid hre
  have HRR := Lib.hid hrr
  have HRH := Lib.hid hrh
  have HOK := Lib.hid hok
  have HY := Lib.hid hy
  have TW0 := Lib.hid TW.out.drew
  have q1 := TW.out.c1
  have q2 := TW.out.c2
  clear h ha KK hre hrr hrh hok hy
  have he1 : ∀ (args : Array Value) (w : World), (callFunc 85 args).run Tryz.prog w = .ok (.enter 85 args) w := enters_of Tryz.func85 (by kernel_rfl) rfl
  have HE1 := Lib.hid he1
  clear he1
  go_enter Tryz.func68, Tryz.ntmps68
  go_wp2
  go_region_held (fun w' => w'.cell? ⟨W.heap.size, 0, none⟩ = some (.pointer (some ⟨E.bt, 0, none⟩)) ∧ w'.cell? ⟨W.heap.size + 1, 0, none⟩ = some (.pointer (some ⟨B, off, none⟩))) (first | go_keep | exact ⟨by assumption, by assumption⟩)
    (first
      | (go_at_call 83; (with_reducible refine (between_at0 ok 1 1 4 B off _ _ rfl t _ S0.out A0.out).mono ?_); rintro e w1 ⟨rfl, hs1, hc1, ha1⟩; rw [HY.out] at hs1 ha1; have S1 := Lib.hid hs1; have A1 : RowKit.Hid (At E.base w1 B off (encP y.1 p.lie p.tie (.slice ae p.tie.edges.length ce) (.slice ar p.tie.reaches.length cr) p.frm p.to (.slice ah p.heads.length ch))) := ha1; have TW1 := Lib.hid (TW0.out.chg hc1 hB); have C1 := Lib.hid ((K0.out.chg B off (off + 32)).trans (hc1.drawn.mono (Nat.le_refl _) (show off + 1 ≤ off + 32 by omega))); clear q1 q2; have q1 : w1.cell? ⟨W.heap.size, 0, none⟩ = some (.pointer (some ⟨E.bt, 0, none⟩)) := TW1.out.c1; have q2 : w1.cell? ⟨W.heap.size + 1, 0, none⟩ = some (.pointer (some ⟨B, off, none⟩)) := TW1.out.c2; have kc : w1.cell? ⟨B, off, none⟩ = some (.int .i64 y.1) := A1.out.cell0 rfl; clear hs1 hc1 ha1))
  go_wp2_with (first
    | (go_at_call 84; refine (within_any ok 2 _ HE1.out _ _ B (off + 1) (off + 1 + 12) (fun w => At E.base w B (off + 1) (encLie (lieM E.M p.lie (openM E.M 2 y.2)).1)) (fun _ _ h k => h.keep k) y.2 (lieM E.M p.lie (openM E.M 2 y.2)).2 _ S1.out (fun W1 hk hs => packet1_any ok _ _ B off (by omega) (by omega) p.lie (openM E.M 2 y.2) W1 hs (TW1.out.keep hk).b1 (TW1.out.keep hk).b2 ((A1.out.part 1 12).keep hk))).mono ?_; rintro e w2 ⟨rfl, hs2, hc2, ha2⟩; have S2 := Lib.hid hs2; have A2 := Lib.hid (cellsL A1.out hc2 ha2); have C2 := Lib.hid (C1.out.trans (hc2.mono (Nat.le_add_right off 1) (show off + 1 + 12 ≤ off + 32 by omega))); clear hs2 hc2 ha2))
  go_end0
  have hyy := HY.out
  subst hyy
  have hm : packM E.M p t = ({ p with kind := (btw E.M 1 1 4 p.kind t).1, lie := (inM E.M 2 (lieM E.M p.lie) (btw E.M 1 1 4 p.kind t).2).1 }, (inM E.M 2 (lieM E.M p.lie) (btw E.M 1 1 4 p.kind t).2).2) := by
    simp only [packM, if_pos h1]
  unfold PackP
  rw [hm]
  have hbs : E.base ≤ w2.heap.size := by have := C2.out.bel.size; omega
  exact ⟨_, _, _, rfl, S2.out.less (Nat.zero_le _), C2.out, A2.out, sl_up hec hem HRE.out C2.out.bel hbs, sl_up hrc hrm HRR.out C2.out.bel hbs, sl_up hhc hhm HRH.out C2.out.bel hbs, fun h1 h2 h3 => ⟨Far1.nil h1 _ _ _, Far1.nil h2 _ _ _, Far1.nil h3 _ _ _⟩⟩

set_option maxRecDepth 100000 in
set_option maxHeartbeats 8000000 in
theorem packet_tie {E : Env σ} (ok : E.Ok) (B off : Nat) (p : PackT) (ve vr vh : Value) (hle : p.tie.edges.length ≤ 140737488351232) (hlr : p.tie.reaches.length ≤ 140737488351232) (hlh : p.heads.length ≤ 140737488351232) (hok : ∀ y ∈ p.tie.reaches, 0 ≤ y.net ∧ y.net < 4294967296)
    {r : Nat} (t : σ × Bool) (W : World) (h : E.St (r + 700) t W) (ha : At E.base W B off (encPack p ve vr vh)) (hse : Sl 3 encEdge E.base W ve p.tie.edges) (hsr : Sl 3 encReach E.base W vr p.tie.reaches) (hsh : Sl 6 encHead E.base W vh p.heads)
    (y : Int × (σ × Bool)) (hy : btw E.M 1 1 4 p.kind t = y) (h1 : ¬ y.1 = 1) (h2 : y.1 = 2) :
    Calls Tryz.prog 68 #[.pointer (some ⟨E.bt, 0, none⟩), .pointer (some ⟨B, off, none⟩)] W (PackP E B off p t W) := by
  have hB := ha.lt
  have hBb := ha.1
  have TW := Lib.hid (Two.new ok h 129 rfl B off)
  have KK := two_keep ok h (.cells #[.pointer (some ⟨E.bt, 0, none⟩)] 147) (.cells #[.pointer (some ⟨B, off, none⟩)] 129)
  have S0 := Lib.hid (((h.alloc ok (.cells #[.pointer (some ⟨E.bt, 0, none⟩)] 147)).alloc ok (.cells #[.pointer (some ⟨B, off, none⟩)] 129)).drew ok)
  have A0 := Lib.hid (ha.keep KK).drew
  have K0 := Lib.hid KK
  obtain ⟨ae, ce, rfl, hec, hem, hre⟩ := hse
  obtain ⟨ar, cr, rfl, hrc, hrm, hrr⟩ := hsr
  obtain ⟨ah, ch, rfl, hhc, hhm, hrh⟩ := hsh
  have HRE := Lib.hid hre
  have HRR := Lib.hid hrr
  have HRH := Lib.hid hrh
  have HOK := Lib.hid hok
  have HY := Lib.hid hy
  have TW0 := Lib.hid TW.out.drew
  have q1 := TW.out.c1
  have q2 := TW.out.c2
  clear h ha KK hre hrr hrh hok hy
  have he2 : ∀ (args : Array Value) (w : World), (callFunc 87 args).run Tryz.prog w = .ok (.enter 87 args) w := enters_of Tryz.func87 (by kernel_rfl) rfl
  have HE2 := Lib.hid he2
  clear he2
  go_enter Tryz.func68, Tryz.ntmps68
  go_wp2
  go_region_held (fun w' => w'.cell? ⟨W.heap.size, 0, none⟩ = some (.pointer (some ⟨E.bt, 0, none⟩)) ∧ w'.cell? ⟨W.heap.size + 1, 0, none⟩ = some (.pointer (some ⟨B, off, none⟩))) (first | go_keep | exact ⟨by assumption, by assumption⟩)
    (first
      | (go_at_call 83; (with_reducible refine (between_at0 ok 1 1 4 B off _ _ rfl t _ S0.out A0.out).mono ?_); rintro e w1 ⟨rfl, hs1, hc1, ha1⟩; rw [HY.out] at hs1 ha1; have S1 := Lib.hid hs1; have A1 : RowKit.Hid (At E.base w1 B off (encP y.1 p.lie p.tie (.slice ae p.tie.edges.length ce) (.slice ar p.tie.reaches.length cr) p.frm p.to (.slice ah p.heads.length ch))) := ha1; have TW1 := Lib.hid (TW0.out.chg hc1 hB); have C1 := Lib.hid ((K0.out.chg B off (off + 32)).trans (hc1.drawn.mono (Nat.le_refl _) (show off + 1 ≤ off + 32 by omega))); clear q1 q2; have q1 : w1.cell? ⟨W.heap.size, 0, none⟩ = some (.pointer (some ⟨E.bt, 0, none⟩)) := TW1.out.c1; have q2 : w1.cell? ⟨W.heap.size + 1, 0, none⟩ = some (.pointer (some ⟨B, off, none⟩)) := TW1.out.c2; have kc : w1.cell? ⟨B, off, none⟩ = some (.int .i64 y.1) := A1.out.cell0 rfl; clear hs1 hc1 ha1))
  have hws : W.heap.size ≤ w1.heap.size := C1.out.bel.size
  go_wp2_with (first
    | (go_at_call 84; refine (within_any ok 3 _ HE2.out _ _ B (off + 13) (off + 13 + 10) (TieR E.base W.heap.size B (off + 13) (tieM E.M p.tie (openM E.M 3 y.2)).1) (fun _ _ h k => h.keep k) y.2 (tieM E.M p.tie (openM E.M 3 y.2)).2 _ S1.out (fun W1 hk hs => packet2_any ok _ _ B off W.heap.size (by omega) (by omega) p.tie ae ar ce cr hle hlr HOK.out (openM E.M 3 y.2) W1 (Nat.le_trans hws hk.bel.size) (hs.less (r' := r + 45 + 1 + 652) (by omega)) (TW1.out.keep hk).b1 (TW1.out.keep hk).b2 ((A1.out.part 13 10).keep hk) ((HRE.out.below C1.out.bel).below hk.bel) ((HRR.out.below C1.out.bel).below hk.bel))).mono ?_; rintro e w2 ⟨rfl, hs2, hc2, ve2, vr2, ha2, ho2, ho3⟩; have S2 : RowKit.Hid (E.St _ (inM E.M 3 (tieM E.M p.tie) y.2).2 w2) := hs2; have A2 : RowKit.Hid (At E.base w2 B off (encP y.1 p.lie (inM E.M 3 (tieM E.M p.tie) y.2).1 ve2 vr2 p.frm p.to (.slice ah p.heads.length ch))) := cellsX A1.out hc2 ha2; have O2 : RowKit.Hid (w2.ownsRow W.heap.size 94 3 ve2 (inM E.M 3 (tieM E.M p.tie) y.2).1.edges.length ((inM E.M 3 (tieM E.M p.tie) y.2).1.edges.flatMap encEdge)) := ho2; have O3 : RowKit.Hid (w2.ownsRow W.heap.size 99 3 vr2 (inM E.M 3 (tieM E.M p.tie) y.2).1.reaches.length ((inM E.M 3 (tieM E.M p.tie) y.2).1.reaches.flatMap encReach)) := ho3; obtain ⟨y2, hy2⟩ : ∃ y2, inM E.M 3 (tieM E.M p.tie) y.2 = y2 := ⟨_, rfl⟩; rw [hy2] at S2 A2 O2 O3; have HY2 := Lib.hid hy2; have C2 := Lib.hid (C1.out.trans (hc2.mono (Nat.le_add_right off 13) (show off + 13 + 10 ≤ off + 32 by omega))); clear hs2 hc2 ha2 ho2 ho3 hy2))
  go_end0
  have hyy := HY.out
  subst hyy
  have hm : packM E.M p t = ({ p with kind := (btw E.M 1 1 4 p.kind t).1, tie := y2.1 }, y2.2) := by
    rw [← HY2.out]
    unfold packM
    simp only
    rw [if_neg h1, if_pos h2]
  unfold PackP
  rw [hm]
  have hbs : E.base ≤ w2.heap.size := by have := C2.out.bel.size; omega
  exact ⟨_, _, _, rfl, S2.out.less (Nat.zero_le _), C2.out, A2.out, Sl.own len_encEdge O2.out, Sl.own len_encReach O3.out, sl_up hhc hhm HRH.out C2.out.bel hbs, fun h1 h2 h3 => ⟨Far1.own O2.out, Far1.own O3.out, Far1.nil h3 _ _ _⟩⟩

set_option maxRecDepth 100000 in
set_option maxHeartbeats 8000000 in
theorem packet_tire {E : Env σ} (ok : E.Ok) (B off : Nat) (p : PackT) (ve vr vh : Value) (hle : p.tie.edges.length ≤ 140737488351232) (hlr : p.tie.reaches.length ≤ 140737488351232) (hlh : p.heads.length ≤ 140737488351232) (hok : ∀ y ∈ p.tie.reaches, 0 ≤ y.net ∧ y.net < 4294967296)
    {r : Nat} (t : σ × Bool) (W : World) (h : E.St (r + 700) t W) (ha : At E.base W B off (encPack p ve vr vh)) (hse : Sl 3 encEdge E.base W ve p.tie.edges) (hsr : Sl 3 encReach E.base W vr p.tie.reaches) (hsh : Sl 6 encHead E.base W vh p.heads)
    (y : Int × (σ × Bool)) (hy : btw E.M 1 1 4 p.kind t = y) (h1 : ¬ y.1 = 1) (h2 : ¬ y.1 = 2) (h3 : ¬ y.1 = 3) (h4 : y.1 = 4) :
    Calls Tryz.prog 68 #[.pointer (some ⟨E.bt, 0, none⟩), .pointer (some ⟨B, off, none⟩)] W (PackP E B off p t W) := by
  have hB := ha.lt
  have hBb := ha.1
  have TW := Lib.hid (Two.new ok h 129 rfl B off)
  have KK := two_keep ok h (.cells #[.pointer (some ⟨E.bt, 0, none⟩)] 147) (.cells #[.pointer (some ⟨B, off, none⟩)] 129)
  have S0 := Lib.hid (((h.alloc ok (.cells #[.pointer (some ⟨E.bt, 0, none⟩)] 147)).alloc ok (.cells #[.pointer (some ⟨B, off, none⟩)] 129)).drew ok)
  have A0 := Lib.hid (ha.keep KK).drew
  have K0 := Lib.hid KK
  obtain ⟨ae, ce, rfl, hec, hem, hre⟩ := hse
  obtain ⟨ar, cr, rfl, hrc, hrm, hrr⟩ := hsr
  obtain ⟨ah, ch, rfl, hhc, hhm, hrh⟩ := hsh
  have HRE := Lib.hid hre
  have HRR := Lib.hid hrr
  have HRH := Lib.hid hrh
  have HOK := Lib.hid hok
  have HY := Lib.hid hy
  have TW0 := Lib.hid TW.out.drew
  have q1 := TW.out.c1
  have q2 := TW.out.c2
  clear h ha KK hre hrr hrh hok hy
  go_enter Tryz.func68, Tryz.ntmps68
  go_wp2
  go_region_held (fun w' => w'.cell? ⟨W.heap.size, 0, none⟩ = some (.pointer (some ⟨E.bt, 0, none⟩)) ∧ w'.cell? ⟨W.heap.size + 1, 0, none⟩ = some (.pointer (some ⟨B, off, none⟩))) (first | go_keep | exact ⟨by assumption, by assumption⟩)
    (first
      | (go_at_call 83; (with_reducible refine (between_at0 ok 1 1 4 B off _ _ rfl t _ S0.out A0.out).mono ?_); rintro e w1 ⟨rfl, hs1, hc1, ha1⟩; rw [HY.out] at hs1 ha1; have S1 := Lib.hid hs1; have A1 : RowKit.Hid (At E.base w1 B off (encP y.1 p.lie p.tie (.slice ae p.tie.edges.length ce) (.slice ar p.tie.reaches.length cr) p.frm p.to (.slice ah p.heads.length ch))) := ha1; have TW1 := Lib.hid (TW0.out.chg hc1 hB); have C1 := Lib.hid ((K0.out.chg B off (off + 32)).trans (hc1.drawn.mono (Nat.le_refl _) (show off + 1 ≤ off + 32 by omega))); clear q1 q2; have q1 : w1.cell? ⟨W.heap.size, 0, none⟩ = some (.pointer (some ⟨E.bt, 0, none⟩)) := TW1.out.c1; have q2 : w1.cell? ⟨W.heap.size + 1, 0, none⟩ = some (.pointer (some ⟨B, off, none⟩)) := TW1.out.c2; have kc : w1.cell? ⟨B, off, none⟩ = some (.int .i64 y.1) := A1.out.cell0 rfl; clear hs1 hc1 ha1))
  go_wp2
  have S1d := Lib.hid (S1.out.drew ok)
  have A1d := Lib.hid A1.out.drew
  have TW1d := Lib.hid TW1.out.drew
  have b1 : w1.cell? ⟨B, off + 31, none⟩ = some (.slice ah p.heads.length ch) := A1.out.cell 31 rfl
  refine wp_region_held_drew (S := (fun w' => w'.cell? ⟨W.heap.size, 0, none⟩ = some (.pointer (some ⟨E.bt, 0, none⟩)) ∧ w'.cell? ⟨W.heap.size + 1, 0, none⟩ = some (.pointer (some ⟨B, off, none⟩)))) (by kernel_rfl) ⟨TW1d.out.drew.c1, TW1d.out.drew.c2⟩ (fun hHeld => ?_)
  refine wpAnyH_take (i := 0) (oi := _) (v := ?v1) rfl (by kernel_rfl) (by kernel_rfl) (by kernel_rfl) (fun _ _ _ h => h) (Or.inl ⟨by rfl, ?h1⟩) (by assumption) ?r1
  case h1 =>
    intro w hSw
    try dsimp only at hSw
    go_simp
    try with_reducible rfl
  try simp only [Act.put]
  refine wpAnyH_take (i := 1) (oi := _) (v := ?v2) rfl (by kernel_rfl) (by kernel_rfl) (by kernel_rfl) (fun _ _ _ h => h) (Or.inl ⟨by rfl, ?h2⟩) (by assumption) ?r2
  case h2 =>
    intro w hSw
    try dsimp only at hSw
    go_simp
    try with_reducible rfl
  try simp only [Act.put]
  refine wpAnyH_take (i := 2) (oi := _) (v := ?v3) rfl (by kernel_rfl) (by kernel_rfl) (by kernel_rfl) (fun _ _ _ h => h) (Or.inl ⟨by rfl, ?h3⟩) (by assumption) ?r3
  case h3 =>
    intro w hSw
    try dsimp only at hSw
    go_simp
    try with_reducible rfl
  try simp only [Act.put]
  refine wpAnyH_take (i := 3) (oi := _) (v := ?v4) rfl (by kernel_rfl) (by kernel_rfl) (by kernel_rfl) (fun _ _ _ h => h) (Or.inl ⟨by rfl, ?h4⟩) (by assumption) ?r4
  case h4 =>
    intro w hSw
    try dsimp only at hSw
    go_simp
    try with_reducible rfl
  try simp only [Act.put]
  refine wpAnyH_take (i := 4) (oi := _) (v := ?v5) rfl (by kernel_rfl) (by kernel_rfl) (by kernel_rfl) (fun _ _ _ h => h) (Or.inl ⟨by rfl, ?h5⟩) (by assumption) ?r5
  case h5 =>
    intro w hSw
    try dsimp only at hSw
    go_simp
    try with_reducible rfl
  try simp only [Act.put]
  refine wpAnyH_take (i := 6) (oi := _) (v := ?v6) rfl (by kernel_rfl) (by kernel_rfl) (by kernel_rfl) (fun _ _ _ h => h) (Or.inl ⟨by rfl, ?h6⟩) (by assumption) ?r6
  case h6 =>
    intro w hSw
    try dsimp only at hSw
    go_simp
    try with_reducible rfl
  try simp only [Act.put]
  refine wpAnyH_take (i := 7) (oi := _) (v := ?v7) rfl (by kernel_rfl) (by kernel_rfl) (by kernel_rfl) (fun _ _ _ h => h) (Or.inl ⟨by rfl, ?h7⟩) (by assumption) ?r7
  case h7 =>
    intro w hSw
    try dsimp only at hSw
    go_simp
    try with_reducible rfl
  try simp only [Act.put]
  refine wpAnyH_ready (rs := [5]) (by kernel_rfl) (by simp) ?_
  refine AllReadyH.cons rfl (fun K hK => ?_) AllReadyH.nil
  go_simp
  refine hK.out _ _ (by assumption) (fun hHeld => ?_)
  clear hK K
  refine wpAnyH_ready (rs := [8]) (by kernel_rfl) (by simp) ?_
  refine AllReadyH.cons rfl (fun K hK => ?_) AllReadyH.nil
  go_simp
  go_wp2_with (first
    | (go_at_call 92; refine (eachHead_any ok 6 ah ch p.heads hlh 64 (by decide) _ _ (S1d.out.less (r' := 0 + 64 * 10) (by omega)) (HRH.out.below C1.out.bel.drew)).mono ?_; rintro e w8 ⟨v8, rfl, hs8, hk8, ho8⟩; obtain ⟨p8, n8, c8, rfl, hn8⟩ := row_form ho8; have A8' := Lib.hid (A1d.out.keep hk8); have B8 := Lib.hid (C1.out.trans (hk8.drawn.chg B off (off + 32))); have S8 := Lib.hid (hs8.set ok A8'.out (off + 31) (.slice p8 n8 c8)); have A8 := Lib.hid (A8'.out.set 31 (by simp [encP, encLie, encTie, encHead, encId]) (.slice p8 n8 c8)); have B8s := (Chg.set (Keep.chg (Keep.refl E.base w8) B off (off + 32)) hBb (j := off + 31) (by omega) (by omega) (.slice p8 n8 c8)); have TW8' := Lib.hid (TW1d.out.keep hk8); have TW8 := Lib.hid (TW8'.out.chg B8s hB); have C8 := Lib.hid (B8.out.trans B8s); have O8 := Lib.hid (own_chg (own_less ho8 (C1.out.bel.size)) rfl B8s hB); have f8 : w8.frozen? ⟨B, off + 31, none⟩ = false := A8'.out.frozen _; have b8 : w8.cell? ⟨B, off + 31, none⟩ = some (.slice ah p.heads.length ch) := A8'.out.cell 31 rfl; have q1 : w8.cell? ⟨W.heap.size, 0, none⟩ = some (.pointer (some ⟨E.bt, 0, none⟩)) := TW8'.out.c1; have q2 : w8.cell? ⟨W.heap.size + 1, 0, none⟩ = some (.pointer (some ⟨B, off, none⟩)) := TW8'.out.c2; have q1s : (w8.setCell ⟨B, off + 31, none⟩ (.slice p8 n8 c8)).cell? ⟨W.heap.size, 0, none⟩ = some (.pointer (some ⟨E.bt, 0, none⟩)) := TW8.out.c1; have q2s : (w8.setCell ⟨B, off + 31, none⟩ (.slice p8 n8 c8)).cell? ⟨W.heap.size + 1, 0, none⟩ = some (.pointer (some ⟨B, off, none⟩)) := TW8.out.c2; clear hs8 hk8 ho8 B8s hn8))
  refine hK.out _ _ ⟨q1, q2⟩ (fun hHeld => ?_)
  clear hK K
  refine wpAnyH_take (i := 9) (oi := _) (v := ?v8) rfl (by kernel_rfl) (by kernel_rfl) (by kernel_rfl) (fun _ _ _ h => h) (Or.inl ⟨by rfl, ?h8⟩) (by assumption) ?r8
  case h8 =>
    intro w hSw
    try dsimp only at hSw
    go_simp
    try with_reducible rfl
  try simp only [Act.put]
  refine wpAnyH_take (i := 10) (oi := _) (v := ?v9) rfl (by kernel_rfl) (by kernel_rfl) (by kernel_rfl) (fun _ _ _ h => h) (Or.inl ⟨by rfl, ?h9⟩) (by assumption) ?r9
  case h9 =>
    intro w hSw
    try dsimp only at hSw
    go_simp
    try with_reducible rfl
  try simp only [Act.put]
  refine wpAnyH_ready (rs := [11]) (by kernel_rfl) (by simp) ?_
  refine AllReadyH.cons rfl (fun K hK => ?_) AllReadyH.nil
  go_simp
  refine hK.out _ _ ⟨q1s, q2s⟩ (fun hHeld => ?_)
  clear hK K
  refine wpAnyH_done (by kernel_rfl) ?_ _
  go_wp2
  go_end0
  have hyy := HY.out
  subst hyy
  have hm : packM E.M p t = ({ p with kind := (btw E.M 1 1 4 p.kind t).1, heads := (eachM E.M 6 (headM E.M) HeadT.zero p.heads 64 [] (btw E.M 1 1 4 p.kind t).2).1 }, (eachM E.M 6 (headM E.M) HeadT.zero p.heads 64 [] (btw E.M 1 1 4 p.kind t).2).2) := by
    simp only [packM, if_neg h1, if_neg h2, if_neg h3, if_pos h4]
  unfold PackP
  rw [hm]
  have hbs : E.base ≤ (w8.setCell ⟨B, off + 31, none⟩ (.slice p8 n8 c8)).heap.size := by have := C8.out.bel.size; omega
  exact ⟨_, _, _, rfl, S8.out, C8.out, A8.out, sl_up hec hem HRE.out C8.out.bel hbs, sl_up hrc hrm HRR.out C8.out.bel hbs, Sl.own len_encHead O8.out, fun h1 h2 h3 => ⟨Far1.nil h1 _ _ _, Far1.nil h2 _ _ _, Far1.own O8.out⟩⟩

set_option maxRecDepth 100000 in
set_option maxHeartbeats 8000000 in
theorem packet_tide {E : Env σ} (ok : E.Ok) (B off : Nat) (p : PackT) (ve vr vh : Value) (hle : p.tie.edges.length ≤ 140737488351232) (hlr : p.tie.reaches.length ≤ 140737488351232) (hlh : p.heads.length ≤ 140737488351232) (hok : ∀ y ∈ p.tie.reaches, 0 ≤ y.net ∧ y.net < 4294967296)
    {r : Nat} (t : σ × Bool) (W : World) (h : E.St (r + 700) t W) (ha : At E.base W B off (encPack p ve vr vh)) (hse : Sl 3 encEdge E.base W ve p.tie.edges) (hsr : Sl 3 encReach E.base W vr p.tie.reaches) (hsh : Sl 6 encHead E.base W vh p.heads)
    (y : Int × (σ × Bool)) (hy : btw E.M 1 1 4 p.kind t = y) (h1 : ¬ y.1 = 1) (h2 : ¬ y.1 = 2) (h3 : y.1 = 3) :
    Calls Tryz.prog 68 #[.pointer (some ⟨E.bt, 0, none⟩), .pointer (some ⟨B, off, none⟩)] W (PackP E B off p t W) := by
  have hB := ha.lt
  have hBb := ha.1
  have TW := Lib.hid (Two.new ok h 129 rfl B off)
  have KK := two_keep ok h (.cells #[.pointer (some ⟨E.bt, 0, none⟩)] 147) (.cells #[.pointer (some ⟨B, off, none⟩)] 129)
  have S0 := Lib.hid (((h.alloc ok (.cells #[.pointer (some ⟨E.bt, 0, none⟩)] 147)).alloc ok (.cells #[.pointer (some ⟨B, off, none⟩)] 129)).drew ok)
  have A0 := Lib.hid (ha.keep KK).drew
  have K0 := Lib.hid KK
  obtain ⟨ae, ce, rfl, hec, hem, hre⟩ := hse
  obtain ⟨ar, cr, rfl, hrc, hrm, hrr⟩ := hsr
  obtain ⟨ah, ch, rfl, hhc, hhm, hrh⟩ := hsh
  have HRE := Lib.hid hre
  have HRR := Lib.hid hrr
  have HRH := Lib.hid hrh
  have HOK := Lib.hid hok
  have HY := Lib.hid hy
  have TW0 := Lib.hid TW.out.drew
  have q1 := TW.out.c1
  have q2 := TW.out.c2
  clear h ha KK hre hrr hrh hok hy
  have he3 : ∀ (args : Array Value) (w : World), (callFunc 89 args).run Tryz.prog w = .ok (.enter 89 args) w := enters_of Tryz.func89 (by kernel_rfl) rfl
  have HE3 := Lib.hid he3
  clear he3
  have he4 : ∀ (args : Array Value) (w : World), (callFunc 91 args).run Tryz.prog w = .ok (.enter 91 args) w := enters_of Tryz.func91 (by kernel_rfl) rfl
  have HE4 := Lib.hid he4
  clear he4
  go_enter Tryz.func68, Tryz.ntmps68
  go_wp2
  go_region_held (fun w' => w'.cell? ⟨W.heap.size, 0, none⟩ = some (.pointer (some ⟨E.bt, 0, none⟩)) ∧ w'.cell? ⟨W.heap.size + 1, 0, none⟩ = some (.pointer (some ⟨B, off, none⟩))) (first | go_keep | exact ⟨by assumption, by assumption⟩)
    (first
      | (go_at_call 83; (with_reducible refine (between_at0 ok 1 1 4 B off _ _ rfl t _ S0.out A0.out).mono ?_); rintro e w1 ⟨rfl, hs1, hc1, ha1⟩; rw [HY.out] at hs1 ha1; have S1 := Lib.hid hs1; have A1 : RowKit.Hid (At E.base w1 B off (encP y.1 p.lie p.tie (.slice ae p.tie.edges.length ce) (.slice ar p.tie.reaches.length cr) p.frm p.to (.slice ah p.heads.length ch))) := ha1; have TW1 := Lib.hid (TW0.out.chg hc1 hB); have C1 := Lib.hid ((K0.out.chg B off (off + 32)).trans (hc1.drawn.mono (Nat.le_refl _) (show off + 1 ≤ off + 32 by omega))); clear q1 q2; have q1 : w1.cell? ⟨W.heap.size, 0, none⟩ = some (.pointer (some ⟨E.bt, 0, none⟩)) := TW1.out.c1; have q2 : w1.cell? ⟨W.heap.size + 1, 0, none⟩ = some (.pointer (some ⟨B, off, none⟩)) := TW1.out.c2; have kc : w1.cell? ⟨B, off, none⟩ = some (.int .i64 y.1) := A1.out.cell0 rfl; clear hs1 hc1 ha1))
  go_wp2_with (first
    | (go_at_call_of 84 (Value.int IntKind.i64 4); refine (within_any ok 4 _ HE3.out _ _ B (off + 23) (off + 23 + 4) (fun w => At E.base w B (off + 23) (encId (idM E.M p.frm (openM E.M 4 y.2)).1)) (fun _ _ h k => h.keep k) y.2 (idM E.M p.frm (openM E.M 4 y.2)).2 _ S1.out (fun W1 hk hs => packet3_any ok _ _ B off (by omega) (by omega) p.frm (openM E.M 4 y.2) W1 hs (TW1.out.keep hk).b1 (TW1.out.keep hk).b2 ((A1.out.part 23 4).keep hk))).mono ?_; rintro e w2 ⟨rfl, hs2, hc2, ha2⟩; have S2 : RowKit.Hid (E.St _ (inM E.M 4 (idM E.M p.frm) y.2).2 w2) := hs2; have A2 : RowKit.Hid (At E.base w2 B off (encP y.1 p.lie p.tie (.slice ae p.tie.edges.length ce) (.slice ar p.tie.reaches.length cr) (inM E.M 4 (idM E.M p.frm) y.2).1 p.to (.slice ah p.heads.length ch))) := cellsA A1.out hc2 ha2; obtain ⟨y2, hy2⟩ : ∃ y2, inM E.M 4 (idM E.M p.frm) y.2 = y2 := ⟨_, rfl⟩; rw [hy2] at S2 A2; have HY2 := Lib.hid hy2; have TW2 := Lib.hid (TW1.out.chg hc2 hB); have C2 := Lib.hid (C1.out.trans (hc2.mono (Nat.le_add_right off 23) (show off + 23 + 4 ≤ off + 32 by omega))); clear q1 q2; have q1 : w2.cell? ⟨W.heap.size, 0, none⟩ = some (.pointer (some ⟨E.bt, 0, none⟩)) := TW2.out.c1; have q2 : w2.cell? ⟨W.heap.size + 1, 0, none⟩ = some (.pointer (some ⟨B, off, none⟩)) := TW2.out.c2; clear hs2 hc2 ha2 hy2)
    | (go_at_call_of 84 (Value.int IntKind.i64 5); refine (within_any ok 5 _ HE4.out _ _ B (off + 27) (off + 27 + 4) (fun w => At E.base w B (off + 27) (encId (idM E.M p.to (openM E.M 5 y2.2)).1)) (fun _ _ h k => h.keep k) y2.2 (idM E.M p.to (openM E.M 5 y2.2)).2 _ S2.out (fun W1 hk hs => packet4_any ok _ _ B off (by omega) (by omega) p.to (openM E.M 5 y2.2) W1 hs (TW2.out.keep hk).b1 (TW2.out.keep hk).b2 ((A2.out.part 27 4).keep hk))).mono ?_; rintro e w3 ⟨rfl, hs3, hc3, ha3⟩; have S3 : RowKit.Hid (E.St _ (inM E.M 5 (idM E.M p.to) y2.2).2 w3) := hs3; have A3 : RowKit.Hid (At E.base w3 B off (encP y.1 p.lie p.tie (.slice ae p.tie.edges.length ce) (.slice ar p.tie.reaches.length cr) y2.1 (inM E.M 5 (idM E.M p.to) y2.2).1 (.slice ah p.heads.length ch))) := cellsB A2.out hc3 ha3; obtain ⟨y3, hy3⟩ : ∃ y3, inM E.M 5 (idM E.M p.to) y2.2 = y3 := ⟨_, rfl⟩; rw [hy3] at S3 A3; have HY3 := Lib.hid hy3; have TW3 := Lib.hid (TW2.out.chg hc3 hB); have C3 := Lib.hid (C2.out.trans (hc3.mono (Nat.le_add_right off 27) (show off + 27 + 4 ≤ off + 32 by omega))); clear q1 q2; have q1 : w3.cell? ⟨W.heap.size, 0, none⟩ = some (.pointer (some ⟨E.bt, 0, none⟩)) := TW3.out.c1; have q2 : w3.cell? ⟨W.heap.size + 1, 0, none⟩ = some (.pointer (some ⟨B, off, none⟩)) := TW3.out.c2; clear hs3 hc3 ha3 hy3))
  have S3d := Lib.hid (S3.out.drew ok)
  have A3d := Lib.hid A3.out.drew
  have TW3d := Lib.hid TW3.out.drew
  have b1 : w3.cell? ⟨B, off + 31, none⟩ = some (.slice ah p.heads.length ch) := A3.out.cell 31 rfl
  refine wp_region_held_drew (S := (fun w' => w'.cell? ⟨W.heap.size, 0, none⟩ = some (.pointer (some ⟨E.bt, 0, none⟩)) ∧ w'.cell? ⟨W.heap.size + 1, 0, none⟩ = some (.pointer (some ⟨B, off, none⟩)))) (by kernel_rfl) ⟨TW3d.out.drew.c1, TW3d.out.drew.c2⟩ (fun hHeld => ?_)
  refine wpAnyH_take (i := 0) (oi := _) (v := ?v10) rfl (by kernel_rfl) (by kernel_rfl) (by kernel_rfl) (fun _ _ _ h => h) (Or.inl ⟨by rfl, ?h10⟩) (by assumption) ?r10
  case h10 =>
    intro w hSw
    try dsimp only at hSw
    go_simp
    try with_reducible rfl
  try simp only [Act.put]
  refine wpAnyH_take (i := 1) (oi := _) (v := ?v11) rfl (by kernel_rfl) (by kernel_rfl) (by kernel_rfl) (fun _ _ _ h => h) (Or.inl ⟨by rfl, ?h11⟩) (by assumption) ?r11
  case h11 =>
    intro w hSw
    try dsimp only at hSw
    go_simp
    try with_reducible rfl
  try simp only [Act.put]
  refine wpAnyH_take (i := 2) (oi := _) (v := ?v12) rfl (by kernel_rfl) (by kernel_rfl) (by kernel_rfl) (fun _ _ _ h => h) (Or.inl ⟨by rfl, ?h12⟩) (by assumption) ?r12
  case h12 =>
    intro w hSw
    try dsimp only at hSw
    go_simp
    try with_reducible rfl
  try simp only [Act.put]
  refine wpAnyH_take (i := 3) (oi := _) (v := ?v13) rfl (by kernel_rfl) (by kernel_rfl) (by kernel_rfl) (fun _ _ _ h => h) (Or.inl ⟨by rfl, ?h13⟩) (by assumption) ?r13
  case h13 =>
    intro w hSw
    try dsimp only at hSw
    go_simp
    try with_reducible rfl
  try simp only [Act.put]
  refine wpAnyH_take (i := 4) (oi := _) (v := ?v14) rfl (by kernel_rfl) (by kernel_rfl) (by kernel_rfl) (fun _ _ _ h => h) (Or.inl ⟨by rfl, ?h14⟩) (by assumption) ?r14
  case h14 =>
    intro w hSw
    try dsimp only at hSw
    go_simp
    try with_reducible rfl
  try simp only [Act.put]
  refine wpAnyH_take (i := 6) (oi := _) (v := ?v15) rfl (by kernel_rfl) (by kernel_rfl) (by kernel_rfl) (fun _ _ _ h => h) (Or.inl ⟨by rfl, ?h15⟩) (by assumption) ?r15
  case h15 =>
    intro w hSw
    try dsimp only at hSw
    go_simp
    try with_reducible rfl
  try simp only [Act.put]
  refine wpAnyH_take (i := 7) (oi := _) (v := ?v16) rfl (by kernel_rfl) (by kernel_rfl) (by kernel_rfl) (fun _ _ _ h => h) (Or.inl ⟨by rfl, ?h16⟩) (by assumption) ?r16
  case h16 =>
    intro w hSw
    try dsimp only at hSw
    go_simp
    try with_reducible rfl
  try simp only [Act.put]
  refine wpAnyH_ready (rs := [5]) (by kernel_rfl) (by simp) ?_
  refine AllReadyH.cons rfl (fun K hK => ?_) AllReadyH.nil
  go_simp
  refine hK.out _ _ (by assumption) (fun hHeld => ?_)
  clear hK K
  refine wpAnyH_ready (rs := [8]) (by kernel_rfl) (by simp) ?_
  refine AllReadyH.cons rfl (fun K hK => ?_) AllReadyH.nil
  go_simp
  go_wp2_with (first
    | (go_at_call 92; refine (eachHead_any ok 6 ah ch p.heads hlh 64 (by decide) _ _ (S3d.out.less (r' := 0 + 64 * 10) (by omega)) (HRH.out.below C3.out.bel.drew)).mono ?_; rintro e w8 ⟨v8, rfl, hs8, hk8, ho8⟩; obtain ⟨p8, n8, c8, rfl, hn8⟩ := row_form ho8; have A8' := Lib.hid (A3d.out.keep hk8); have B8 := Lib.hid (C3.out.trans (hk8.drawn.chg B off (off + 32))); have S8 := Lib.hid (hs8.set ok A8'.out (off + 31) (.slice p8 n8 c8)); have A8 := Lib.hid (A8'.out.set 31 (by simp [encP, encLie, encTie, encHead, encId]) (.slice p8 n8 c8)); have B8s := (Chg.set (Keep.chg (Keep.refl E.base w8) B off (off + 32)) hBb (j := off + 31) (by omega) (by omega) (.slice p8 n8 c8)); have TW8' := Lib.hid (TW3d.out.keep hk8); have TW8 := Lib.hid (TW8'.out.chg B8s hB); have C8 := Lib.hid (B8.out.trans B8s); have O8 := Lib.hid (own_chg (own_less ho8 (C3.out.bel.size)) rfl B8s hB); have f8 : w8.frozen? ⟨B, off + 31, none⟩ = false := A8'.out.frozen _; have b8 : w8.cell? ⟨B, off + 31, none⟩ = some (.slice ah p.heads.length ch) := A8'.out.cell 31 rfl; have q1 : w8.cell? ⟨W.heap.size, 0, none⟩ = some (.pointer (some ⟨E.bt, 0, none⟩)) := TW8'.out.c1; have q2 : w8.cell? ⟨W.heap.size + 1, 0, none⟩ = some (.pointer (some ⟨B, off, none⟩)) := TW8'.out.c2; have q1s : (w8.setCell ⟨B, off + 31, none⟩ (.slice p8 n8 c8)).cell? ⟨W.heap.size, 0, none⟩ = some (.pointer (some ⟨E.bt, 0, none⟩)) := TW8.out.c1; have q2s : (w8.setCell ⟨B, off + 31, none⟩ (.slice p8 n8 c8)).cell? ⟨W.heap.size + 1, 0, none⟩ = some (.pointer (some ⟨B, off, none⟩)) := TW8.out.c2; clear hs8 hk8 ho8 B8s hn8))
  refine hK.out _ _ ⟨q1, q2⟩ (fun hHeld => ?_)
  clear hK K
  refine wpAnyH_take (i := 9) (oi := _) (v := ?v17) rfl (by kernel_rfl) (by kernel_rfl) (by kernel_rfl) (fun _ _ _ h => h) (Or.inl ⟨by rfl, ?h17⟩) (by assumption) ?r17
  case h17 =>
    intro w hSw
    try dsimp only at hSw
    go_simp
    try with_reducible rfl
  try simp only [Act.put]
  refine wpAnyH_take (i := 10) (oi := _) (v := ?v18) rfl (by kernel_rfl) (by kernel_rfl) (by kernel_rfl) (fun _ _ _ h => h) (Or.inl ⟨by rfl, ?h18⟩) (by assumption) ?r18
  case h18 =>
    intro w hSw
    try dsimp only at hSw
    go_simp
    try with_reducible rfl
  try simp only [Act.put]
  refine wpAnyH_ready (rs := [11]) (by kernel_rfl) (by simp) ?_
  refine AllReadyH.cons rfl (fun K hK => ?_) AllReadyH.nil
  go_simp
  refine hK.out _ _ ⟨q1s, q2s⟩ (fun hHeld => ?_)
  clear hK K
  refine wpAnyH_done (by kernel_rfl) ?_ _
  go_wp2
  go_end0
  have hyy := HY.out
  subst hyy
  have hm : packM E.M p t = ({ p with kind := (btw E.M 1 1 4 p.kind t).1, frm := y2.1, to := y3.1, heads := (eachM E.M 6 (headM E.M) HeadT.zero p.heads 64 [] y3.2).1 }, (eachM E.M 6 (headM E.M) HeadT.zero p.heads 64 [] y3.2).2) := by
    rw [← HY3.out, ← HY2.out]
    unfold packM
    simp only
    rw [if_neg h1, if_neg h2, if_pos h3]
  unfold PackP
  rw [hm]
  have hbs : E.base ≤ (w8.setCell ⟨B, off + 31, none⟩ (.slice p8 n8 c8)).heap.size := by have := C8.out.bel.size; omega
  exact ⟨_, _, _, rfl, S8.out, C8.out, A8.out, sl_up hec hem HRE.out C8.out.bel hbs, sl_up hrc hrm HRR.out C8.out.bel hbs, Sl.own len_encHead O8.out, fun h1 h2 h3 => ⟨Far1.nil h1 _ _ _, Far1.nil h2 _ _ _, Far1.own O8.out⟩⟩

theorem packet_any {E : Env σ} (ok : E.Ok) (B off : Nat) (p : PackT) (ve vr vh : Value) (hle : p.tie.edges.length ≤ 140737488351232) (hlr : p.tie.reaches.length ≤ 140737488351232) (hlh : p.heads.length ≤ 140737488351232) (hok : ∀ y ∈ p.tie.reaches, 0 ≤ y.net ∧ y.net < 4294967296)
    {r : Nat} (t : σ × Bool) (W : World) (h : E.St (r + 700) t W) (ha : At E.base W B off (encPack p ve vr vh)) (hse : Sl 3 encEdge E.base W ve p.tie.edges) (hsr : Sl 3 encReach E.base W vr p.tie.reaches) (hsh : Sl 6 encHead E.base W vh p.heads) :
    Calls Tryz.prog 68 #[.pointer (some ⟨E.bt, 0, none⟩), .pointer (some ⟨B, off, none⟩)] W (PackP E B off p t W) := by
  by_cases h1 : (btw E.M 1 1 4 p.kind t).1 = 1
  · exact packet_lie ok B off p ve vr vh hle hlr hlh hok t W h ha hse hsr hsh _ rfl h1
  by_cases h2 : (btw E.M 1 1 4 p.kind t).1 = 2
  · exact packet_tie ok B off p ve vr vh hle hlr hlh hok t W h ha hse hsr hsh _ rfl h1 h2
  by_cases h3 : (btw E.M 1 1 4 p.kind t).1 = 3
  · exact packet_tide ok B off p ve vr vh hle hlr hlh hok t W h ha hse hsr hsh _ rfl h1 h2 h3
  by_cases h4 : (btw E.M 1 1 4 p.kind t).1 = 4
  · exact packet_tire ok B off p ve vr vh hle hlr hlh hok t W h ha hse hsr hsh _ rfl h1 h2 h3 h4
  · exact packet_other ok B off p ve vr vh hle hlr hlh hok t W h ha hse hsr hsh _ rfl h1 h2 h3 h4
end
end Go.Proofs.YtpaooddmgcekhaaGreat
