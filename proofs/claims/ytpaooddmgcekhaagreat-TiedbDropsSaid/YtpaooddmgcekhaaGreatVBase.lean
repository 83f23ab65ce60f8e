/-
  THE PROGRAM'S BASE in memory; what is left of a life; a piece as it is told; lists of one's own; may a piece be; is a number a moment.
-/
import Derived.Test.YtpaooddmgcekhaaGreatVMap
import Derived.Test.YtpaooddmgcekhaaGreatVMath
import Derived.Test.YtpaooddmgcekhaaGreatVClone
import Derived.Test.YtpaooddmgcekhaaGreatWCode
import Derived.Test.YtpaooddmgcekhaaGreatTNew
namespace Go.Proofs.YtpaooddmgcekhaaGreat.ti
set_option linter.unusedSimpArgs false
set_option linter.unusedVariables false
open Go.RowKit
/-- Where a piece's lists lie. -/
structure Sl2 where
  ea : Option Addr
  ec : Nat
  ra : Option Addr
  rc : Nat
structure EnK where
  e : EnT
  s : Sl2
def aggV (t : TiV) (s : Sl2) : Value := .agg #[.int .i64 t.hd.id.d, .int .i64 t.hd.id.o, .int .i64 t.hd.id.k, .int .i64 t.hd.id.n, .int .i64 t.hd.seq, .int .i64 t.hd.life, .int .i64 t.level, .bool t.over, .slice s.ea t.es.length s.ec, .slice s.ra t.rs.length s.rc]
def aggK (x : EnK) : Value := .agg #[.int .i64 x.e.t.hd.id.d, .int .i64 x.e.t.hd.id.o, .int .i64 x.e.t.hd.id.k, .int .i64 x.e.t.hd.id.n, .int .i64 x.e.t.hd.seq, .int .i64 x.e.t.hd.life, .int .i64 x.e.t.level, .bool x.e.t.over, .slice x.s.ea x.e.t.es.length x.s.ec, .slice x.s.ra x.e.t.rs.length x.s.rc, .int .i64 x.e.exp]
/-- A piece whose lists may be read. -/
structure Rd2 (W : World) (t : TiV) (s : Sl2) : Prop where
  e : RdE 3 encEdge W s.ea t.es
  r : RdE 3 encReach W s.ra t.rs
  le : t.es.length ≤ 100 ∧ t.es.length ≤ s.ec ∧ s.ec ≤ maxLen
  lr : t.rs.length ≤ 100 ∧ t.rs.length ≤ s.rc ∧ s.rc ≤ maxLen
  ne : s.ea = none → s.ec = 0
  nr : s.ra = none → s.rc = 0
  ok : ∀ y ∈ t.rs, 0 ≤ y.net ∧ y.net < 4294967296
theorem Rd2.below {W W' : World} {t : TiV} {s : Sl2} (h : Rd2 W t s) (k : Below W.heap.size W W') : Rd2 W' t s := ⟨h.e.below k, h.r.below k, h.le, h.lr, h.ne, h.nr, h.ok⟩
/-- Lists of one's own. -/
structure Own2 (W : World) (n0 : Nat) (t : TiV) (s : Sl2) : Prop where
  e : OwnE 94 3 encEdge W n0 (.slice s.ea t.es.length s.ec) t.es
  r : OwnE 99 3 encReach W n0 (.slice s.ra t.rs.length s.rc) t.rs
theorem own_slice {E : Type} {T : TypeId} {sz : Nat} {enc : E → List Value} {W : World} {n0 : Nat} {a : Option Addr} {n c : Nat} {l : List E} (h : OwnE T sz enc W n0 (.slice a n c) l) : n = l.length ∧ l.length ≤ c ∧ c ≤ maxLen ∧ (a = none → c = 0) := by
  rcases h.form with ⟨e, hl⟩ | ⟨g, cap, e, _, _, h1, h2⟩
  · injection e with e1 e2 e3
    subst e1 e2 e3 hl
    exact ⟨rfl, Nat.le_refl _, by decide, fun _ => rfl⟩
  · injection e with e1 e2 e3
    subst e1 e2 e3
    exact ⟨rfl, h1, h2, fun q => by cases q⟩
theorem right_nets {t : TiV} (h : rightV t = true) : ∀ y ∈ t.rs, 0 ≤ y.net ∧ y.net < 4294967296 := fun y hy => by
  unfold rightV at h
  simp only [tieR, Bool.and_eq_true] at h
  have h2 := List.all_eq_true.1 h.2.2.2.2.1 y hy
  unfold reachR at h2
  rw [Bool.and_eq_true, Bool.and_eq_true, Bool.and_eq_true] at h2
  have := rg_is h2.1.1.1
  omega
theorem Own2.rd {W : World} {n0 : Nat} {t : TiV} {s : Sl2} (h : Own2 W n0 t s) (hr : rightV t = true) : Rd2 W t s := by
  have h1 := own_slice h.e
  have h2 := own_slice h.r
  have h3 := right_lens hr
  exact ⟨kindE.rd h.e, kindR.rd h.r, ⟨by omega, h1.2.1, h1.2.2.1⟩, ⟨by omega, h2.2.1, h2.2.2.1⟩, h1.2.2.2, h2.2.2.2, right_nets hr⟩
/-- What the base's memory is made of. -/
def stayD : Obj → Prop
  | .cells _ T _ => T = 61 ∨ T = 94 ∨ T = 99
  | .map _ _ => True
  | _ => False
theorem Own2.same {W W' : World} {n0 : Nat} {t : TiV} {s : Sl2} (h : Own2 W n0 t s) (k : ∀ (j : Nat) (cs : Array Value) (T : TypeId) (fr : Nat × Nat), W.heap[j]? = some (.cells cs T fr) → (T = 94 ∨ T = 99) → W'.heap[j]? = some (.cells cs T fr)) : Own2 W' n0 t s :=
  ⟨h.e.same fun g hg => by obtain ⟨cur, hc⟩ := h.e.block hg; rw [hc]; exact k g _ _ _ hc (.inl rfl), h.r.same fun g hg => by obtain ⟨cur, hc⟩ := h.r.block hg; rw [hc]; exact k g _ _ _ hc (.inr rfl)⟩
def entK (x : EnK) : IdV := (x.e.id, aggK x)
/-- The program's base. -/
structure ProgD (W : World) (n0 pb mb : Nat) (room : Int) (K : List EnT) : Prop where
  base : W.heap[pb]? = some (.cells #[.int .i64 room, .map (some mb)] 61 (0, 0))
  has : ∃ L : List EnK, MapV W mb (L.map entK) ∧ (L.map EnK.e).Perm K ∧ ∀ x ∈ L, Own2 W n0 x.e.t x.s
  hp : n0 ≤ pb
  hm : n0 ≤ mb
  inv : InvD room K
theorem ProgD.lt {W : World} {n0 pb mb : Nat} {room : Int} {K : List EnT} (h : ProgD W n0 pb mb room K) : pb < W.heap.size ∧ mb < W.heap.size := by
  obtain ⟨L, hL, _⟩ := h.has
  exact ⟨(Array.getElem?_eq_some_iff.1 h.base).1, hL.lt⟩
theorem ProgD.keep {W W' : World} {n0 pb mb : Nat} {room : Int} {K : List EnT} (h : ProgD W n0 pb mb room K) (k : ∀ (j : Nat) (o : Obj), W.heap[j]? = some o → stayD o → W'.heap[j]? = some o) : ProgD W' n0 pb mb room K := by
  obtain ⟨L, hL, hp, ho⟩ := h.has
  refine ⟨k _ _ h.base (.inl rfl), ⟨L, ?_, hp, fun x hx => (ho x hx).same fun j cs T fr hj hT => k j _ hj (.inr hT)⟩, h.hp, h.hm, h.inv⟩
  obtain ⟨es, c, he⟩ := hL.isMap
  exact hL.same (by rw [he]; exact k _ _ he trivial)
theorem ProgD.below {W W' : World} {n0 pb mb : Nat} {room : Int} {K : List EnT} (h : ProgD W n0 pb mb room K) (k : Below W.heap.size W W') : ProgD W' n0 pb mb room K := h.keep fun j o hj _ => (k.block j (Array.getElem?_eq_some_iff.1 hj).1).trans hj
theorem ProgD.mono {W : World} {n0 n1 pb mb : Nat} {room : Int} {K : List EnT} (h : ProgD W n0 pb mb room K) (hn : n1 ≤ n0) : ProgD W n1 pb mb room K := by
  obtain ⟨L, hL, hp, ho⟩ := h.has
  exact ⟨h.base, ⟨L, hL, hp, fun x hx => ⟨(ho x hx).e.mono hn, (ho x hx).r.mono hn⟩⟩, by have := h.hp; omega, by have := h.hm; omega, h.inv⟩
theorem ProgD.cells {W : World} {n0 pb mb : Nat} {room : Int} {K : List EnT} (h : ProgD W n0 pb mb room K) : W.cell? ⟨pb, 0, none⟩ = some (.int .i64 room) ∧ W.cell? ⟨pb, 1, none⟩ = some (.map (some mb)) := by
  have := h.base
  simp [World.cell?, this]
/-- The map has turned. -/
theorem ProgD.turn {W W' : World} {n0 pb mb : Nat} {room : Int} {K K' : List EnT} (h : ProgD W n0 pb mb room K) (ht : W.mapTurned W' mb) (hi : InvD room K') (L : List EnK) (hL : MapV W' mb (L.map entK)) (hp : (L.map EnK.e).Perm K') (ho : ∀ x ∈ L, Own2 W n0 x.e.t x.s) : ProgD W' n0 pb mb room K' := by
  obtain ⟨_, hM, _⟩ := h.has
  obtain ⟨es, c, he⟩ := hM.isMap
  have hb : ∀ (j : Nat) (cs : Array Value) (T : TypeId) (fr : Nat × Nat), W.heap[j]? = some (.cells cs T fr) → W'.heap[j]? = some (.cells cs T fr) := fun j cs T fr hj => by
    have hne : j ≠ mb := fun e => by rw [e, he] at hj; cases hj
    rw [ht.grown.block j (Array.getElem?_eq_some_iff.1 hj).1 (fun e => hne (Option.some.inj e))]
    exact hj
  exact ⟨hb _ _ _ _ h.base, ⟨L, hL, hp, fun x hx => (ho x hx).same fun j cs T fr hj _ => hb j cs T fr hj⟩, h.hp, h.hm, hi⟩
/-! Numbers. -/
set_option maxHeartbeats 800000 in
set_option maxRecDepth 100000 in
theorem dwithin_any (n a b : Int) (w : World) : Calls Tryz.prog 21 #[.int .i64 n, .int .i64 a, .int .i64 b] w fun e w' => e = .returned (.bool (decide (a ≤ n ∧ n ≤ b))) ∧ w' = w := by
  by_cases h1 : a ≤ n
  · by_cases h2 : n ≤ b
    · rw [decide_eq_true (⟨h1, h2⟩ : a ≤ n ∧ n ≤ b)]
      have d1 : decide (a ≤ n) = true := decide_eq_true h1
      have d2 : decide (n ≤ b) = true := decide_eq_true h2
      go_enter Tryz.func21, Tryz.ntmps21
      go_wp2
      go_ret
      exact ⟨by first | rfl | simp, rfl⟩
    · rw [decide_eq_false (fun q : a ≤ n ∧ n ≤ b => h2 q.2)]
      have d1 : decide (a ≤ n) = true := decide_eq_true h1
      have d2 : decide (n ≤ b) = false := decide_eq_false h2
      go_enter Tryz.func21, Tryz.ntmps21
      go_wp2
      go_ret
      exact ⟨by first | rfl | simp, rfl⟩
  · rw [decide_eq_false (fun q : a ≤ n ∧ n ≤ b => h1 q.1)]
    have d1 : decide (a ≤ n) = false := decide_eq_false h1
    go_enter Tryz.func21, Tryz.ntmps21
    go_wp2
    go_ret
    exact ⟨by first | rfl | simp, rfl⟩
set_option maxHeartbeats 800000 in
set_option maxRecDepth 100000 in
theorem dtime_any (n : Int) (w : World) : Calls Tryz.prog 34 #[.int .i64 n] w fun e w' => e = .returned (.bool (decide (momD n))) ∧ w' = w := by
  have h := dwithin_any n 0 1099511627776 w
  obtain ⟨r, hr⟩ : ∃ r, decide (momD n) = r := ⟨_, rfl⟩
  rw [show decide (0 ≤ n ∧ n ≤ 1099511627776) = r from hr] at h
  rw [hr]
  clear hr
  go_enter Tryz.func34, Tryz.ntmps34
  go_wp2_with (go_at_call 21; refine h.mono ?_; rintro e w1 ⟨rfl, hww⟩; have hww := hww.symm; subst hww)
  go_ret
  exact ⟨rfl, rfl⟩
set_option maxHeartbeats 1600000 in
set_option maxRecDepth 100000 in
theorem dleft_any (x : EnK) (now : Int) (h : -9223372036854775808 ≤ x.e.exp - now ∧ x.e.exp - now ≤ 9223372036854775807) (w : World) : Calls Tryz.prog 42 #[aggK x, .int .i64 now] w fun e w' => e = .returned (.int .i64 (leftD x.e now)) ∧ Below w.heap.size w w' := by
  unfold aggK
  have HB : Hid (∀ A : Obj, Below w.heap.size w (w.alloc A)) := fun A => (Below.refl _ w).alloc (Nat.le_refl _) _
  unfold leftD
  by_cases c : x.e.exp - now < 0
  · rw [if_pos c]
    go_enter Tryz.func42, Tryz.ntmps42
    go_wp2
    go_ret
    exact ⟨rfl, HB.out _⟩
  · rw [if_neg c]
    go_enter Tryz.func42, Tryz.ntmps42
    go_wp2
    go_ret
    exact ⟨rfl, HB.out _⟩
end Go.Proofs.YtpaooddmgcekhaaGreat.ti
