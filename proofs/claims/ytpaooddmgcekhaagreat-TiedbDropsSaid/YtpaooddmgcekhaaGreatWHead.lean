/-
  THE TRAVERSAL's structs: the closures that go through what is within; a head.
-/
import Derived.Test.YtpaooddmgcekhaaGreatWTrav
import Derived.Deep.RegionHeld
namespace Go.Proofs.YtpaooddmgcekhaaGreat
open Go.RowKit Go.Shelf
set_option linter.unusedVariables false

section
variable {σ : Type}
def encHead (x : HeadT) : List Value := encId x.id ++ [.int .i64 x.seq, .int .i64 x.life]

theorem Chg.drawn {base B lo hi : Nat} {W W' : World} (h : Chg base B lo hi W.drew W') : Chg base B lo hi W W' := ⟨⟨h.bel.os, h.bel.tape, h.bel.output, h.bel.size, h.bel.block⟩, h.keep, h.at_⟩
theorem Keep.drawn {base : Nat} {W W' : World} (h : Keep base W.drew W') : Keep base W W' := ⟨⟨h.bel.os, h.bel.tape, h.bel.output, h.bel.size, h.bel.block⟩, h.keep⟩
/-- A closure that goes through a head's id. -/
theorem head1_any {E : Env σ} (ok : E.Ok) (q1 q2 B off : Nat) (hq1 : q1 ≠ B) (hq2 : q2 ≠ B) (x : IdT) {r : Nat} (t : σ × Bool) (W : World) (h : E.St (r + 4) t W)
    (h1 : At E.base W q1 0 [.pointer (some ⟨E.bt, 0, none⟩)]) (h2 : At E.base W q2 0 [.pointer (some ⟨B, off, none⟩)]) (ha : At E.base W B (off) (encId x)) :
    Calls Tryz.prog 109 #[.pointer (some ⟨q1, 0, none⟩), .pointer (some ⟨q2, 0, none⟩)] W fun e w' =>
      e = .returned (.tuple #[]) ∧ E.St r (idM E.M x t).2 w' ∧ Chg E.base B (off) (off + 4) W w' ∧ At E.base w' B (off) (encId (idM E.M x t).1) := by
  have c1 := h1.cell0 rfl
  have c2 := h2.cell0 rfl
  have hc := Lib.hid (tieId_any ok B (off) x t W.drew (h.drew ok) ha)
  have H1 := Lib.hid h1.drew
  have H2 := Lib.hid h2.drew
  clear h h1 h2 ha
  go_enter Tryz.func109, Tryz.ntmps109
  go_wp2
  go_region_held (fun w' => w'.cell? ⟨q1, 0, none⟩ = some (.pointer (some ⟨E.bt, 0, none⟩)) ∧ w'.cell? ⟨q2, 0, none⟩ = some (.pointer (some ⟨B, off, none⟩))) (first | go_keep | exact ⟨by assumption, by assumption⟩)
    (first
      | (go_at_call 90; refine hc.out.mono ?_; rintro e w1 ⟨rfl, hs1, hc1, ha1⟩; have d1 := (At.chg H1.out hc1 (.inl hq1)).cell0 rfl; have d2 := (At.chg H2.out hc1 (.inl hq2)).cell0 rfl; have S1 := Lib.hid hs1; have C1 := Lib.hid hc1.drawn; have A1 := Lib.hid ha1; clear hs1 hc1 ha1))
  go_wp2
  go_end0
  exact ⟨rfl, S1.out, C1.out, A1.out⟩
/-- The two boxes that a function of a traversal lays of its arguments. -/
structure Two (E : Env σ) (ty : TypeId) (n B off : Nat) (W : World) : Prop where
  b1 : At E.base W n 0 [.pointer (some ⟨E.bt, 0, none⟩)]
  b2 : At E.base W (n + 1) 0 [.pointer (some ⟨B, off, none⟩)]
theorem Two.new {E : Env σ} (ok : E.Ok) {r : Nat} {t : σ × Bool} {W : World} (h : E.St r t W) (ty : TypeId) (hty : keepT ty = true) (B off : Nat) :
    Two E ty W.heap.size B off ((W.alloc (.cells #[.pointer (some ⟨E.bt, 0, none⟩)] 147)).alloc (.cells #[.pointer (some ⟨B, off, none⟩)] ty)) := by
  have hb : E.base ≤ W.heap.size := by have := h.lt; have := ok.le; omega
  have h1 := At.new E.base W hb [.pointer (some ⟨E.bt, 0, none⟩)] 147 rfl
  have h2 := At.new E.base (W.alloc (.cells #[.pointer (some ⟨E.bt, 0, none⟩)] 147)) (by simp; omega) [.pointer (some ⟨B, off, none⟩)] ty hty
  exact ⟨h1.alloc (by simp; omega) _, by simpa using h2⟩
theorem Two.chg {E : Env σ} {ty : TypeId} {n B off lo hi : Nat} {W W' : World} (h : Two E ty n B off W) (k : Chg E.base B lo hi W W') (hB : B < n) : Two E ty n B off W' :=
  ⟨h.b1.chg k (.inl (by omega)), h.b2.chg k (.inl (by omega))⟩
theorem Two.keep {E : Env σ} {ty : TypeId} {n B off : Nat} {W W' : World} (h : Two E ty n B off W) (k : Keep E.base W W') : Two E ty n B off W' := ⟨h.b1.keep k, h.b2.keep k⟩
theorem Two.c1 {E : Env σ} {ty : TypeId} {n B off : Nat} {W : World} (h : Two E ty n B off W) : W.cell? ⟨n, 0, none⟩ = some (.pointer (some ⟨E.bt, 0, none⟩)) := h.b1.cell0 rfl
theorem Two.c2 {E : Env σ} {ty : TypeId} {n B off : Nat} {W : World} (h : Two E ty n B off W) : W.cell? ⟨n + 1, 0, none⟩ = some (.pointer (some ⟨B, off, none⟩)) := h.b2.cell0 rfl
theorem Two.drew {E : Env σ} {ty : TypeId} {n B off : Nat} {W : World} (h : Two E ty n B off W) : Two E ty n B off W.drew := ⟨h.b1.drew, h.b2.drew⟩
theorem two_keep {E : Env σ} (ok : E.Ok) {r : Nat} {t : σ × Bool} {W : World} (h : E.St r t W) (o1 o2 : Obj) : Keep E.base W ((W.alloc o1).alloc o2) := by
  have hb : E.base ≤ W.heap.size := by have := h.lt; have := ok.le; omega
  exact ((Keep.refl _ _).alloc hb _).alloc (by simp; omega) _

theorem head_join {base : Nat} {W W' : World} {B off : Nat} {x : HeadT} {y : IdT} (h : At base W B off (encHead x)) (k : Chg base B off (off + 4) W W') (h' : At base W' B off (encId y)) : At base W' B off (encId y ++ [.int .i64 x.seq, .int .i64 x.life]) :=
  At.join (a := []) (b := encId x.id) (b' := encId y) (c := [.int .i64 x.seq, .int .i64 x.life]) (i := 0) h rfl rfl k h'
set_option maxHeartbeats 1000000 in
theorem head_any {E : Env σ} (ok : E.Ok) (B off : Nat) (x : HeadT) {r : Nat} (t : σ × Bool) (W : World) (h : E.St (r + 8) t W) (ha : At E.base W B off (encHead x)) :
    Calls Tryz.prog 93 #[.pointer (some ⟨E.bt, 0, none⟩), .pointer (some ⟨B, off, none⟩)] W fun e w' =>
      e = .returned (.tuple #[]) ∧ E.St r (headM E.M x t).2 w' ∧ Chg E.base B off (off + 6) W w' ∧ At E.base w' B off (encHead (headM E.M x t).1) := by
  have hB := ha.lt
  have TW := Lib.hid (Two.new ok h 166 rfl B off)
  have KK := two_keep ok h (.cells #[.pointer (some ⟨E.bt, 0, none⟩)] 147) (.cells #[.pointer (some ⟨B, off, none⟩)] 166)
  have S0 := Lib.hid ((h.alloc ok (.cells #[.pointer (some ⟨E.bt, 0, none⟩)] 147)).alloc ok (.cells #[.pointer (some ⟨B, off, none⟩)] 166))
  have A0 := Lib.hid (ha.keep KK)
  have K0 := Lib.hid KK
  have he : ∀ (args : Array Value) (w : World), (callFunc 109 args).run Tryz.prog w = .ok (.enter 109 args) w := enters_of Tryz.func109 (by kernel_rfl) rfl
  have HE := Lib.hid he
  have q1 := TW.out.c1
  have q2 := TW.out.c2
  clear h ha KK he
  go_enter Tryz.func93, Tryz.ntmps93
  go_wp2_with (first
    | (go_at_call 84; refine (within_any ok 1 _ HE.out _ _ B off (off + 4) (fun w => At E.base w B off (encId (idM E.M x.id (openM E.M 1 t)).1)) (fun _ _ h k => h.keep k) t (idM E.M x.id (openM E.M 1 t)).2 _ S0.out (fun W1 hk hs => head1_any ok _ _ B off (by omega) (by omega) x.id (openM E.M 1 t) W1 hs (TW.out.keep hk).b1 (TW.out.keep hk).b2 ((A0.out.part 0 4).keep hk))).mono ?_; rintro e w1 ⟨rfl, hs1, hc1, ha1⟩; have S1 := Lib.hid (hs1.drew ok); have A1 := Lib.hid (head_join A0.out hc1 ha1).drew; have TW1 := Lib.hid (TW.out.chg hc1 hB).drew; have C1 := Lib.hid ((K0.out.chg B off (off + 6)).trans (hc1.mono (Nat.le_refl _) (show off + 4 ≤ off + 6 by omega))); clear q1 q2; have q1 : w1.cell? ⟨W.heap.size, 0, none⟩ = some (.pointer (some ⟨E.bt, 0, none⟩)) := TW1.out.c1; have q2 : w1.cell? ⟨W.heap.size + 1, 0, none⟩ = some (.pointer (some ⟨B, off, none⟩)) := TW1.out.c2; clear hs1 hc1 ha1))
  go_region_held (fun w' => w'.cell? ⟨W.heap.size, 0, none⟩ = some (.pointer (some ⟨E.bt, 0, none⟩)) ∧ w'.cell? ⟨W.heap.size + 1, 0, none⟩ = some (.pointer (some ⟨B, off, none⟩))) (first | go_keep | exact ⟨by assumption, by assumption⟩)
    (first
      | (go_at_call 83; (with_reducible refine (between_at ok 2 0 1099511627776 B off 4 _ _ rfl _ _ S1.out A1.out).mono ?_); rintro e w2 ⟨rfl, hs2, hc2, ha2⟩; have S2 := Lib.hid (hs2.drew ok); have A2 := Lib.hid ha2.drew; have TW2 := Lib.hid (TW1.out.chg hc2 hB).drew; have C2 := Lib.hid (C1.out.trans (hc2.drawn.mono (Nat.le_add_right off 4) (show off + 4 + 1 ≤ off + 6 by omega))); clear q1 q2; have q1 : w2.cell? ⟨W.heap.size, 0, none⟩ = some (.pointer (some ⟨E.bt, 0, none⟩)) := TW2.out.c1; have q2 : w2.cell? ⟨W.heap.size + 1, 0, none⟩ = some (.pointer (some ⟨B, off, none⟩)) := TW2.out.c2; clear hs2 hc2 ha2))
  go_wp2
  go_region_held (fun w' => w'.cell? ⟨W.heap.size, 0, none⟩ = some (.pointer (some ⟨E.bt, 0, none⟩)) ∧ w'.cell? ⟨W.heap.size + 1, 0, none⟩ = some (.pointer (some ⟨B, off, none⟩))) (first | go_keep | exact ⟨by assumption, by assumption⟩)
    (first
      | (go_at_call 83; (with_reducible refine (between_at ok 3 0 604800 B off 5 _ _ rfl _ _ S2.out A2.out).mono ?_); rintro e w3 ⟨rfl, hs3, hc3, ha3⟩; have S3 := Lib.hid hs3; have A3 := Lib.hid ha3; have TW3 := Lib.hid (TW2.out.chg hc3 hB); have C3 := Lib.hid (C2.out.trans (hc3.drawn.mono (Nat.le_add_right off 5) (show off + 5 + 1 ≤ off + 6 by omega))); clear q1 q2; have q1 : w3.cell? ⟨W.heap.size, 0, none⟩ = some (.pointer (some ⟨E.bt, 0, none⟩)) := TW3.out.c1; have q2 : w3.cell? ⟨W.heap.size + 1, 0, none⟩ = some (.pointer (some ⟨B, off, none⟩)) := TW3.out.c2; clear hs3 hc3 ha3))
  go_wp2
  go_end0
  exact ⟨rfl, S3.out, C3.out, A3.out⟩
end
end Go.Proofs.YtpaooddmgcekhaaGreat
