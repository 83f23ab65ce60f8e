/-
  THE TRAVERSAL's reach: a net as a number; no bits set behind those that count.
-/
import Derived.Test.YtpaooddmgcekhaaGreatWHead
namespace Go.Proofs.YtpaooddmgcekhaaGreat
open Go.RowKit Go.Shelf
set_option linter.unusedVariables false

def encReach (x : ReachT) : List Value := [.int .u32 x.net, .int .i64 x.bits, .int .i64 x.metric]
section
variable {σ : Type}
theorem shl_eq (m u : Int) : (IntKind.u32.wrap (m * 2 ^ min (IntKind.u64.wrap u).toNat 32) == 0) = shlB m u := by
  unfold shlB
  simp [IntKind.wrap, IntKind.signed, IntKind.bits]
set_option maxHeartbeats 1000000 in
theorem reach_any {E : Env σ} (ok : E.Ok) (B off : Nat) (x : ReachT) (hx : 0 ≤ x.net ∧ x.net < 4294967296) {r : Nat} (t : σ × Bool) (W : World) (h : E.St (r + 3) t W) (ha : At E.base W B off (encReach x)) :
    Calls Tryz.prog 107 #[.pointer (some ⟨E.bt, 0, none⟩), .pointer (some ⟨B, off, none⟩)] W fun e w' =>
      e = .returned (.tuple #[]) ∧ E.St r (reachM E.M x t).2 w' ∧ Chg E.base B off (off + 3) W w' ∧ At E.base w' B off (encReach (reachM E.M x t).1) := by
  have hb : E.base ≤ W.heap.size := by have := h.lt; have := ok.le; omega
  have hB := ha.lt
  have hBb := ha.1
  have x0 := hx.1
  have x1 := hx.2
  have g0 := ha.cell0 rfl
  have K0 := Lib.hid ((Keep.refl E.base W).alloc hb (.cells #[.int .i64 x.net] 3))
  have S0 := Lib.hid (h.alloc ok (.cells #[.int .i64 x.net] 3))
  have N0 := Lib.hid (At.new E.base W hb [.int .i64 x.net] 3 rfl)
  have A0 := Lib.hid (ha.alloc hb (.cells #[.int .i64 x.net] 3))
  clear h ha hx
  go_enter Tryz.func107, Tryz.ntmps107
  go_wp2_with (first
    | (go_at_call 83; (with_reducible refine (between_any ok 1 0 4294967295 W.heap.size 0 _ t _ S0.out N0.out).mono ?_); rintro e w1 ⟨rfl, hs1, hc1, ha1⟩; obtain ⟨v, hv⟩ : ∃ v, btw E.M 1 0 4294967295 x.net t = v := ⟨_, rfl⟩; rw [hv] at hs1 ha1; have HV := Lib.hid hv; have S1 := Lib.hid hs1; have K1 := Lib.hid (Chg.fresh K0.out hc1 (Nat.le_refl _)); have A1 := Lib.hid (A0.out.chg hc1 (.inl (by omega))); have n1 := ha1.cell0 rfl; have f1 := A1.out.frozen off; have g1 := A1.out.cell0 rfl; have S1' : RowKit.Hid (E.St (r + 2) v.2 (w1.setCell ⟨B, off, none⟩ (.int .u32 (v.1 % 4294967296)))) := S1.out.set ok A1.out off _; have A1' : RowKit.Hid (At E.base (w1.setCell ⟨B, off, none⟩ (.int .u32 (v.1 % 4294967296))) B off [.int .u32 (v.1 % 4294967296), .int .i64 x.bits, .int .i64 x.metric]) := A1.out.set 0 (Nat.zero_lt_succ _) _; have C1 : RowKit.Hid (Chg E.base B off (off + 3) W (w1.setCell ⟨B, off, none⟩ (.int .u32 (v.1 % 4294967296)))) := (K1.out.chg B off (off + 3)).set hBb (Nat.le_refl _) (by omega) _; clear hv hs1 hc1 ha1 g0)
    | (go_at_call 83; (with_reducible refine (between_at ok 2 0 32 B off 1 _ _ rfl _ _ S1'.out A1'.out).mono ?_); rintro e w2 ⟨rfl, hs2, hc2, ha2⟩; obtain ⟨u, hu⟩ : ∃ u, btw E.M 2 0 32 x.bits v.2 = u := ⟨_, rfl⟩; rw [hu] at hs2 ha2; have HU := Lib.hid hu; have S2 := Lib.hid (hs2.drew ok); have C2 := Lib.hid (C1.out.trans (hc2.mono (Nat.le_add_right off 1) (show off + 1 + 1 ≤ off + 3 by omega))); have A2 := Lib.hid ha2.drew; have d0 : w2.cell? ⟨B, off, none⟩ = some (.int .u32 (v.1 % 4294967296)) := A2.out.cell0 rfl; have d1 : w2.cell? ⟨B, off + 1, none⟩ = some (.int .i64 u.1) := A2.out.cell 1 rfl; clear hu hs2 hc2 ha2 g1 n1 f1))
  go_region_held (fun w' => w'.cell? ⟨B, off, none⟩ = some (.int .u32 (v.1 % 4294967296)) ∧ w'.cell? ⟨B, off + 1, none⟩ = some (.int .i64 u.1)) (first | go_keep | exact ⟨by assumption, by assumption⟩)
    (first
      | (go_at_call 101; refine (must_any ok _ _ _ S2.out).mono ?_; rintro e w3 ⟨rfl, hs3, hk3⟩; have S3 := Lib.hid hs3; have C3 := Lib.hid (C2.out.trans (hk3.drawn.chg B off (off + 3))); have A3 := Lib.hid (A2.out.keep hk3); have e0 : w3.cell? ⟨B, off, none⟩ = some (.int .u32 (v.1 % 4294967296)) := A3.out.cell0 rfl; have e1 : w3.cell? ⟨B, off + 1, none⟩ = some (.int .i64 u.1) := A3.out.cell 1 rfl; clear hs3 hk3))
  go_wp2_with (first
    | (go_at_call 83; (with_reducible refine (between_at ok 3 0 1048576 B off 2 _ _ rfl _ _ S3.out A3.out).mono ?_); rintro e w4 ⟨rfl, hs4, hc4, ha4⟩; have S4 := Lib.hid hs4; have C4 := Lib.hid (C3.out.trans (hc4.mono (Nat.le_add_right off 2) (show off + 2 + 1 ≤ off + 3 by omega))); have A4 := Lib.hid ha4; clear hs4 hc4 ha4))
  go_end0
  have h4 := S4.out
  rw [shl_eq] at h4
  have e1 := HV.out
  have e2 := HU.out
  subst e1
  subst e2
  exact ⟨rfl, h4, C4.out, A4.out⟩
end
end Go.Proofs.YtpaooddmgcekhaaGreat
