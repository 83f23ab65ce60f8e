/-
  awake of layer 3: a Tire without heads; Few.
-/
import Derived.Test.YtjkibgnkkienbaaWCode
namespace Go.Proofs.Ytjkibgnkkienbaa
open Go.RowKit Go.Shelf
set_option linter.unusedVariables false

def tireP : PackT := { PackT.zero with kind := 4 }
theorem tire_right : rightW tireP = true := by decide
theorem tire_enc : encL (packI tireP) = [4, 8] := by
  simp [packI, tireP, PackT.zero, encL, itemL, intI, zigI, putL_lt]
theorem tire_pk (w : World) : Pk w.heap.size w tireP none none none 0 0 0 :=
  ⟨fun h => by simp [tireP, PackT.zero, TieT.zero] at h, fun h => by simp [tireP, PackT.zero, TieT.zero] at h, fun h => by simp [tireP, PackT.zero] at h, ⟨by simp [tireP, PackT.zero, TieT.zero], by simp [tireP, PackT.zero, TieT.zero], Nat.zero_le _⟩, ⟨by simp [tireP, PackT.zero, TieT.zero], by simp [tireP, PackT.zero, TieT.zero], Nat.zero_le _⟩, ⟨by simp [tireP, PackT.zero], by simp [tireP, PackT.zero], Nat.zero_le _⟩, fun y hy => by simp [tireP, PackT.zero, TieT.zero] at hy⟩
theorem awakew_any (w : World) : Calls Try.prog 4 #[] w fun e w' => e = .returned (.bool true) ∧ Below w.heap.size w w' := by
  have hE := Lib.hid (wenc_ok tireP none none none 0 0 0 w (tire_pk w) tire_right (by rw [tire_enc]; simp) [4, 8] tire_enc)
  go_enter Try.func4, Try.ntmps4
  go_wp2_with (first
    | (go_at_call 6; refine hE.out.mono ?_; rintro e w1 ⟨A, c, rfl, hc1, hc2, hrd, hb⟩; have hcv : (convert 37 9 (.slice A 2 c)).run Try.prog w1 = .ok (.string ⟨#[4, 8]⟩) w1 := conv_rd hrd c; have hb' := Lib.hid hb; clear hb hrd))
  go_ret
  exact ⟨rfl, hb'.out⟩

def few3 (p : PackT) : Bool := decide (p.heads.length < 200 ∧ p.tie.edges.length < 200 ∧ p.tie.reaches.length < 200)
set_option maxRecDepth 100000 in
set_option maxHeartbeats 4000000 in
theorem few3_any (p : PackT) (ae ar ah : Option Addr) (ce cr ch : Nat) (w : World) :
    Calls Try.prog 5 #[.agg #[.int .i64 p.kind, .int .i64 p.lie.node, .int .i64 p.lie.level, .int .i64 p.lie.pod, .int .i64 p.lie.mtu, .int .i64 p.lie.link, .int .i64 p.lie.nonce, .int .i64 p.lie.seen, .int .i64 p.lie.seenLink, .int .i64 p.lie.seenNonce, .int .i64 p.lie.hold, .bool p.lie.rep, .bool p.lie.noOffer, .int .i64 p.tie.head.id.dir, .int .i64 p.tie.head.id.orig, .int .i64 p.tie.head.id.kind, .int .i64 p.tie.head.id.nr, .int .i64 p.tie.head.seq, .int .i64 p.tie.head.life, .int .i64 p.tie.level, .bool p.tie.over, .slice ae p.tie.edges.length ce, .slice ar p.tie.reaches.length cr, .int .i64 p.frm.dir, .int .i64 p.frm.orig, .int .i64 p.frm.kind, .int .i64 p.frm.nr, .int .i64 p.to.dir, .int .i64 p.to.orig, .int .i64 p.to.kind, .int .i64 p.to.nr, .slice ah p.heads.length ch]] w fun e w' => e = .returned (.bool (few3 p)) ∧ Below w.heap.size w w' := by
  go_enter Try.func5, Try.ntmps5
  go_wp2
  all_goals go_ret
  all_goals exact ⟨ret_bool (by unfold few3; first | (simp; omega) | (simp [*]; done) | (rw [Bool.eq_iff_iff]; simp; omega)), (Below.refl _ _).alloc (Nat.le_refl _) _⟩
end Go.Proofs.Ytjkibgnkkienbaa
