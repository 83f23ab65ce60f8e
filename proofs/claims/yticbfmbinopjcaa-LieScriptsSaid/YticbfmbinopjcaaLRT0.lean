/-
  THE DOCUMENT'S END takes what it hears.
-/
import Derived.Test.YticbfmbinopjcaaLTake
import Derived.Test.YticbfmbinopjcaaLRDo
import Derived.Test.YticbfmbinopjcaaLRAcc
namespace Go.Proofs.Yticbfmbinopjcaa
set_option linter.unusedSimpArgs false
set_option linter.unusedVariables false
open Go.RowKit
theorem TK.drewN {T : TypeId} {W0 W : World} {b k : Nat} {e : EndT} {x : LieT} (h : TK T W0 b k e x W) (n : Nat) : TK T W0 b k e x (W.drewN n) := ⟨h.1, h.2.1, h.2.2.drewN n⟩
theorem rright_lie (x : LieT) (W : World) : Calls Try.prog 37 #[.agg #[.int .i64 1, .int .i64 x.node, .int .i64 x.level, .int .i64 x.pod, .int .i64 x.mtu, .int .i64 x.link, .int .i64 x.nonce, .int .i64 x.seen, .int .i64 x.seenLink, .int .i64 x.seenNonce, .int .i64 x.hold, .bool x.rep, .bool x.noOffer, .int .i64 0, .int .i64 0, .int .i64 0, .int .i64 0, .int .i64 0, .int .i64 0, .int .i64 0, .bool false, .slice none 0 0, .slice none 0 0, .int .i64 0, .int .i64 0, .int .i64 0, .int .i64 0, .int .i64 0, .int .i64 0, .int .i64 0, .int .i64 0, .slice none 0 0]] W fun e w' => e = .returned (.bool (lieR x)) ∧ Below W.heap.size W w' := by
  have h := rRight_any (lieP x) none none none 0 0 0 W (lieP_pk _ _ _)
  rw [lieP_right] at h
  exact h
theorem rfresh_dec (told own slack : Int) (w : World) : Calls Try.prog 39 #[.int .i64 told, .int .i64 own, .int .i64 slack] w fun e w' => e = .returned (.bool (decide (freshN told own slack))) ∧ w' = w :=
  (rfresh_any told own slack w).mono fun e w' ⟨h1, h2⟩ => ⟨h1.dec, h2⟩
set_option maxHeartbeats 3200000 in
set_option maxRecDepth 100000 in
theorem rtake_arg {W : World} {b : Nat} {e : EndT} (h : EndP 46 W b e) (hi : InvE e) (x : LieT) (now : Int) (k : ¬ timeB now) : Calls Try.prog 15 #[.pointer (some ⟨b, 0, none⟩), .agg #[.int .i64 x.node, .int .i64 x.level, .int .i64 x.pod, .int .i64 x.mtu, .int .i64 x.link, .int .i64 x.nonce, .int .i64 x.seen, .int .i64 x.seenLink, .int .i64 x.seenNonce, .int .i64 x.hold, .bool x.rep, .bool x.noOffer], .int .i64 now] W (TakeP 46 W b e x now) := by
  have hb := TK.new h x
  have H := Lib.hid h
  have ht := fun W => (rtime_any now W).mono fun e w' h => (⟨h.1.dec, h.2⟩ : e = .returned (.bool (decide (timeB now))) ∧ w' = W)
  obtain ⟨V, hV⟩ : ∃ V, W.alloc (.cells #[.int .i64 x.node, .int .i64 x.level, .int .i64 x.pod, .int .i64 x.mtu, .int .i64 x.link, .int .i64 x.nonce, .int .i64 x.seen, .int .i64 x.seenLink, .int .i64 x.seenNonce, .int .i64 x.hold, .bool x.rep, .bool x.noOffer] 25) = V := ⟨_, rfl⟩
  rw [hV] at hb
  have HV := Lib.hid hV
  have HB := Lib.hid hb
  rw [decide_eq_false k] at ht
  have K : RowKit.Hid (takeE e x now = (1, e)) := by unfold Hid takeE; rw [if_pos k]
  clear k hV hb h hi
  go_enter Try.func15, Try.ntmps15
  go_wp2_with (go_at_call 36; refine (ht _).mono ?_; rintro en w0 ⟨rfl, rfl⟩)
  go_ret
  unfold TakeP
  rw [K.out, HV.out]
  exact ⟨rfl, HB.out.1, HB.out.2.2⟩
set_option maxHeartbeats 3200000 in
set_option maxRecDepth 100000 in
theorem rtake_form {W : World} {b : Nat} {e : EndT} (h : EndP 46 W b e) (hi : InvE e) (x : LieT) (now : Int) (k : timeB now) (kx : lieR x = false) : Calls Try.prog 15 #[.pointer (some ⟨b, 0, none⟩), .agg #[.int .i64 x.node, .int .i64 x.level, .int .i64 x.pod, .int .i64 x.mtu, .int .i64 x.link, .int .i64 x.nonce, .int .i64 x.seen, .int .i64 x.seenLink, .int .i64 x.seenNonce, .int .i64 x.hold, .bool x.rep, .bool x.noOffer], .int .i64 now] W (TakeP 46 W b e x now) := by
  have hb := TK.new h x
  have H := Lib.hid h
  have ht := fun W => (rtime_any now W).mono fun e w' h => (⟨h.1.dec, h.2⟩ : e = .returned (.bool (decide (timeB now))) ∧ w' = W)
  obtain ⟨V, hV⟩ : ∃ V, W.alloc (.cells #[.int .i64 x.node, .int .i64 x.level, .int .i64 x.pod, .int .i64 x.mtu, .int .i64 x.link, .int .i64 x.nonce, .int .i64 x.seen, .int .i64 x.seenLink, .int .i64 x.seenNonce, .int .i64 x.hold, .bool x.rep, .bool x.noOffer] 25) = V := ⟨_, rfl⟩
  rw [hV] at hb
  have HV := Lib.hid hV
  have HB := Lib.hid hb
  rw [decide_eq_true k] at ht
  have hr := rright_lie x
  rw [kx] at hr
  have K : RowKit.Hid (takeE e x now = (2, e)) := by unfold Hid takeE; rw [if_neg (by simpa using k), if_pos kx]
  clear k kx hV hb h hi
  go_enter Try.func15, Try.ntmps15
  go_wp2_with (first
    | (go_at_call 36; refine (ht _).mono ?_; rintro en w0 ⟨rfl, rfl⟩)
    | (go_at_call 37; rw [HV.out]; refine (hr _).mono ?_; rintro en w1 ⟨rfl, hb1⟩; have K1 := Lib.hid (HB.out.below hb1); clear hb1))
  go_ret
  unfold TakeP
  rw [K.out]
  exact ⟨rfl, K1.out.1, K1.out.2.2⟩
end Go.Proofs.Yticbfmbinopjcaa
