/-
  WireOnce: for every two packets, whatever their numbers and lists, the law's function answers true, and both read afterwards as they read before. No condition.
-/
import Derived.Test.YtcfgjhlecfhecaaWOnce
namespace Go.Proofs.Ytcfgjhlecfhecaa.wireOnce
open Go.ChangeShapes Go.WideShapes Go.ChangeAt Go.RowKit
set_option linter.unusedVariables false

theorem own : ownKnob Try.prog.godebug = none := by kernel_rfl
theorem laidOut : laidOutB Try.prog = true := by kernel_rfl

theorem walk (p q : PackT) (ae ar ah be br bh : Option Addr) (ce cr ch de dr dh : Nat) (w : World) (hp : Pk w.heap.size w p ae ar ah ce cr ch) (hq : Pk w.heap.size w q be br bh de dr dh) :
    Calls Try.prog 4 #[.agg #[.int .i64 p.kind, .int .i64 p.lie.node, .int .i64 p.lie.level, .int .i64 p.lie.pod, .int .i64 p.lie.mtu, .int .i64 p.lie.link, .int .i64 p.lie.nonce, .int .i64 p.lie.seen, .int .i64 p.lie.seenLink, .int .i64 p.lie.seenNonce, .int .i64 p.lie.hold, .bool p.lie.rep, .bool p.lie.noOffer, .int .i64 p.tie.head.id.dir, .int .i64 p.tie.head.id.orig, .int .i64 p.tie.head.id.kind, .int .i64 p.tie.head.id.nr, .int .i64 p.tie.head.seq, .int .i64 p.tie.head.life, .int .i64 p.tie.level, .bool p.tie.over, .slice ae p.tie.edges.length ce, .slice ar p.tie.reaches.length cr, .int .i64 p.frm.dir, .int .i64 p.frm.orig, .int .i64 p.frm.kind, .int .i64 p.frm.nr, .int .i64 p.to.dir, .int .i64 p.to.orig, .int .i64 p.to.kind, .int .i64 p.to.nr, .slice ah p.heads.length ch], .agg #[.int .i64 q.kind, .int .i64 q.lie.node, .int .i64 q.lie.level, .int .i64 q.lie.pod, .int .i64 q.lie.mtu, .int .i64 q.lie.link, .int .i64 q.lie.nonce, .int .i64 q.lie.seen, .int .i64 q.lie.seenLink, .int .i64 q.lie.seenNonce, .int .i64 q.lie.hold, .bool q.lie.rep, .bool q.lie.noOffer, .int .i64 q.tie.head.id.dir, .int .i64 q.tie.head.id.orig, .int .i64 q.tie.head.id.kind, .int .i64 q.tie.head.id.nr, .int .i64 q.tie.head.seq, .int .i64 q.tie.head.life, .int .i64 q.tie.level, .bool q.tie.over, .slice be q.tie.edges.length de, .slice br q.tie.reaches.length dr, .int .i64 q.frm.dir, .int .i64 q.frm.orig, .int .i64 q.frm.kind, .int .i64 q.frm.nr, .int .i64 q.to.dir, .int .i64 q.to.orig, .int .i64 q.to.kind, .int .i64 q.to.nr, .slice bh q.heads.length dh]] w fun e w' => e = .returned (.bool true) ∧ Below w.heap.size w w' := by
  by_cases f1 : few3 p = true
  rotate_left
  · exact once_few p q ae ar ah be br bh ce cr ch de dr dh w hp hq (.inl (by simpa using f1))
  by_cases f2 : few3 q = true
  rotate_left
  · exact once_few p q ae ar ah be br bh ce cr ch de dr dh w hp hq (.inr (by simpa using f2))
  by_cases o1 : okP p = true
  rotate_left
  · exact once_pbad p q ae ar ah be br bh ce cr ch de dr dh w hp hq f1 f2 (by simpa using o1)
  simp only [okP, Bool.and_eq_true, decide_eq_true_eq] at o1
  by_cases o2 : okP q = true
  rotate_left
  · exact once_qbad p q ae ar ah be br bh ce cr ch de dr dh w hp hq f1 f2 o1.1 o1.2 (by simpa using o2)
  simp only [okP, Bool.and_eq_true, decide_eq_true_eq] at o2
  refine once_both p q ae ar ah be br bh ce cr ch de dr dh w hp hq f1 f2 o1.1 o1.2 o2.1 o2.2 _ _ (pack_u8 o1.1) (pack_u8 o2.1) rfl rfl ⟨fun h => enc_once o1.1 o2.1 (fun r hr => hp.ok r hr) (fun r hr => hq.ok r hr) h, fun h => by rw [h]⟩

set_option maxRecDepth 100000 in
theorem lifted (os : Os) (started : os.Started) (H : Type) (enc : TypeId × Value → H) :
    ReturnsInHanded {} Try.checked os 4 .any (Rows.wireOnceSpec.pre6 enc Try.prog Try.f4 Rows.wireOnceRow.domain false) (Rows.wireOnceSpec.post enc Try.prog Try.f4 false true false false) := by
  refine returnsInHanded_of_change_sized (C := Try.checked) own started (by kernel_rfl) Try.func4
    (ChangeSpec.witness6 (enc := enc) (C := Try.checked) false ⟨#[], #[.agg #[.int .i64 0, .int .i64 0, .int .i64 0, .int .i64 0, .int .i64 0, .int .i64 0, .int .i64 0, .int .i64 0, .int .i64 0, .int .i64 0, .int .i64 0, .bool false, .bool false, .int .i64 0, .int .i64 0, .int .i64 0, .int .i64 0, .int .i64 0, .int .i64 0, .int .i64 0, .bool false, .slice none 0 0, .slice none 0 0, .int .i64 0, .int .i64 0, .int .i64 0, .int .i64 0, .int .i64 0, .int .i64 0, .int .i64 0, .int .i64 0, .slice none 0 0], .agg #[.int .i64 0, .int .i64 0, .int .i64 0, .int .i64 0, .int .i64 0, .int .i64 0, .int .i64 0, .int .i64 0, .int .i64 0, .int .i64 0, .int .i64 0, .bool false, .bool false, .int .i64 0, .int .i64 0, .int .i64 0, .int .i64 0, .int .i64 0, .int .i64 0, .int .i64 0, .bool false, .slice none 0 0, .slice none 0 0, .int .i64 0, .int .i64 0, .int .i64 0, .int .i64 0, .int .i64 0, .int .i64 0, .int .i64 0, .int .i64 0, .slice none 0 0]], []⟩ 8 (by kernel_rfl) (by kernel_rfl) (by kernel_rfl) (by kernel_rfl)) ?_
  intro W base args ds gs before hval0 hW hcnd hsz0 _
  have hval : ∀ (j : Nat) t v, Try.f4.params[j]? = some t → args[j]? = some v → Value.okWide Try.prog W .any base t v := hval0
  have hW' := hW
  obtain ⟨p, q, hA0, hV, rfl, hfz, hnd⟩ := hW
  have hA : DataW.TrodAll enc Try.prog W 0 (fun _ => true) true Try.f4.params.toList args.toList ds p := hA0
  have hsz : (DataW.weightsEach Try.prog (Try.f4.params.toList ++ Rows.wireOnceSpec.plain.varTypes Try.prog) (ds ++ gs)).all (· ≤ reachBytes) = true := hsz0
  rw [Try.params4] at hA hval hsz
  obtain ⟨v0, vs0, d0, ds0, p0, q0, hargs, rfl, rfl, h0, r0⟩ := trodAll_cons hA
  obtain ⟨v1, vs1, d1, ds1, p1, q1, rfl, rfl, rfl, h1, r1⟩ := trodAll_cons r0
  obtain ⟨rfl, rfl, rfl⟩ := trodAll_nil r1
  obtain rfl : args = #[v0, v1] := by cases args; simp_all
  obtain ⟨rfl, rfl⟩ := trodVars_none hV
  obtain ⟨cs0, rfl, _⟩ := okWide_struct Try.underlying34 (hval 0 34 v0 rfl rfl)
  have k0 := h0
  have lt0 : ∀ x ∈ p0, x.block < W.heap.size := by obtain ⟨m, hm⟩ := k0; exact DataW.trod_lt m _ _ _ hm
  obtain ⟨P0, ae0, ar0, ah0, ce0, cr0, ch0, rfl, w0⟩ := pk_of h0 (fun n hn => by simpa using List.all_eq_true.1 hsz n (DataW.weights_mem_each (j := 0) rfl rfl n hn))
  obtain ⟨cs1, rfl, _⟩ := okWide_struct Try.underlying34 (hval 1 34 v1 rfl rfl)
  have k1 := h1
  have lt1 : ∀ x ∈ p1, x.block < W.heap.size := by obtain ⟨m, hm⟩ := k1; exact DataW.trod_lt m _ _ _ hm
  obtain ⟨P1, ae1, ar1, ah1, ce1, cr1, ch1, rfl, w1⟩ := pk_of h1 (fun n hn => by simpa using List.all_eq_true.1 hsz n (DataW.weights_mem_each (j := 1) rfl rfl n hn))
  clear hA0 hval0
  refine (walk P0 P1 ae0 ar0 ah0 ae1 ar1 ah1 ce0 cr0 ch0 ce1 cr1 ch1 W w0 w1).mono fun e W' ⟨he, bel⟩ => ?_
  subst he
  exact ⟨_, rfl, _, _, _, [], _, [], hW', trodAll_mk1 (shut_bool Try.underlying4 _), (trodAll_cons_mk (Below.trod laidOut (by kernel_rfl) (of_decide_eq_true (by kernel_rfl)) k0 bel lt0) (trodAll_cons_mk (Below.trod laidOut (by kernel_rfl) (of_decide_eq_true (by kernel_rfl)) k1 bel lt1) trodAll_mk0)), rfl, bel.frame _, fun h => by cases h⟩

theorem over : Rows.wireOnceRow.holds Try.pinned (OpenSpec.ofChange Rows.wireOnceSpec) :=
  OpenClaim.holds_of_wide 4 Try.f4 rfl rfl rfl rfl rfl rfl rfl ⟨rfl, rfl, rfl, rfl, rfl⟩ rfl rfl rfl rfl rfl (by kernel_rfl) Try.func4 (by kernel_rfl)
    (of_decide_eq_true (by kernel_rfl)) (by unfold Func.isWrapper; first | (rw [if_pos (by decide +kernel)]; kernel_rfl) | (rw [if_neg (by decide +kernel)]; exact ⟨rfl, rfl⟩))
    (fun os started H enc _ => lifted os started H enc)

theorem proved : Rows.WireOnceSaid := over
#print axioms proved
end Go.Proofs.Ytcfgjhlecfhecaa.wireOnce
