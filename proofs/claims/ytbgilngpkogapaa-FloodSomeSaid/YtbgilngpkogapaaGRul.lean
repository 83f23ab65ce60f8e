/-
  THE RULES towards a neighbour; whether a piece goes.
-/
import Derived.Test.YtbgilngpkogapaaGDel
import Derived.Deep.RegionWith
namespace Go.Proofs.Ytbgilngpkogapaa.ti
set_option linter.unusedSimpArgs false
set_option linter.unusedVariables false
open Go.RowKit
theorem run_store_funcv {P : Program} {w : World} {a : Addr} {m : Mode} (f : Fn) (x y : Array Value) : (store a (.func f x y) m).run P w = stored P w a (.func f x y) m := run_store P w a _ m rfl
attribute [local go_sem] run_store_funcv
def cmpG (a b : Int) : Int := if a < b then -1 else if b < a then 1 else 0
theorem cmpG_ok (a b : Int) : sideOk (cmpG a b) := by
  unfold cmpG sideOk
  split
  · exact .inl rfl
  · split
    · exact .inr (.inr rfl)
    · exact .inr (.inl rfl)
set_option maxHeartbeats 1600000 in
set_option maxRecDepth 100000 in
theorem isNaN_any (a : Int) (w : World) : Calls Try.prog 31 #[.int .i64 a] w fun e w' => e = .returned (.bool false) ∧ Below w.heap.size w w' := by
  go_enter Try.func31, Try.ntmps31
  go_wp2
  go_ret
  exact ⟨by simp, Below.refl _ _⟩
set_option maxHeartbeats 1600000 in
set_option maxRecDepth 100000 in
theorem compare_any (a b : Int) (w : World) : Calls Try.prog 25 #[.int .i64 a, .int .i64 b] w fun e w' => e = .returned (.int .i64 (cmpG a b)) ∧ Below w.heap.size w w' := by
  go_enter Try.func25, Try.ntmps25
  have T1 : True := trivial
  have T2 : True := trivial
  have B0 : Hid (Below w.heap.size w w) := Below.refl _ _
  unfold cmpG
  go_wp2_with (first
    | (go_at_call 31; have tt := T1; clear T1 tt; refine (isNaN_any a _).mono ?_; rintro e w1 ⟨rfl, hb⟩; have B1 := Lib.hid (B0.out.trans (hb.mono B0.out.size)); clear hb)
    | (go_at_call 31; have tt := T2; clear T2 tt; refine (isNaN_any b _).mono ?_; rintro e w2 ⟨rfl, hb⟩; have B2 := Lib.hid (B1.out.trans (hb.mono B1.out.size)); clear hb))
  all_goals go_ret
  all_goals exact ⟨by simp [*], B2.out⟩
/-- What lies behind 'rules': the closures' surroundings, and the rules that hold. -/
structure RulesG (W : World) (sb o1 o2 rb n : Nat) (s : ScD) : Prop where
  env : EnvG W sb o1 o2 s
  row : RdE 3 (encG sb o1 o2) W (some ⟨rb, 0, none⟩) (keptG (cmpG s.olev s.level) 5)
  len : n = (keptG (cmpG s.olev s.level) 5).length
theorem RulesG.below {W W' : World} {sb o1 o2 rb n : Nat} {s : ScD} (h : RulesG W sb o1 o2 rb n s) (k : Below W.heap.size W W') : RulesG W' sb o1 o2 rb n s := ⟨h.env.below k, h.row.below k, h.len⟩
/-- The rules as they are made. -/
structure MadeG (W : World) (w : World) (s : ScD) : Prop where
  env : EnvG W w.heap.size (w.heap.size + 1) (w.heap.size + 1 + 1) s
  row : Arr W (w.heap.size + 1 + 1 + 1) 51 (rowE (encG w.heap.size (w.heap.size + 1) (w.heap.size + 1 + 1)) allG)
  bel : Below w.heap.size w W
theorem MadeG.below {W W' w : World} {s : ScD} (h : MadeG W w s) (k : Below W.heap.size W W') : MadeG W' w s := ⟨h.env.below k, h.row.below k h.row.lt, h.bel.trans (k.mono h.bel.size)⟩
theorem made_new (w : World) (s : ScD) : MadeG ((((w.alloc (.cells #[.int .i64 s.self, .int .i64 s.level, .bool s.top, .int .i64 s.node, .int .i64 s.link, .int .i64 s.olev, .int .i64 s.nonce] 26)).alloc (.cells #[.func (.func 19) #[] #[.pointer (some ⟨w.heap.size, 0, none⟩)]] 49)).alloc (.cells #[.func (.func 20) #[] #[]] 49)).alloc (.cells #[.int .i64 2, .int .i64 1, .func (.func 21) #[] #[], .int .i64 2, .int .i64 0, .func (.func 22) #[] #[.pointer (some ⟨w.heap.size, 0, none⟩)], .int .i64 1, .int .i64 (-1), .func (.func 19) #[] #[.pointer (some ⟨w.heap.size, 0, none⟩)], .int .i64 1, .int .i64 0, .func (.func 23) #[] #[.pointer (some ⟨w.heap.size + 1 + 1, 0, none⟩), .pointer (some ⟨w.heap.size + 1, 0, none⟩)], .int .i64 1, .int .i64 1, .func (.func 24) #[] #[.pointer (some ⟨w.heap.size + 1 + 1, 0, none⟩), .pointer (some ⟨w.heap.size, 0, none⟩)]] 51)) w s := by
  have e1 : (w.alloc (.cells #[.int .i64 s.self, .int .i64 s.level, .bool s.top, .int .i64 s.node, .int .i64 s.link, .int .i64 s.olev, .int .i64 s.nonce] 26)).heap.size = w.heap.size + 1 := by simp
  have e2 : ((w.alloc (.cells #[.int .i64 s.self, .int .i64 s.level, .bool s.top, .int .i64 s.node, .int .i64 s.link, .int .i64 s.olev, .int .i64 s.nonce] 26)).alloc (.cells #[.func (.func 19) #[] #[.pointer (some ⟨w.heap.size, 0, none⟩)]] 49)).heap.size = w.heap.size + 1 + 1 := by simp
  have e3 : (((w.alloc (.cells #[.int .i64 s.self, .int .i64 s.level, .bool s.top, .int .i64 s.node, .int .i64 s.link, .int .i64 s.olev, .int .i64 s.nonce] 26)).alloc (.cells #[.func (.func 19) #[] #[.pointer (some ⟨w.heap.size, 0, none⟩)]] 49)).alloc (.cells #[.func (.func 20) #[] #[]] 49)).heap.size = w.heap.size + 1 + 1 + 1 := by simp
  refine ⟨⟨?_, ?_, ?_⟩, ?_, (((below_box _ _).trans ((below_box _ _).mono (by rw [e1]; omega))).trans ((below_box _ _).mono (by rw [e2]; omega))).trans ((below_box _ _).mono (by rw [e3]; omega))⟩
  · exact (((Arr.new w 26 (cellsSc s)).alloc _).alloc _).alloc _
  · have := Arr.new (w.alloc (.cells #[.int .i64 s.self, .int .i64 s.level, .bool s.top, .int .i64 s.node, .int .i64 s.link, .int .i64 s.olev, .int .i64 s.nonce] 26)) 49 [.func (.func 19) #[] #[.pointer (some ⟨w.heap.size, 0, none⟩)]]
    rw [e1] at this
    exact (this.alloc _).alloc _
  · have := Arr.new ((w.alloc (.cells #[.int .i64 s.self, .int .i64 s.level, .bool s.top, .int .i64 s.node, .int .i64 s.link, .int .i64 s.olev, .int .i64 s.nonce] 26)).alloc (.cells #[.func (.func 19) #[] #[.pointer (some ⟨w.heap.size, 0, none⟩)]] 49)) 49 [.func (.func 20) #[] #[]]
    rw [e2] at this
    exact this.alloc _
  · have := Arr.new (((w.alloc (.cells #[.int .i64 s.self, .int .i64 s.level, .bool s.top, .int .i64 s.node, .int .i64 s.link, .int .i64 s.olev, .int .i64 s.nonce] 26)).alloc (.cells #[.func (.func 19) #[] #[.pointer (some ⟨w.heap.size, 0, none⟩)]] 49)).alloc (.cells #[.func (.func 20) #[] #[]] 49)) 51 (rowE (encG w.heap.size (w.heap.size + 1) (w.heap.size + 1 + 1)) allG)
    rw [e3] at this
    exact this
theorem RulesG.of {W W' w : World} {s : ScD} (h : MadeG W w s) (k : But (w.heap.size + 1 + 1 + 1) W W') (hr : RdE 3 (encG w.heap.size (w.heap.size + 1) (w.heap.size + 1 + 1)) W' (some ⟨w.heap.size + 1 + 1 + 1, 0, none⟩) (keptG (cmpG s.olev s.level) 5)) :
    RulesG W' w.heap.size (w.heap.size + 1) (w.heap.size + 1 + 1) (w.heap.size + 1 + 1 + 1) (keptG (cmpG s.olev s.level) 5).length s ∧ Below w.heap.size w W' :=
  ⟨⟨⟨k.arr h.env.s0 (by omega), k.arr h.env.f1 (by omega), k.arr h.env.f2 (by omega)⟩, hr, rfl⟩, h.bel.trans (k.below (by omega) h.bel.size)⟩
set_option maxHeartbeats 3200000 in
set_option maxRecDepth 100000 in
theorem rules_any (s : ScD) (w : World) : Calls Try.prog 14 #[aggSc s] w fun e w' => ∃ sb o1 o2 rb n, e = .returned (.slice (some ⟨rb, 0, none⟩) n 5) ∧ RulesG w' sb o1 o2 rb n s ∧ Below w.heap.size w w' := by
  have HM := Lib.hid (made_new w s)
  unfold aggSc
  go_enter Try.func14, Try.ntmps14
  go_wp2_with (first
    | (go_at_call 25; refine (compare_any s.olev s.level _).mono ?_; rintro e w1 ⟨rfl, hb⟩; have M1 := Lib.hid (HM.out.below hb); clear hb; obtain ⟨x, hx⟩ : ∃ x, cmpG s.olev s.level = x := ⟨_, rfl⟩; have HX := Lib.hid hx; rw [hx]; clear hx)
    | (go_at_call 26; refine (del_any x (by rw [← HX.out]; exact cmpG_ok _ _) w.heap.size (w.heap.size + 1) (w.heap.size + 1 + 1) (w.heap.size + 1 + 1 + 1) w1.heap.size _ (M1.out.row.alloc _) (by simp) (by simp) (by have := M1.out.row.lt; omega)).mono ?_; rintro e w2 ⟨rfl, hr, hbut⟩; have R2 : Hid (RulesG w2 _ _ _ _ _ s ∧ Below w.heap.size w w2) := RulesG.of (M1.out.below (below_box _ _)) hbut (by rw [HX.out]; exact hr); clear hr hbut))
  go_ret
  exact ⟨_, _, _, _, _, by rw [← HX.out]; rfl, R2.out⟩
end Go.Proofs.Ytbgilngpkogapaa.ti
