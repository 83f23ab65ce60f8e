/-
  LpmFinds: the law's walk.
-/
import Derived.Test.YtpoognkppnplpaaYAwk
namespace Go.Proofs.Ytpoognkppnplpaa
set_option linter.unusedSimpArgs false
set_option linter.unusedVariables false
open Go.RowKit
theorem finds_no (room : Int) (hroom : room < 1 ∨ 4096 < room) (a : Option Addr) (cap : Nat) (l : List Stp) (hl : l.length ≤ 9223372036854775807) (k : Nat) (w : World) :
    Calls Try.prog 4 #[.int .i64 room, .slice a l.length cap, .int .u32 k] w fun e w' => e = .returned (.bool true) ∧ Below w.heap.size w w' := by
  have haw := awake_any w
  have hmd := made_no room hroom a cap l hl
  generalize l.length = len at *
  clear hl hroom
  go_enter Try.func4, Try.ntmps4
  go_wp2_with (first
    | (go_at_call 9; refine haw.mono ?_; rintro e w1 ⟨rfl, hb1⟩; have HB1 := Lib.hid hb1; clear hb1)
    | (go_at_call 10; refine (hmd _).mono ?_; rintro e w2 ⟨rfl, hb2⟩; have HB2 := Lib.hid (HB1.out.trans (hb2.mono HB1.out.size)); clear hb2))
  go_ret
  exact ⟨rfl, HB2.out⟩
set_option maxHeartbeats 1600000 in
set_option maxRecDepth 100000 in
theorem finds_ok (room : Int) (h1 : 1 ≤ room) (h2 : room ≤ 4096) (a : Option Addr) (cap : Nat) (l : List Stp) (hl : l.length ≤ 9223372036854775807) (k : Nat) (hk : k < 4294967296) (w : World) (hr : RdS w.heap.size w a l) :
    Calls Try.prog 4 #[.int .i64 room, .slice a l.length cap, .int .u32 k] w fun e w' => e = .returned (.bool true) ∧ Below w.heap.size w w' := by
  have haw := awake_any w
  have hmd := fun W (hW : Below w.heap.size w W) => made_okP room h1 h2 a cap l hl W ((hr.below hW (Nat.le_refl _)).mono hW.size)
  obtain ⟨x, is, hres⟩ : ∃ x is, (lastE (onL k (doneL room l)), hasE (onL k (doneL room l))) = (x, is) := ⟨_, _, rfl⟩
  obtain ⟨len, hlen⟩ : ∃ len, l.length = len := ⟨_, rfl⟩
  rw [hlen] at hmd ⊢
  have HMD := Lib.hid hmd
  have HRES := Lib.hid hres
  generalize doneL room l = L at *
  obtain ⟨⟨xn, xb⟩, xv⟩ := x
  clear hmd hres hlen hr hl h1 h2
  go_enter Try.func4, Try.ntmps4
  go_wp2_with (first
    | (go_at_call 9; refine haw.mono ?_; rintro e w1 ⟨rfl, hb1⟩; have HB1 := Lib.hid hb1; clear hb1)
    | (go_at_call 10; ((with_reducible refine (HMD.out _ HB1.out).mono ?_); rintro e w2 ⟨rfl, hb2⟩); have BO := Lib.hid hb2; clear hb2)
    | (go_at_call 17; ((with_reducible refine (findP BO.out k hk _ _ HRES.out).mono ?_); rintro e w3 ⟨rfl, hb3⟩); have bo3 := (BO.out.below hb3).below ((Below.refl _ _).alloc (Nat.le_refl _) (.cells #[.int .u32 xn, .int .i64 xb] 25)); have bx3 := Bx.new w3 (.int .u32 xn) (.int .i64 xb); have BO3 := Lib.hid bo3; have BX3 := Lib.hid bx3; clear hb3 bo3 bx3)
    | (go_at_call 18; ((with_reducible refine (rfindP BO3.out k hk _ _ HRES.out).mono ?_); rintro e w4 ⟨rfl, hb4⟩); have bo4 := (BO3.out.below hb4).below ((Below.refl _ _).alloc (Nat.le_refl _) (.cells #[.int .u32 xn, .int .i64 xb] 25)); have bx4 := (BX3.out.keep hb4 BX3.out.lt).alloc (.cells #[.int .u32 xn, .int .i64 xb] 25); have bx5 := Bx.new w4 (.int .u32 xn) (.int .i64 xb); have BO4 := Lib.hid bo4; obtain ⟨c0, c1, _, _⟩ := bx4.cells; obtain ⟨d0, d1, _, _⟩ := bx5.cells; clear hb4 bo4 bx4 bx5))
  go_ret
  exact ⟨rfl, HB1.out.trans (BO4.out.bel.mono HB1.out.size)⟩
theorem finds_walk (room : Int) (a : Option Addr) (cap : Nat) (l : List Stp) (hl : l.length ≤ 9223372036854775807) (k : Nat) (hk : k < 4294967296) (w : World) (hr : RdS w.heap.size w a l) :
    Calls Try.prog 4 #[.int .i64 room, .slice a l.length cap, .int .u32 k] w fun e w' => e = .returned (.bool true) ∧ Below w.heap.size w w' := by
  by_cases h1 : 1 ≤ room
  · by_cases h2 : room ≤ 4096
    · exact finds_ok room h1 h2 a cap l hl k hk w hr
    · exact finds_no room (.inr (by omega)) a cap l hl k w
  · exact finds_no room (.inl (by omega)) a cap l hl k w
end Go.Proofs.Ytpoognkppnplpaa
