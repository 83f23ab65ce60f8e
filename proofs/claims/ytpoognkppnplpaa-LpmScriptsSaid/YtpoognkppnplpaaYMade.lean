/-
  THE LAW's TABLES: a table of any room that did any steps, and the document's.
-/
import Derived.Test.YtpoognkppnplpaaYStep
import Derived.Test.YtpoognkppnplpaaYRDrop
import Derived.Test.YtpoognkppnplpaaYFind
namespace Go.Proofs.Ytpoognkppnplpaa
set_option linter.unusedSimpArgs false
set_option linter.unusedVariables false
open Go.RowKit
def stL (room : Int) (L : List Ent) (s : Stp) : List Ent := if s.d = 0 then putA room L s.p s.n else dropL s.p L
def doneL (room : Int) (l : List Stp) : List Ent := (l.take 150).foldl (stL room) []
theorem TurnsR.mono {base b : Nat} {X Y : World} (h : TurnsR base X Y) (hb : b ≤ base) : Below b X Y := h.bel.mono hb
/-- Where the loop of made stands: both tables did k steps. -/
structure Both (w : World) (room : Int) (L : List Ent) (wr : World) : Prop where
  tab : TabP wr w.heap.size w.heap.size room L
  ref : RefP wr (w.heap.size + 1) (w.heap.size + 1) room L
  bel : Below w.heap.size w wr
theorem TabP.len {W : World} {base tb : Nat} {room : Int} {L : List Ent} (h : TabP W base tb room L) : (L.length : Int) ≤ room ∧ room ≤ 4096 ∧ L.length ≤ 4096 ∧ Good L := by
  obtain ⟨f, g, h⟩ := h
  have h1 := h.le
  have h2 := h.room
  exact ⟨h1, h2, by omega, h.good⟩
theorem Both.below {w : World} {room : Int} {L : List Ent} {W W' : World} (h : Both w room L W) (k : Below W.heap.size W W') : Both w room L W' := ⟨h.tab.below k, h.ref.below k, h.bel.trans (k.mono h.bel.size)⟩
/-- One step of the program's. -/
structure Mid (w : World) (room : Int) (L L' : List Ent) (W : World) : Prop where
  tab : TabP W w.heap.size w.heap.size room L'
  ref : RefP W (w.heap.size + 1) (w.heap.size + 1) room L
  bel : Below w.heap.size w W
theorem Both.put {w : World} {room : Int} {L L' : List Ent} {W W' : World} (h : Both w room L W) (k : PutEnd W w.heap.size w.heap.size room L' W') : Mid w room L L' W' := ⟨k.1, h.ref.keep k.2.keep, h.bel.trans k.2.bel⟩
theorem Mid.put {w : World} {room : Int} {L L' : List Ent} {W W' : World} (h : Mid w room L L' W) (k : RPutEnd W (w.heap.size + 1) (w.heap.size + 1) room L' W') : Both w room L' W' := ⟨h.tab.keep k.2.keep, k.1, h.bel.trans (k.2.bel.mono (by omega))⟩
/-- A step in a box. -/
def StB (W : World) (k : Nat) (s : Stp) : Prop := W.heap[k]? = some (.cells #[.int .i64 s.d, .int .i64 s.n, .int .u32 s.p.1, .int .i64 s.p.2] 55 (0, 0))
theorem StB.cells {W : World} {k : Nat} {s : Stp} (h : StB W k s) : W.cell? ⟨k, 0, none⟩ = some (.int .i64 s.d) ∧ W.cell? ⟨k, 1, none⟩ = some (.int .i64 s.n) ∧ W.cell? ⟨k, 2, none⟩ = some (.int .u32 s.p.1) ∧ W.cell? ⟨k, 3, none⟩ = some (.int .i64 s.p.2) := by
  unfold StB at h
  exact ⟨by simp [World.cell?, h], by simp [World.cell?, h], by simp [World.cell?, h], by simp [World.cell?, h]⟩
theorem StB.keepT {S : TypeId → Prop} (hS : S 55) {W W' : World} {k : Nat} {s : Stp} (h : StB W k s) (t : KeepT S W W') : StB W' k s := t.2 _ _ _ _ hS h
theorem fold_succ {room : Int} {l : List Stp} {k : Nat} {s : Stp} (h : l[k]? = some s) : (l.take (k + 1)).foldl (stL room) [] = stL room ((l.take k).foldl (stL room) []) s := by
  rw [List.take_add_one, h, List.foldl_append]
  rfl
theorem made_no (room : Int) (hr : room < 1 ∨ 4096 < room) (a : Option Addr) (cap : Nat) (l : List Stp) (hl : l.length ≤ 9223372036854775807) (w : World) :
    Calls Try.prog 10 #[.int .i64 room, .slice a l.length cap] w fun e w' => e = .returned (.tuple #[.pointer none, .pointer none, .bool true]) ∧ Below w.heap.size w w' := by
  have h1 := new_no room hr
  have h2 := rnew_no room hr
  obtain ⟨len, hlen⟩ : ∃ len, l.length = len := ⟨_, rfl⟩
  rw [hlen] at hl ⊢
  clear hr hlen
  go_enter Try.func10, Try.ntmps10
  go_wp2_with (first
    | (go_at_call 25; refine (h1 _).mono ?_; rintro e w1 ⟨rfl, rfl⟩)
    | (go_at_call 26; refine (h2 _).mono ?_; rintro e w2 ⟨rfl, rfl⟩))
  go_loop [11] (fun i => i = .int .i64 0) (fun _ => 0)
  case atStart => rfl
  case round =>
    subst hrel
    by_cases h0 : 0 < len
    · go_wp2
      go_ret3
      exact ⟨rfl, Below.refl _ _⟩
    · have hn : len = 0 := by omega
      subst hn
      go_wp2
      go_ret3
      exact ⟨rfl, Below.refl _ _⟩
set_option maxHeartbeats 4000000 in
set_option maxRecDepth 100000 in
theorem made_ok (room : Int) (h1 : 1 ≤ room) (h2 : room ≤ 4096) (a : Option Addr) (cap : Nat) (l : List Stp) (hl : l.length ≤ 9223372036854775807) (w : World) (hr : RdS w.heap.size w a l) :
    Calls Try.prog 10 #[.int .i64 room, .slice a l.length cap] w fun e w' => e = .returned (.tuple #[pt (some w.heap.size), pt (some (w.heap.size + 1)), .bool true]) ∧ Both w room (doneL room l) w' := by
  have hn1 := new_ok room h1 h2
  have hn2 := rnew_ok room h1 h2
  have hat : Both w room ((l.take 0).foldl (stL room) []) ((w.alloc (.cells #[.pointer none, .pointer none, .pointer none, .int .i64 room, .int .i64 0] 69)).alloc (.cells #[.int .i64 room, .slice none 0 0] 36)) := by
    refine ⟨(TabP.new w h1 h2).below ((Below.refl _ _).alloc (Nat.le_refl _) _), ?_, ((Below.refl _ _).alloc (Nat.le_refl _) _).alloc (by simp) _⟩
    have := RefP.new (w.alloc (.cells #[.pointer none, .pointer none, .pointer none, .int .i64 room, .int .i64 0] 69)) h2
    rwa [World.size_alloc] at this
  have HAT := Lib.hid hat
  have HR := Lib.hid hr
  obtain ⟨len, hlen⟩ : ∃ len, l.length = len := ⟨_, rfl⟩
  rw [hlen] at hl ⊢
  have HL := Lib.hid hlen
  unfold pt at hn1 hn2 ⊢
  simp only [Option.map_some] at hn1 hn2 ⊢
  clear hat hr hlen
  go_enter Try.func10, Try.ntmps10
  go_wp2_with (first
    | (go_at_call 25; refine (hn1 _).mono ?_; rintro e w1 ⟨rfl, rfl⟩)
    | (go_at_call 26; refine (hn2 _).mono ?_; rintro e w2 ⟨rfl, rfl⟩))
  generalize (w.alloc (.cells #[.pointer none, .pointer none, .pointer none, .int .i64 room, .int .i64 0] 69)).alloc (.cells #[.int .i64 room, .slice none 0 0] 36) = w0 at *
  go_loopw [11] (fun i wr => ∃ k : Nat, i = .int .i64 k ∧ Hid (k ≤ len ∧ k ≤ 150) ∧ Hid (Both w room ((l.take k).foldl (stL room) []) wr)) (fun i _ => len - (intOf i).toNat)
  case atStart => exact ⟨0, rfl, ⟨Nat.zero_le _, Nat.zero_le _⟩, HAT⟩
  case round =>
    obtain ⟨k, rfl, HK, HA⟩ := hrel
    clear HAT hn1 hn2
    obtain ⟨hk1, hk2⟩ := HK.out
    by_cases hlt : k < len ∧ k < 150
    · obtain ⟨hlt, hlt2⟩ := hlt
      obtain ⟨s, hs⟩ : ∃ s, l[k]? = some s := ⟨_, List.getElem?_eq_getElem (by have := HL.out; omega)⟩
      obtain ⟨hsp, b, off, ha, hb, x0, x1, x2, x3⟩ := HR.out k s hs
      subst ha
      obtain ⟨sd, sn, pn, pb⟩ := s
      simp only at hsp x0 x1 x2 x3
      have y0 := keepC HA.out.bel hb x0
      have y1 := keepC HA.out.bel hb x1
      have y2 := keepC HA.out.bel hb x2
      have y3 := keepC HA.out.bel hb x3
      have hst : StB (wr.alloc (.cells #[.int .i64 sd, .int .i64 sn, .int .u32 pn, .int .i64 pb] 55)) wr.heap.size ⟨sd, sn, (pn, pb)⟩ := heap_alloc_new wr _
      have hbo := HA.out.below ((Below.refl wr.heap.size wr).alloc (Nat.le_refl _) (.cells #[.int .i64 sd, .int .i64 sn, .int .u32 pn, .int .i64 pb] 55))
      have hfs := fold_succ (room := room) hs
      generalize (l.take k).foldl (stL room) [] = L at *
      have hk3 : k + 1 ≤ len ∧ k + 1 ≤ 150 := ⟨hlt, hlt2⟩
      have HK3 := Lib.hid hk3
      have HFS := Lib.hid hfs
      have HST := Lib.hid hst
      have HBO := Lib.hid hbo
      clear hs x0 x1 x2 x3 hk3 hfs hst hbo
      by_cases hd : sd = 0
      · subst hd
        have hp1 := put_any w.heap.size w.heap.size pn hsp pb sn room L _ HBO.out.tab
        have hp2 := fun W (hW : Mid w room L (putA room L (pn, pb) sn) W) => rput_any (w.heap.size + 1) (w.heap.size + 1) pn hsp pb sn room L W hW.ref HBO.out.tab.len.1
        have HP2 := Lib.hid hp2
        have HFS2 : Hid ((l.take (k + 1)).foldl (stL room) [] = putA room L (pn, pb) sn) := HFS.out.trans (by unfold stL; rw [if_pos rfl])
        unfold pt at hp1 HP2
        simp only [Option.map_some] at hp1 HP2
        generalize putE room L (pn, pb) = E at *
        generalize putA room L (pn, pb) sn = L2 at *
        clear hp2 HFS
        go_wp2_with (first
          | (go_at_call 22; ((with_reducible refine hp1.mono ?_); rintro e w2 ⟨rfl, hq⟩); have hm := HBO.out.put hq; have hs2 := HST.out.keepT (by unfold SP; decide) hq.2.keep; obtain ⟨z0, z1, z2, z3⟩ := hs2.cells; have HM := Lib.hid hm; have HS2 := Lib.hid hs2; clear hq hm hs2)
          | (go_at_call 27; ((with_reducible refine (HP2.out _ HM.out).mono ?_); rintro e w3 ⟨rfl, hq⟩); have hm := HM.out.put hq; have HB3 := Lib.hid hm; clear hq hm))
        go_roundw
        case rel => exact ⟨k + 1, by go_num, HK3.out, by unfold Hid; rw [HFS2.out]; exact HB3.out⟩
        case measure => simp [intOf]; omega
      · have hd' : (sd == 0) = false := by simpa using hd
        have hp1 := drop_any w.heap.size w.heap.size pn hsp pb room L _ HBO.out.tab
        have hp2 := fun W (hW : Mid w room L (dropL (pn, pb) L) W) => rdrop_any (w.heap.size + 1) (w.heap.size + 1) pn pb room L W hW.ref
        have HP2 := Lib.hid hp2
        have HFS2 : Hid ((l.take (k + 1)).foldl (stL room) [] = dropL (pn, pb) L) := HFS.out.trans (by unfold stL; rw [if_neg hd])
        unfold pt at hp1 HP2
        simp only [Option.map_some] at hp1 HP2
        generalize dropE L (pn, pb) = E at *
        generalize dropL (pn, pb) L = L2 at *
        have HD := Lib.hid hd
        clear hp2 HFS hd
        go_wp2_with (first
          | (go_at_call 20; ((with_reducible refine hp1.mono ?_); rintro e w2 ⟨rfl, hq⟩); have hm := HBO.out.put hq; have hs2 := HST.out.keepT (by unfold SP; decide) hq.2.keep; obtain ⟨z0, z1, z2, z3⟩ := hs2.cells; have HM := Lib.hid hm; have HS2 := Lib.hid hs2; clear hq hm hs2)
          | (go_at_call 21; ((with_reducible refine (HP2.out _ HM.out).mono ?_); rintro e w3 ⟨rfl, hq⟩); have hm := HM.out.put hq; have HB3 := Lib.hid hm; clear hq hm))
        go_roundw
        case rel => exact ⟨k + 1, by go_num, HK3.out, by unfold Hid; rw [HFS2.out]; exact HB3.out⟩
        case measure => simp [intOf]; omega
    · have hdn : (l.take k).foldl (stL room) [] = doneL room l := by
        unfold doneL
        congr 1
        rcases Nat.lt_or_ge k 150 with h150 | h150
        · have : k = len := by omega
          rw [List.take_of_length_le (by rw [HL.out]; omega), List.take_of_length_le (by rw [HL.out]; omega)]
        · rw [show k = 150 by omega]
      have HF := Lib.hid (hdn ▸ HA.out)
      clear hdn
      by_cases hlt1 : k < len
      · obtain rfl : k = 150 := by omega
        go_wp2
        go_ret3
        exact ⟨rfl, HF.out⟩
      · obtain rfl : k = len := by omega
        go_wp2
        go_ret3
        exact ⟨rfl, HF.out⟩
end Go.Proofs.Ytpoognkppnplpaa
