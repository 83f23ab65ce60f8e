/-
  THE DOCUMENT'S Same over two lists of the same pieces.
-/
import Derived.Test.YtbgilngpkogapaaGRSo
import Derived.Test.YtbgilngpkogapaaGTie
namespace Go.Proofs.Ytbgilngpkogapaa.ti
set_option linter.unusedSimpArgs false
set_option linter.unusedVariables false
open Go.RowKit
theorem tie_self (t : TiV) (s1 s2 : Sl2) (w : World) (h1 : Rd2 w t s1) (h2 : Rd2 w t s2) : Calls Try.prog 15 #[aggV t s1, aggV t s2] w fun e w' => e = .returned (.bool true) ∧ Below w.heap.size w w' := by
  have h := sameTie_eq ⟨⟨t.hd.id.d, t.hd.id.o, t.hd.id.k, t.hd.id.n⟩, t.hd.seq, t.hd.life⟩ t.level t.over t.es t.es t.rs t.rs s1.ea s1.ra s2.ea s2.ra s1.ec s1.rc s2.ec s2.rc (by have := h1.le.1; omega) (by have := h1.lr.1; omega) w h1.e.rdr h1.r.rdr h2.e.rdr h2.r.rdr rfl rfl
  refine h.mono ?_
  rintro e w' ⟨r, rfl, hr, hb⟩
  exact ⟨by rw [hr.2 ⟨rfl, rfl⟩], hb⟩
set_option maxHeartbeats 3200000 in
set_option maxRecDepth 100000 in
theorem same_any (a b : Option Addr) (c d : Nat) (l m : List TS) (hl : l.length ≤ 200) (hv : l.map (fun x => x.t) = m.map (fun x => x.t)) (w : World) (h1 : InL w a l) (h2 : InL w b m) :
    Calls Try.prog 10 #[.slice a l.length c, .slice b m.length d] w fun e w' => e = .returned (.bool true) ∧ Below w.heap.size w w' := by
  have H1 := Lib.hid h1
  have H2 := Lib.hid h2
  have hlm : m.length = l.length := by have := congrArg List.length hv; simpa using this.symm
  rw [hlm]
  obtain ⟨n, hn⟩ : ∃ n, l.length = n := ⟨_, rfl⟩
  have HN := Lib.hid hn
  rw [hn] at hl hlm ⊢
  have HMN := Lib.hid hlm
  have HV := Lib.hid hv
  clear hn h1 h2 hlm hv
  go_enter Try.func10, Try.ntmps10
  go_wp2
  go_loopw [5] (fun iv wr => ∃ i : Nat, i ≤ n ∧ iv = .int .i64 i ∧ Hid (Below w.heap.size w wr)) (fun iv _ => n - (intOf iv).toNat)
  case atStart => exact ⟨0, by omega, rfl, Below.refl _ _⟩
  case round =>
    obtain ⟨i, hi, rfl, HB⟩ := hrel
    by_cases hlt : i < n
    · obtain ⟨x, hx⟩ : ∃ x, l[i]? = some x := ⟨_, List.getElem?_eq_getElem (by have := HN.out; omega)⟩
      obtain ⟨y, hy⟩ : ∃ y, m[i]? = some y := ⟨_, List.getElem?_eq_getElem (by have := HMN.out; omega)⟩
      have hxy : y.t = x.t := by
        have := congrArg (fun q => q[i]?) HV.out
        simp only [List.getElem?_map, hx, hy, Option.map_some] at this
        exact (Option.some.inj this).symm
      obtain ⟨g1, o1, rfl, hg1, hc1⟩ := (H1.out.below HB.out).row i x hx
      obtain ⟨g2, o2, rfl, hg2, hc2⟩ := (H2.out.below HB.out).row i y hy
      have r1 := (H1.out.below HB.out).all x (List.mem_of_getElem? hx)
      have r2 := (H2.out.below HB.out).all y (List.mem_of_getElem? hy)
      obtain ⟨yt, ys⟩ := y
      have hxy : yt = x.t := hxy
      subst hxy
      have HS := Lib.hid (fun W (hW : Below wr.heap.size wr W) => tie_self x.t x.s ys W (r1.below hW) (r2.below hW))
      obtain ⟨p0, p1, p2, p3, p4, p5, p6, p7, p8, p9⟩ := cells10 hc1
      obtain ⟨q0, q1, q2, q3, q4, q5, q6, q7, q8, q9⟩ := cells10 hc2
      have hlt2 : (i : Int) < n := by omega
      clear hc1 hc2 hx hy r1 r2
      go_wp2
      go_region_with ((go_at_call 15; refine (HS.out _ (Below.refl wr.heap.size wr).drew).mono ?_; rintro e w2 ⟨rfl, hb2⟩; have B2 : Hid (Below w.heap.size w w2) := HB.out.trans (((Below.refl wr.heap.size wr).drew.trans hb2).mono HB.out.size); clear hb2))
      all_goals go_wp2
      all_goals exact ⟨⟨i + 1, by omega, by go_num, B2⟩, by simp [intOf]; omega⟩
    · obtain rfl : i = n := by omega
      go_wp2
      go_ret
      exact ⟨rfl, HB.out⟩
end Go.Proofs.Ytbgilngpkogapaa.ti
