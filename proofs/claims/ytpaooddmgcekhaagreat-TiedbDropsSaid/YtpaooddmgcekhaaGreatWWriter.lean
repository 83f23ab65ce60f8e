/-
  THE WRITER: its four functions append items to a row of its own.
-/
import Derived.Test.YtpaooddmgcekhaaGreatWTrav
import Derived.Deep.RegionLaw
import Derived.Deep.AppendLies
namespace Go.Proofs.YtpaooddmgcekhaaGreat
open Go.RowKit Go.Shelf
set_option linter.unusedVariables false

/-- An item without bytes. -/
def encIt (x : It) : List Value := [.int .i64 x.kind, .int .i64 x.id, .int .i64 x.n, .slice none 0 0]
/-- A writer's block holds a row of its own. -/
def WInv (base bw : Nat) (s : List It) (W : World) : Prop := base ≤ bw ∧ ∃ v, W.heap[bw]? = some (.cells #[v] 123 (0, 0)) ∧ W.ownsRow (bw + 1) 146 4 v s.length (s.flatMap encIt)
theorem own_mach {base n₀ : Nat} {W W' : World} {e : TypeId} {size n : Nat} {v : Value} {xs : List Value} (h : W.ownsRow n₀ e size v n xs) (he : machT e = true) (k : Calm base W W') : W'.ownsRow n₀ e size v n xs := by
  obtain ⟨h1, h2⟩ := h
  refine ⟨h1, ?_⟩
  rcases h2 with h2 | ⟨g, cap, cur, hv, hg, hh, r⟩
  · exact .inl h2
  · exact .inr ⟨g, cap, cur, hv, hg, k.keep g cur e _ hh he, r⟩
theorem WInv.calm {base bw : Nat} {s : List It} {W W' : World} (h : WInv base bw s W) (k : Calm base W W') : WInv base bw s W' := by
  obtain ⟨hb, v, h1, h2⟩ := h
  exact ⟨hb, v, k.keep bw _ _ _ h1 rfl, own_mach h2 rfl k⟩
theorem one_encIt (x : It) : ∀ u ∈ encIt x, u.oneCell' = true := by
  intro u hu
  simp [encIt] at hu
  rcases hu with rfl | rfl | rfl | rfl <;> rfl
theorem own_blk {n₀ : Nat} {W : World} {e : TypeId} {size n : Nat} {v : Value} {xs : List Value} (h : W.ownsRow n₀ e size v n xs) : ∀ r, v.ownBlock = some r → n₀ ≤ r ∧ ∀ cs t z, W.heap[r]? = some (.cells cs t z) → t = e := by
  intro r hr
  refine ⟨(h.lt r hr).1, fun cs t z hh => ?_⟩
  rcases h.2 with ⟨rfl, _⟩ | ⟨g1, _, cur, rfl, _, h1, _⟩
  · simp [Value.ownBlock] at hr
  · have e1 : g1 = r := by simpa [Value.ownBlock] using hr
    subst e1
    rw [h1] at hh
    injection hh with hh
    injection hh with _ h2
    exact h2.symm
/-- An item is appended, and the row's box is turned. -/
theorem writer_next {base bw : Nat} {s : List It} {W w1 : World} {v v' : Value} {x : It} (hb : base ≤ bw) (hbox : W.heap[bw]? = some (.cells #[v] 123 (0, 0))) (ho : W.ownsRow (bw + 1) 146 4 v s.length (s.flatMap encIt))
    (ho1 : w1.ownsRow (bw + 1) 146 4 v' (s.length + 1) (s.flatMap encIt ++ encIt x)) (hg : W.grownBy w1 v.ownBlock) :
    WInv base bw (s ++ [x]) (w1.setCell ⟨bw, 0, none⟩ v') ∧ Keep base W (w1.setCell ⟨bw, 0, none⟩ v') ∧ TrK W (w1.setCell ⟨bw, 0, none⟩ v') ∧ w1.heap[bw]? = some (.cells #[v] 123 (0, 0)) := by
  have hne : some bw ≠ v.ownBlock := fun e => by have := (own_blk ho bw e.symm).1; omega
  have h1 : w1.heap[bw]? = some (.cells #[v] 123 (0, 0)) := (hg.block bw (lt_of_block hbox) hne).trans hbox
  have hbs : base ≤ W.heap.size := by have := lt_of_block hbox; omega
  refine ⟨⟨hb, v', by simp [World.setCell, Array.getElem?_modify, h1], ?_⟩, ?_, ?_, h1⟩
  · have : w1.ownsRow (bw + 1) 146 4 v' (s ++ [x]).length ((s ++ [x]).flatMap encIt) := by
      rw [List.length_append, List.flatMap_append, List.flatMap_singleton]
      exact ho1
    obtain ⟨k1, k2⟩ := this
    refine ⟨k1, ?_⟩
    rcases k2 with k2 | ⟨g, cap, cur, hv, hg', hh, r⟩
    · exact .inl k2
    · exact .inr ⟨g, cap, cur, hv, hg', by rw [Below.heap_setCell _ _ _ _ (by show g ≠ bw; omega)]; exact hh, r⟩
  · refine Keep.turn ((Keep.refl base W).grown hg hbs (fun r hr => ?_)) hb h1 rfl 0 v'
    obtain ⟨q1, q2⟩ := own_blk ho r hr
    exact ⟨by omega, fun cs t z hh => by rw [q2 cs t z hh]; rfl⟩
  · intro k cs z hk
    have hk2 : w1.heap[k]? = some (.cells cs 127 z) := by
      rw [hg.block k (lt_of_block hk) (fun e => ?_)]
      · exact hk
      · have := (own_blk ho k e.symm).2 cs _ z hk
        exact absurd this (by decide)
    rw [Below.heap_setCell _ _ _ _ (fun e => ?_)]
    · exact hk2
    · simp only at e
      subst e
      rw [h1] at hk2
      injection hk2 with hk2
      injection hk2 with _ h2
      exact absurd h2 (by decide)

theorem rowForm {n₀ : Nat} {W : World} {e : TypeId} {size n : Nat} {v : Value} {xs : List Value} (h : W.ownsRow n₀ e size v n xs) : ∃ A m c, v = .slice A m c ∧ m = n := by
  rcases h.2 with ⟨rfl, h0⟩ | ⟨g, cap, cur, rfl, _⟩
  · exact ⟨none, 0, 0, rfl, h0.symm⟩
  · exact ⟨_, _, _, rfl, rfl⟩
theorem grown_drawn {W w1 : World} {row : Option Nat} (h : W.drew.grownBy w1 row) : W.grownBy w1 row := ⟨h.os, h.tape, h.output, h.size, h.block⟩
/-- The same, behind the block of what is appended. -/
theorem writer_app {base bw : Nat} {s : List It} {W w1 : World} {o : Obj} {v v' : Value} {x : It} (hb : base ≤ bw) (hbox : W.heap[bw]? = some (.cells #[v] 123 (0, 0))) (ho : W.ownsRow (bw + 1) 146 4 v s.length (s.flatMap encIt))
    (ho1 : w1.ownsRow (bw + 1) 146 4 v' (s.length + 1) (s.flatMap encIt ++ encIt x)) (hg : (W.alloc o).grownBy w1 v.ownBlock) :
    (WInv base bw (s ++ [x]) (w1.setCell ⟨bw, 0, none⟩ v') ∧ Keep base W (w1.setCell ⟨bw, 0, none⟩ v') ∧ TrK W (w1.setCell ⟨bw, 0, none⟩ v')) ∧ w1.cell? ⟨bw, 0, none⟩ = some v ∧ w1.frozen? ⟨bw, 0, none⟩ = false := by
  have hlt := lt_of_block hbox
  have hbox' : (W.alloc o).heap[bw]? = some (.cells #[v] 123 (0, 0)) := (Below.heap_alloc _ _ _ hlt).trans hbox
  obtain ⟨h1, h2, h3, h4⟩ := writer_next (base := base) hb hbox' (ho.alloc o) ho1 hg
  refine ⟨⟨h1, ((Keep.refl base W).alloc (by omega) o).trans h2, fun k cs z hk => h3 k cs z ((Below.heap_alloc _ _ _ (lt_of_block hk)).trans hk)⟩, by simp [World.cell?, h4], by simp [World.frozen?, h4]⟩

theorem writer_open (base bw : Nat) (s : List It) (id : Int) (W : World) (h : WInv base bw s W) (hlen : s.length + 1 ≤ 100000) :
    Calls Tryz.prog 65 #[.pointer (some ⟨bw, 0, none⟩), .int .i64 id] W fun e w' => e = .returned (.bool true) ∧ WInv base bw (s ++ [⟨3, id, 0, []⟩]) w' ∧ Keep base W w' ∧ TrK W w' := by
  obtain ⟨i0, hi, hz0, hz1, hz2⟩ := info_parts Tryz.info146
  obtain ⟨hb, v, hbox, ho⟩ := h
  have c0 : W.cell? ⟨bw, 0, none⟩ = some v := by simp [World.cell?, hbox]
  obtain ⟨A, n, c, rfl, rfl⟩ := rowForm ho
  have HB := Lib.hid hbox
  have HO := Lib.hid ho
  have hlt := lt_of_block hbox
  clear hbox ho
  go_enter Tryz.func65, Tryz.ntmps65
  go_wp2_with (first
    | (at_builtin; refine wpList_append_lies _ rfl _ _ 106 rfl (bw + 1) 146 i0 _ 4 48 Tryz.underlying106 hi hz0 hz1 hz2 rfl (by decide) _ s.length _ rfl (HO.out.alloc _) ⟨W.heap.size, 0, none⟩ 1 1 (encIt ⟨3, id, 0, []⟩) rfl rfl (World.news_of_block (World.alloc_heap_new W _)) (one_encIt _) (by decide) (by unfold maxLen; omega) (by omega) (by simp; omega) _ rfl ?_; intro g c3 w1 ho1 hg _ _; obtain ⟨hnx, d1, f1⟩ := writer_app (x := ⟨3, id, 0, []⟩) hb HB.out HO.out ho1 hg; have HN := Lib.hid hnx; clear hnx ho1 hg c0))
  go_ret
  exact ⟨rfl, HN.out⟩

theorem writer_end (base bw : Nat) (s : List It)  (W : World) (h : WInv base bw s W) (hlen : s.length + 1 ≤ 100000) :
    Calls Tryz.prog 66 #[.pointer (some ⟨bw, 0, none⟩)] W fun e w' => e = .returned (.bool true) ∧ WInv base bw (s ++ [⟨4, 0, 0, []⟩]) w' ∧ Keep base W w' ∧ TrK W w' := by
  obtain ⟨i0, hi, hz0, hz1, hz2⟩ := info_parts Tryz.info146
  obtain ⟨hb, v, hbox, ho⟩ := h
  have c0 : W.cell? ⟨bw, 0, none⟩ = some v := by simp [World.cell?, hbox]
  obtain ⟨A, n, c, rfl, rfl⟩ := rowForm ho
  have HB := Lib.hid hbox
  have HO := Lib.hid ho
  have hlt := lt_of_block hbox
  clear hbox ho
  go_enter Tryz.func66, Tryz.ntmps66
  go_wp2_with (first
    | (at_builtin; refine wpList_append_lies _ rfl _ _ 106 rfl (bw + 1) 146 i0 _ 4 48 Tryz.underlying106 hi hz0 hz1 hz2 rfl (by decide) _ s.length _ rfl (HO.out.alloc _) ⟨W.heap.size, 0, none⟩ 1 1 (encIt ⟨4, 0, 0, []⟩) rfl rfl (World.news_of_block (World.alloc_heap_new W _)) (one_encIt _) (by decide) (by unfold maxLen; omega) (by omega) (by simp; omega) _ rfl ?_; intro g c3 w1 ho1 hg _ _; obtain ⟨hnx, d1, f1⟩ := writer_app (x := ⟨4, 0, 0, []⟩) hb HB.out HO.out ho1 hg; have HN := Lib.hid hnx; clear hnx ho1 hg c0))
  go_ret
  exact ⟨rfl, HN.out⟩

theorem writer_number (base bw : Nat) (s : List It) (id n : Int) (B off : Nat) (W : World) (h : WInv base bw s W) (hlen : s.length + 1 ≤ 100000) (hc : W.cell? ⟨B, off, none⟩ = some (.int .i64 n)) :
    Calls Tryz.prog 64 #[.pointer (some ⟨bw, 0, none⟩), .int .i64 id, .pointer (some ⟨B, off, none⟩)] W fun e w' => e = .returned (.bool true) ∧ WInv base bw (s ++ [⟨1, id, n, []⟩]) w' ∧ Keep base W w' ∧ TrK W w' := by
  obtain ⟨i0, hi, hz0, hz1, hz2⟩ := info_parts Tryz.info146
  obtain ⟨hb, v, hbox, ho⟩ := h
  have c0 : W.cell? ⟨bw, 0, none⟩ = some v := by simp [World.cell?, hbox]
  obtain ⟨A, n, c, rfl, rfl⟩ := rowForm ho
  have HB := Lib.hid hbox
  have HO := Lib.hid ho
  have hlt := lt_of_block hbox
  clear hbox ho
  go_enter Tryz.func64, Tryz.ntmps64
  go_wp2
  go_region_law ((refine step_append_lies _ rfl (.tmp 11) (.tmp 17) 106 rfl (bw + 1) 146 i0 _ 4 48 Tryz.underlying106 hi hz0 hz1 hz2 rfl (by decide) _ s.length _ (by simp [Act.eval]) (HO.out.alloc _) ⟨W.heap.size, 0, none⟩ 1 1 (encIt ⟨1, id, n, []⟩) (by simp [Act.eval]) rfl (World.news_of_block (World.alloc_heap_new W.drew _)) (one_encIt _) (by decide) (by unfold maxLen; omega) (by omega) (by simp; omega) _ rfl ?_; intro g c3 w1 ho1 hg _ _; obtain ⟨hnx, d1, f1⟩ := writer_app (x := ⟨1, id, n, []⟩) hb HB.out HO.out ho1 (grown_drawn hg); have HN := Lib.hid hnx; clear hnx ho1 hg))
  all_goals go_wp2
  all_goals go_ret
  all_goals exact ⟨rfl, HN.out⟩

theorem writer_more (bw : Nat) (id : Int) (is : Bool) (W : World) :
    Calls Tryz.prog 67 #[.pointer (some ⟨bw, 0, none⟩), .int .i64 id, .bool is] W fun e w' => e = .returned (.bool is) ∧ W = w' := by
  go_enter Tryz.func67, Tryz.ntmps67
  go_wp2
  go_ret
  exact ⟨rfl, rfl⟩
end Go.Proofs.YtpaooddmgcekhaaGreat
