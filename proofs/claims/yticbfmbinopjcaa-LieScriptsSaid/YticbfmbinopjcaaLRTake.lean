/-
  THE DOCUMENT'S END takes what it hears: all cases.
-/
import Derived.Test.YticbfmbinopjcaaLRT1
import Derived.Test.YticbfmbinopjcaaLRT2
import Derived.Test.YticbfmbinopjcaaLRT3
namespace Go.Proofs.Yticbfmbinopjcaa
set_option linter.unusedSimpArgs false
set_option linter.unusedVariables false
open Go.RowKit
theorem rtake_any {W : World} {b : Nat} {e : EndT} (h : EndP 46 W b e) (hi : InvE e) (x : LieT) (now : Int) : Calls Try.prog 15 #[.pointer (some ⟨b, 0, none⟩), .agg #[.int .i64 x.node, .int .i64 x.level, .int .i64 x.pod, .int .i64 x.mtu, .int .i64 x.link, .int .i64 x.nonce, .int .i64 x.seen, .int .i64 x.seenLink, .int .i64 x.seenNonce, .int .i64 x.hold, .bool x.rep, .bool x.noOffer], .int .i64 now] W (TakeP 46 W b e x now) := by
  by_cases k : timeB now
  · cases kx : lieR x
    · exact rtake_form h hi x now k kx
    · have f := lie_facts kx
      by_cases ka : accB e.p x
      · by_cases k3 : e.s = 3
        · cases b1 : (e.o.node == x.node)
          · exact rtake_multiC h hi x now k kx ka k3 b1
          · cases b2 : (e.o.link == x.link)
            · exact rtake_multiB h hi x now k kx ka k3 b1 b2
            · exact rtake_multiA h hi x now k kx ka k3 b1 b2
        · by_cases k0 : e.o.node = 0
          · have b1 : (e.o.node == x.node) = false := by simp; omega
            cases g1 : (x.seen == e.p.node)
            · exact rtake_hearC4 h hi x now k kx ka k3 k0 b1 g1
            · cases g2 : (x.seenLink == e.p.link)
              · exact rtake_hearC3 h hi x now k kx ka k3 k0 b1 g1 g2
              · by_cases g3 : freshN x.seenNonce e.nonce 16
                · exact rtake_hearC1 h hi x now k kx ka k3 k0 b1 g1 g2 g3
                · exact rtake_hearC2 h hi x now k kx ka k3 k0 b1 g1 g2 g3
          · cases b1 : (e.o.node == x.node)
            · exact rtake_twoC h hi x now k kx ka k3 k0 b1
            · cases b2 : (e.o.link == x.link)
              · exact rtake_twoB h hi x now k kx ka k3 k0 b1 b2
              · cases g1 : (x.seen == e.p.node)
                · exact rtake_hearA4 h hi x now k kx ka k3 b1 b2 g1
                · cases g2 : (x.seenLink == e.p.link)
                  · exact rtake_hearA3 h hi x now k kx ka k3 b1 b2 g1 g2
                  · by_cases g3 : freshN x.seenNonce e.nonce 16
                    · exact rtake_hearA1 h hi x now k kx ka k3 b1 b2 g1 g2 g3
                    · exact rtake_hearA2 h hi x now k kx ka k3 b1 b2 g1 g2 g3
      · cases b1 : (e.o.node == x.node)
        · exact rtake_oldC h hi x now k kx ka b1
        · cases b2 : (e.o.link == x.link)
          · exact rtake_oldB h hi x now k kx ka b1 b2
          · exact rtake_oldA h hi x now k kx ka b1 b2
  · exact rtake_arg h hi x now k
end Go.Proofs.Yticbfmbinopjcaa
