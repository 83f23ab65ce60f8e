/-
  UNLIKE BYTES ARE UNLIKE STRINGS.
-/
import Derived.Test.YtnhcopleepmcmaaDoorSOpenN
import Derived.Lib.Bytes
namespace Go.Proofs.YtnhcopleepmcmaaDoor
open Go.RowKit
theorem map_back {l : List Nat} (h : ∀ x ∈ l, x < 256) : ((l.map fun n : Nat => (n : Int)).map fun n => UInt8.ofNat n.toNat).map UInt8.toNat = l := by
  induction l with
  | nil => rfl
  | cons x l ih =>
    have hx := h x (by simp)
    have e : (UInt8.ofNat x).toNat = x := by simp [UInt8.ofNat, UInt8.toNat]; omega
    simp only [List.map_cons, Int.toNat_natCast, e]
    rw [ih fun y hy => h y (by simp [hy])]
theorem strB_inj {l l2 : List Nat} (h1 : ∀ x ∈ l, x < 256) (h2 : ∀ x ∈ l2, x < 256) (e : strB l = strB l2) : l = l2 := by
  unfold strB at e
  have e2 := congrArg (fun s : ByteArray => s.data.toList.map UInt8.toNat) e
  simp only [strOfNums_data] at e2
  rwa [map_back h1, map_back h2] at e2
theorem strOfNums_data_bytes (xs : List Int) : (strOfNums xs).data.toList = Lib.bytesOf xs := rfl
theorem strB_inj2 {l l2 : List Nat} (h1 : ∀ x ∈ l, x < 256) (h2 : ∀ x ∈ l2, x < 256) (e : (strB l).toList = (strB l2).toList) : l = l2 := by
  unfold strB at e
  rw [Lib.strOfNums_toList, Lib.strOfNums_toList, ← strOfNums_data_bytes, ← strOfNums_data_bytes] at e
  have e2 := congrArg (List.map UInt8.toNat) e
  simp only [strOfNums_data] at e2
  rwa [map_back h1, map_back h2] at e2
end Go.Proofs.YtnhcopleepmcmaaDoor
