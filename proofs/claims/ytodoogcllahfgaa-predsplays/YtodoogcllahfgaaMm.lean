/- The first and the last of numbers in a row of memory: what slices.MinFunc and slices.MaxFunc with flo.Cmp, and flo.Least and flo.Most, return; conditions: the row is not empty and lies in memory. -/
import Derived.Test.YtodoogcllahfgaaCq
import Derived.Test.YtodoogcllahfgaaFs
namespace Go.Proofs.Ytodoogcllahfgaa
open Go.RowKit
namespace Fl
def minU (x : Nat → Nat) : Nat → Nat | 0 => x 0 | k + 1 => if code (x (k + 1)) < code (minU x k) then x (k + 1) else minU x k
def maxU (x : Nat → Nat) : Nat → Nat | 0 => x 0 | k + 1 => if code (maxU x k) < code (x (k + 1)) then x (k + 1) else maxU x k
theorem minU_W (x : Nat → Nat) (n : Nat) (h : ∀ i, i < n → W (x i)) : ∀ k, k < n → W (minU x k)
  | 0, hk => h 0 hk
  | k + 1, hk => by unfold minU; split; exact h _ hk; exact minU_W x n h k (by omega)
theorem maxU_W (x : Nat → Nat) (n : Nat) (h : ∀ i, i < n → W (x i)) : ∀ k, k < n → W (maxU x k)
  | 0, hk => h 0 hk
  | k + 1, hk => by unfold maxU; split; exact h _ hk; exact maxU_W x n h k (by omega)
end Fl


end Go.Proofs.Ytodoogcllahfgaa
