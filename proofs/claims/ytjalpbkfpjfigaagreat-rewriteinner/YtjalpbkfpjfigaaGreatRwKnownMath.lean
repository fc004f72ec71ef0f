/-
  The statements' known packet: what it is, and what is told of it.
-/
import Derived.Test.YtjalpbkfpjfigaaGreatRwBody
namespace Go.Proofs.YtjalpbkfpjfigaaGreat
open Sm
namespace Sm
def kpk : Pk := ⟨0, 64, 1, 0, 2, 0, 167772161, 134744072, [], mgOut (bdMg 1000 0 0)⟩
def kl : List Int := [69, 0, 0, 28, 0, 0, 64, 0, 64, 1, 32, 209, 10, 0, 0, 1, 8, 8, 8, 8, 8, 0, 244, 23, 3, 232, 0, 0]
set_option maxRecDepth 20000
theorem kl_out : ipOut kpk = kl := by decide +kernel
theorem kl_len : kl.length = 28 := by decide
theorem kl_ip : ipErr kl = 0 := by decide +kernel
theorem kl_look : lkErr kl = 0 := by decide +kernel
theorem kl_port : (lkFl kl).src.port = 1000 := by decide +kernel
def kp1 : Pt := ⟨1, 9⟩
def kp2 : Pt := ⟨2, 9⟩
def kc : List Int := chOut kl kp1 kp2
theorem kc_err : chErr kl kp1 kp2 = 0 := by decide +kernel
theorem kc_look : lkErr kc = 0 := by decide +kernel
theorem kc_src : (lkFl kc).src.ip = 1 ∧ (lkFl kc).src.port = 9 := by decide +kernel
theorem kc_dst : (lkFl kc).dst.ip = 2 ∧ (lkFl kc).dst.port = 9 := by decide +kernel
theorem kn_look : lkErr [] = 20 := by decide +kernel
theorem kh_err : hopErr kl = 0 := by decide +kernel
theorem kh_len : (hopOut kl).length = 28 := by decide +kernel
theorem kh_ttl : (hopOut kl).getD 8 0 = 63 := by decide +kernel
theorem kc_len : kc.length = 28 := by decide +kernel
end Sm
end Go.Proofs.YtjalpbkfpjfigaaGreat
