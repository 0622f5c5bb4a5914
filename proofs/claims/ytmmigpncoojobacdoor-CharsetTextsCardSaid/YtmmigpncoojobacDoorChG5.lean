/- What the reference's Decode returns: the same as charset.decode. No condition but that the text is one. -/
import Derived.Test.YtmmigpncoojobacDoorChG2
import Derived.Test.YtmmigpncoojobacDoorChG3
import Derived.Test.YtmmigpncoojobacDoorChG4
namespace Go.Proofs.YtmmigpncoojobacDoor
open Go Go.RowKit Go.PlainAid
theorem refDec_any (s : ByteArray) (w : World) (hs : s.size ≤ maxLen) : RefDec s w := by
  by_cases h0 : s.size = 0
  · exact refDec_zero s w h0
  have h : 0 < s.size := by omega
  by_cases h1 : bt s 0 < 128
  · exact refDec_one s w hs h h1
  by_cases h2 : bt s 0 < 192
  · exact refDec_none s w h (.inl ⟨by omega, h2⟩)
  by_cases h3 : bt s 0 < 224
  · exact refDec_two s w hs h (by omega) h3
  by_cases h4 : bt s 0 < 240
  · exact refDec_three s w hs h (by omega) h4
  by_cases h5 : bt s 0 < 248
  · exact refDec_four s w hs h (by omega) h5
  exact refDec_none s w h (.inr (by omega))
end Go.Proofs.YtmmigpncoojobacDoor
