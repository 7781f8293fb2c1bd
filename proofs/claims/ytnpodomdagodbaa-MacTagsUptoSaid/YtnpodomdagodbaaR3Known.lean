/- What chapter 3's example fixes. -/
import Derived.Test.YtnpodomdagodbaaR3Tag
namespace Go.Proofs.Ytnpodomdagodbaa
open Go.RowKit

set_option maxRecDepth 1000000 in
theorem hmac_jefe : ∀ D, D = hmacL [74, 101, 102, 101] [119, 104, 97, 116, 32, 100, 111, 32, 121, 97, 32, 119, 97, 110, 116, 32, 102, 111, 114, 32, 110, 111, 116, 104, 105, 110, 103, 63] → (cells8 D)[0]? = some (.int .u8 91) ∧ (cells8 D)[1]? = some (.int .u8 220) ∧ (cells8 D)[31]? = some (.int .u8 67) := by
  rintro D rfl
  have h : (hmacL [74, 101, 102, 101] [119, 104, 97, 116, 32, 100, 111, 32, 121, 97, 32, 119, 97, 110, 116, 32, 102, 111, 114, 32, 110, 111, 116, 104, 105, 110, 103, 63])[0]? = some 91 ∧ (hmacL [74, 101, 102, 101] [119, 104, 97, 116, 32, 100, 111, 32, 121, 97, 32, 119, 97, 110, 116, 32, 102, 111, 114, 32, 110, 111, 116, 104, 105, 110, 103, 63])[1]? = some 220 ∧ (hmacL [74, 101, 102, 101] [119, 104, 97, 116, 32, 100, 111, 32, 121, 97, 32, 119, 97, 110, 116, 32, 102, 111, 114, 32, 110, 111, 116, 104, 105, 110, 103, 63])[31]? = some 67 := by decide +kernel
  obtain ⟨h1, h2, h3⟩ := h
  simp only [cells8, List.getElem?_map, h1, h2, h3]
  exact ⟨rfl, rfl, rfl⟩
end Go.Proofs.Ytnpodomdagodbaa
