/- The element types of this seat's slices. -/
import Derived.Test.YtaedlaeflliibaaDoorRows
import Derived.Test.YtaedlaeflliibaaDoorLaws
namespace Go.Proofs.YtaedlaeflliibaaDoor
theorem el8 : El Tryd.prog 44 5 (.int .u8 0) 1 := ⟨Tryd.underlying44, by kernel_rfl, rfl⟩
end Go.Proofs.YtaedlaeflliibaaDoor
