import Derived.Test.YtomppebamfpimaaGreatDoorYFK
import Derived.Test.YtomppebamfpimaaGreatDoorYFL
import Derived.Test.YtomppebamfpimaaGreatDoorYFE
import Derived.Test.YtomppebamfpimaaGreatDoorYFV
import Derived.Test.YtomppebamfpimaaGreatDoorYFG
import Derived.Test.YtomppebamfpimaaGreatDoorYF3
namespace Go.Proofs.YtomppebamfpimaaGreatDoor
open Go.RowKit
set_option linter.unusedVariables false
set_option linter.unusedSimpArgs false
set_option maxRecDepth 100000
theorem IsPk.at {w : World} {p : Pk} {s : Sl} (h : IsPk w p s) : p.At s w := ⟨h.hw.hrow, h.hf.hrow, h.hc.hrow, h.hp.hrow⟩
theorem IsPk.fit {w : World} {p : Pk} {s : Sl} (h : IsPk w p s) (r : Reach p) (f : Small p) : Fit p := ⟨f.few, ⟨fun x hx => ⟨(h.hw.hwf x hx).1, (h.hw.hwf x hx).2.1, by have := (f.tw x hx).1; omega, by have := (f.tw x hx).2; omega⟩, fun x hx => ⟨(h.hp.hwf x hx).1, (h.hp.hwf x hx).2.1, by have := (f.tp x hx).1; omega, by have := (f.tp x hx).2; omega⟩⟩, r, h.hqos, h.hid, h.hkeep, h.hwillQoS, h.hcode, fun f hf => (h.hf.hwf f hf).2⟩
end Go.Proofs.YtomppebamfpimaaGreatDoor
