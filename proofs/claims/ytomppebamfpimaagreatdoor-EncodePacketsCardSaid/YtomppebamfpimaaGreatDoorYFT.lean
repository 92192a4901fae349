import Derived.Test.YtomppebamfpimaaGreatDoorYFS
import Derived.Test.YtomppebamfpimaaGreatDoorYFV
import Derived.Test.YtomppebamfpimaaGreatDoorYFG
import Derived.Test.YtomppebamfpimaaGreatDoorYFO
import Derived.Test.YtomppebamfpimaaGreatDoorYFK
namespace Go.Proofs.YtomppebamfpimaaGreatDoor
open Go.RowKit
set_option linter.unusedVariables false
set_option linter.unusedSimpArgs false
set_option maxRecDepth 100000
theorem cv8_any (n : Int) (w : World) (h : 0 ≤ n) (h2 : n ≤ 255) : (convert 5 3 (.int .u8 n)).run Tryz.prog w = .ok (.int .i64 n) w := by
 have u := Tryz.underlying3
 have u2 := Tryz.underlying5
 have e : IntKind.i64.wrap n = n := gx_wrap_i64 (by omega) (by omega)
 go_simp
 try exact e
structure FixQ (v : Int) (q : Pk) : Prop where
 k1 : 1 ≤ q.kind
 k2 : q.kind ≤ 15
 k3 : v = 4 → q.kind ≤ 14
 qos : q.qos ≤ 2
 dup : q.dup = true → q.qos ≠ 0
 id : q.id < 65536
 id1 : q.kind ≠ 3 → q.id ≠ 0
 id3 : q.kind = 3 → (q.id = 0 ↔ q.qos = 0)
 keep : q.keep < 65536
 pass1 : v = 4 → q.hasPass = true → q.hasUser = true
 client : okText q.client = true
 user : okText q.user = true
 sc : q.client.size ≤ 40
 su : q.user.size ≤ 40
 spl : q.pass.size ≤ 40
 sw : q.willLoad.size ≤ 40
 sl : q.load.size ≤ 40
 clean : v = 4 → q.client.size = 0 → q.clean = true
 wq : q.willQoS ≤ 2
 wt : nameB q.willTopic = true
 wts : q.willTopic.size ≤ 40
 code : allL (sp v q.kind) ≠ [] → ke v q.kind q.code = true
 codel : q.code < 256
 pres : q.present = true → q.code = 0
 pr4 : v = 4 → q.props = [] ∧ q.willProps = []
 pr : checkB q.kind q.props = true
 wpr : checkB 16 q.willProps = true
 pr15 : q.kind = 15 → (getL q.props 21).isSome = true
 prn : q.props.length ≤ 10
 wprn : q.willProps.length ≤ 10
 prs : ∀ x ∈ q.props, x.id < 256 ∧ x.n < 4294967296 ∧ x.a.size ≤ 32 ∧ x.b.size ≤ 32
 wprs : ∀ x ∈ q.willProps, x.id < 256 ∧ x.n < 4294967296 ∧ x.a.size ≤ 32 ∧ x.b.size ≤ 32
 topic : nameB q.topic = true ∨ (v = 5 ∧ q.topic.size = 0 ∧ (getL q.props 35).isSome = true)
 tops : q.topic.size ≤ 40
 fl1 : 1 ≤ q.filters.length
 fl2 : q.filters.length ≤ 5
 fl : ∀ f ∈ q.filters, optD v q.kind f = true ∧ f.opt < 256 ∧ f.text.size ≤ 40
 cl : q.codes.length ≤ 5
 cl9 : (q.kind = 9 ∨ (q.kind = 11 ∧ v = 5)) → 1 ≤ q.codes.length ∧ ∀ c ∈ q.codes, ke v q.kind c.toNat = true
 cl0 : ¬ (q.kind = 9 ∨ (q.kind = 11 ∧ v = 5)) → q.codes = []
structure Any (p : Pk) : Prop where
 r : Reach p
 qos : p.qos < 256
 id : p.id < 65536
 keep : p.keep < 65536
 wq : p.willQoS < 256
 code : p.code < 256
 opt : ∀ f ∈ p.filters, f.opt < 256
 pw : ∀ x ∈ p.props, x.id < 256 ∧ x.n < 4294967296
 ww : ∀ x ∈ p.willProps, x.id < 256 ∧ x.n < 4294967296
theorem IsPk.any {w : World} {p : Pk} {s : Sl} (h : IsPk w p s) (r : Reach p) : Any p :=
 ⟨r, h.hqos, h.hid, h.hkeep, h.hwillQoS, h.hcode, fun f hf => (h.hf.hwf f hf).2, fun x hx => ⟨(h.hp.hwf x hx).1, (h.hp.hwf x hx).2.1⟩, fun x hx => ⟨(h.hw.hwf x hx).1, (h.hw.hwf x hx).2.1⟩⟩
theorem Any.props {p : Pk} (h : Any p) : ∀ x ∈ p.props, x.id < 256 ∧ x.n < 4294967296 ∧ x.a.size ≤ 9223372036854775807 ∧ x.b.size ≤ 9223372036854775807 := fun x hx => ⟨(h.pw x hx).1, (h.pw x hx).2, by have := (h.r.tp x hx).1; omega, by have := (h.r.tp x hx).2; omega⟩
end Go.Proofs.YtomppebamfpimaaGreatDoor
