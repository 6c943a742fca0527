import Derived.Test.YtgcedalggnmooaaGreatDoorRefAX
set_option linter.all false
set_option maxRecDepth 100000
namespace Go.Proofs.YtgcedalggnmooaaGreatDoor
open Go.RowKit
def Asn(t u:TypeId)(z:List Int):Prop:=∀v w,(Instr.typeAssert (.iface t v) 105 u true).run Tryz.prog w=.ok (.tuple #[.agg (z.map (Value.int .i64)).toArray,.bool false]) w
theorem Asn.o{t u:TypeId}{z:List Int}(h:Asn t u z)(v:Value)(w:World):(Instr.typeAssert (.iface t v) 105 u true).run Tryz.prog w=.ok (.tuple #[.agg (z.map (Value.int .i64)).toArray,.bool false]) w:=h v w
def Asy(t:TypeId):Prop:=∀v w,(Instr.typeAssert (.iface t v) 105 t true).run Tryz.prog w=.ok (.tuple #[v,.bool true]) w
theorem Asy.o{t:TypeId}(h:Asy t)(v:Value)(w:World):(Instr.typeAssert (.iface t v) 105 t true).run Tryz.prog w=.ok (.tuple #[v,.bool true]) w:=h v w
theorem Fc:Asy 143:=λv w=>by kernel_rfl
theorem BN:Asn 143 171 [0]:=λv w=>by kernel_rfl
theorem uQ:Asn 143 174 [0,0]:=λv w=>by kernel_rfl
theorem sB:Asn 146 143 [0]:=λv w=>by kernel_rfl
theorem iH:Asy 146:=λv w=>by kernel_rfl
theorem oM:Asn 146 171 [0]:=λv w=>by kernel_rfl
theorem kE:Asn 146 174 [0,0]:=λv w=>by kernel_rfl
theorem yO:Asn 149 143 [0]:=λv w=>by kernel_rfl
theorem mW:Asn 149 146 [0,0,0,0]:=λv w=>by kernel_rfl
theorem sJ:Asy 149:=λv w=>by kernel_rfl
theorem uZ:Asn 149 171 [0]:=λv w=>by kernel_rfl
theorem oT:Asn 149 174 [0,0]:=λv w=>by kernel_rfl
theorem yJ:Asn 152 143 [0]:=λv w=>by kernel_rfl
theorem mL:Asn 152 146 [0,0,0,0]:=λv w=>by kernel_rfl
theorem rV:Asn 152 149 [0,0,0]:=λv w=>by kernel_rfl
theorem rU:Asy 152:=λv w=>by kernel_rfl
theorem uR:Asn 152 171 [0]:=λv w=>by kernel_rfl
theorem oH:Asn 152 174 [0,0]:=λv w=>by kernel_rfl
theorem yK:Asn 155 143 [0]:=λv w=>by kernel_rfl
theorem mM:Asn 155 146 [0,0,0,0]:=λv w=>by kernel_rfl
theorem rY:Asn 155 149 [0,0,0]:=λv w=>by kernel_rfl
theorem rW:Asn 155 152 [0,0,0]:=λv w=>by kernel_rfl
theorem rX:Asy 155:=λv w=>by kernel_rfl
theorem uS:Asn 155 171 [0]:=λv w=>by kernel_rfl
theorem oI:Asn 155 174 [0,0]:=λv w=>by kernel_rfl
theorem uP:Asn 158 143 [0]:=λv w=>by kernel_rfl
theorem kB:Asn 158 146 [0,0,0,0]:=λv w=>by kernel_rfl
theorem oF:Asn 158 149 [0,0,0]:=λv w=>by kernel_rfl
theorem oD:Asn 158 152 [0,0,0]:=λv w=>by kernel_rfl
theorem oE:Asn 158 155 [0,0,0,0,0]:=λv w=>by kernel_rfl
theorem mJ:Asy 158:=λv w=>by kernel_rfl
theorem rS:Asn 158 160 [0]:=λv w=>by kernel_rfl
theorem rR:Asn 158 171 [0]:=λv w=>by kernel_rfl
theorem mK:Asn 158 174 [0,0]:=λv w=>by kernel_rfl
theorem BO:Asn 160 143 [0]:=λv w=>by kernel_rfl
theorem oS:Asn 160 146 [0,0,0,0]:=λv w=>by kernel_rfl
theorem uY:Asn 160 149 [0,0,0]:=λv w=>by kernel_rfl
theorem uW:Asn 160 152 [0,0,0]:=λv w=>by kernel_rfl
theorem uX:Asn 160 155 [0,0,0,0,0]:=λv w=>by kernel_rfl
theorem sH:Asn 160 158 [0]:=λv w=>by kernel_rfl
theorem yN:Asy 160:=λv w=>by kernel_rfl
theorem yM:Asn 160 171 [0]:=λv w=>by kernel_rfl
theorem sI:Asn 160 174 [0,0]:=λv w=>by kernel_rfl
theorem uT:Asn 163 143 [0]:=λv w=>by kernel_rfl
theorem kD:Asn 163 146 [0,0,0,0]:=λv w=>by kernel_rfl
theorem oL:Asn 163 149 [0,0,0]:=λv w=>by kernel_rfl
theorem oJ:Asn 163 152 [0,0,0]:=λv w=>by kernel_rfl
theorem oK:Asn 163 155 [0,0,0,0,0]:=λv w=>by kernel_rfl
theorem mN:Asn 163 158 [0]:=λv w=>by kernel_rfl
theorem sA:Asn 163 160 [0]:=λv w=>by kernel_rfl
theorem mO:Asy 163:=λv w=>by kernel_rfl
theorem rZ:Asn 163 171 [0]:=λv w=>by kernel_rfl
theorem mP:Asn 163 174 [0,0]:=λv w=>by kernel_rfl
theorem sC:Asn 165 143 [0]:=λv w=>by kernel_rfl
theorem iI:Asn 165 146 [0,0,0,0]:=λv w=>by kernel_rfl
theorem mT:Asn 165 149 [0,0,0]:=λv w=>by kernel_rfl
theorem mQ:Asn 165 152 [0,0,0]:=λv w=>by kernel_rfl
theorem mS:Asn 165 155 [0,0,0,0,0]:=λv w=>by kernel_rfl
theorem kF:Asn 165 158 [0]:=λv w=>by kernel_rfl
theorem oO:Asn 165 160 [0]:=λv w=>by kernel_rfl
theorem kG:Asn 165 163 [0,0]:=λv w=>by kernel_rfl
theorem iJ:Asy 165:=λv w=>by kernel_rfl
theorem oN:Asn 165 171 [0]:=λv w=>by kernel_rfl
theorem kH:Asn 165 174 [0,0]:=λv w=>by kernel_rfl
theorem yL:Asn 168 143 [0]:=λv w=>by kernel_rfl
theorem mU:Asn 168 146 [0,0,0,0]:=λv w=>by kernel_rfl
theorem sG:Asn 168 149 [0,0,0]:=λv w=>by kernel_rfl
theorem sD:Asn 168 152 [0,0,0]:=λv w=>by kernel_rfl
theorem sE:Asn 168 155 [0,0,0,0,0]:=λv w=>by kernel_rfl
theorem oP:Asn 168 158 [0]:=λv w=>by kernel_rfl
theorem uV:Asn 168 160 [0]:=λv w=>by kernel_rfl
theorem oQ:Asn 168 163 [0,0]:=λv w=>by kernel_rfl
theorem mV:Asn 168 165 [0,0]:=λv w=>by kernel_rfl
theorem sF:Asy 168:=λv w=>by kernel_rfl
theorem uU:Asn 168 171 [0]:=λv w=>by kernel_rfl
theorem oR:Asn 168 174 [0,0]:=λv w=>by kernel_rfl
theorem oG:Asn 171 143 [0]:=λv w=>by kernel_rfl
theorem eY:Asn 171 146 [0,0,0,0]:=λv w=>by kernel_rfl
theorem iG:Asn 171 149 [0,0,0]:=λv w=>by kernel_rfl
theorem iD:Asn 171 152 [0,0,0]:=λv w=>by kernel_rfl
theorem iE:Asn 171 155 [0,0,0,0,0]:=λv w=>by kernel_rfl
theorem gO:Asn 171 158 [0]:=λv w=>by kernel_rfl
theorem lT:Asn 171 160 [0]:=λv w=>by kernel_rfl
theorem gP:Asn 171 163 [0,0]:=λv w=>by kernel_rfl
theorem eZ:Asn 171 165 [0,0]:=λv w=>by kernel_rfl
theorem iF:Asn 171 168 [0,0]:=λv w=>by kernel_rfl
theorem eX:Asy 171:=λv w=>by kernel_rfl
theorem rT:Asn 171 174 [0,0]:=λv w=>by kernel_rfl
theorem vA:Asn 174 143 [0]:=λv w=>by kernel_rfl
theorem kI:Asn 174 146 [0,0,0,0]:=λv w=>by kernel_rfl
theorem oX:Asn 174 149 [0,0,0]:=λv w=>by kernel_rfl
theorem oU:Asn 174 152 [0,0,0]:=λv w=>by kernel_rfl
theorem oV:Asn 174 155 [0,0,0,0,0]:=λv w=>by kernel_rfl
theorem mX:Asn 174 158 [0]:=λv w=>by kernel_rfl
theorem sK:Asn 174 160 [0]:=λv w=>by kernel_rfl
theorem mY:Asn 174 163 [0,0]:=λv w=>by kernel_rfl
theorem kJ:Asn 174 165 [0,0]:=λv w=>by kernel_rfl
theorem oW:Asn 174 168 [0,0]:=λv w=>by kernel_rfl
theorem gQ:Asn 174 171 [0]:=λv w=>by kernel_rfl
theorem eQ:Asy 174:=λv w=>by kernel_rfl
theorem Ms(v : Value)(w : World): (method 459 143 v "InRange").run Tryz.prog w = .ok (279, v) w := by kernel_rfl
theorem AH(v : Value)(w : World): (method 459 146 v "InRange").run Tryz.prog w = .ok (281, v) w := by kernel_rfl
theorem FX(v : Value)(w : World): (method 459 149 v "InRange").run Tryz.prog w = .ok (284, v) w := by kernel_rfl
theorem FU(v : Value)(w : World): (method 459 152 v "InRange").run Tryz.prog w = .ok (285, v) w := by kernel_rfl
theorem FV(v : Value)(w : World): (method 459 155 v "InRange").run Tryz.prog w = .ok (286, v) w := by kernel_rfl
theorem CJ(v : Value)(w : World): (method 459 158 v "InRange").run Tryz.prog w = .ok (287, v) w := by kernel_rfl
theorem Jg(v : Value)(w : World): (method 459 160 v "InRange").run Tryz.prog w = .ok (288, v) w := by kernel_rfl
theorem CK(v : Value)(w : World): (method 459 163 v "InRange").run Tryz.prog w = .ok (289, v) w := by kernel_rfl
theorem AI(v : Value)(w : World): (method 459 165 v "InRange").run Tryz.prog w = .ok (290, v) w := by kernel_rfl
theorem FW(v : Value)(w : World): (method 459 168 v "InRange").run Tryz.prog w = .ok (291, v) w := by kernel_rfl
theorem Jf(v : Value)(w : World): (method 459 171 v "InRange").run Tryz.prog w = .ok (292, v) w := by kernel_rfl
theorem CL(v : Value)(w : World): (method 459 174 v "InRange").run Tryz.prog w = .ok (293, v) w := by kernel_rfl
