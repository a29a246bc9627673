import Derived.Test.YtcgfgmlfbgbkfaaGreatDoorM16
import Derived.Test.YtcgfgmlfbgbkfaaGreatDoorM07
import Derived.Test.YtcgfgmlfbgbkfaaGreatDoorM17
import Derived.Test.YtcgfgmlfbgbkfaaGreatDoorM05
import Derived.Test.YtcgfgmlfbgbkfaaGreatDoorM04
import Derived.Test.YtcgfgmlfbgbkfaaGreatDoorM13
import Derived.Deep.AppendLies
set_option linter.unusedVariables false
set_option linter.unusedSimpArgs false
set_option maxHeartbeats 16000000
namespace Go.Proofs.YtcgfgmlfbgbkfaaGreatDoor.Pl
theorem lab_nx {f:IrF} (hf:funOk f) {lab:Int->Option Int} (hl:LabK f.code f.code.length lab) {i:Nat} (hi:i<f.code.length) (hop:(f.code.getD i IrI.zero).op=12\/(f.code.getD i IrI.zero).op=13):∃ q:Nat,lab (f.code.getD i IrI.zero).n=some (q:Int)/\q<f.code.length/\∀ k:Nat,isLab f.code (f.code.getD i IrI.zero).n k↔k=q:=by
 have h1:=(hf.2.2.2 i hi).2 hop
 have h2:∃ j,j<f.code.length/\isLab f.code (f.code.getD i IrI.zero).n j:=by
  apply Classical.byContradiction
  intro hn
  exact h1 (.inl ⟨rfl,fun j hj q=>hn ⟨j,hj,q⟩⟩)
 have h3:=(hl.1 _).2 h2
 obtain⟨v,hv⟩:=Option.isSome_iff_exists.1 h3
 obtain⟨q,rfl,hq,hq2⟩:=hl.2.1 _ _ hv
 refine⟨q,hv,hq,fun k=>⟨fun hk=>hl.2.2 k q _ (isLab_lt hk) hq hk hq2,fun e=>e ▸ hq2⟩⟩
end Go.Proofs.YtcgfgmlfbgbkfaaGreatDoor.Pl
namespace Go.Proofs.YtcgfgmlfbgbkfaaGreatDoor.W
open Go.RowKit Go.Maps Go.WideMaps
theorem Tryz.infostL:(Tryz.prog.info? 108).map (fun i=>(i.zero,i.size,i.bytes))=some (some (.int .i64 0),1,8):=by kernel_rfl
def StepsA (lo:Nat) (us:List Int) (e:Ending) (w':World):Prop:=∃ (a:Option Addr) (cap:Nat),e=.returned (.slice a us.length cap)/\w'.ownsRow lo 108 1 (.slice a us.length cap) us.length (us.map (Value.int .i64))
def NxSaid (w:World) (code:List Pl.IrI) (i:Nat) (e:Ending) (w':World):Prop:=(∃ ns,Pl.NxL code i ns/\StepsA w.heap.size ns e w')/\Below w.heap.size w w'
theorem nx_one {w u:World} {code:List Pl.IrI} {i:Nat} {z:Int} (hb:Below w.heap.size w u) (h:∀ j:Int,j=z↔∃ k:Nat,j=k/\Pl.Nx code i k) (b:Nat) (e:b=u.heap.size):NxSaid w code i (.returned (.slice (some ⟨b,0,none⟩) 1 1)) (u.alloc (.cells #[.int .i64 z] 108)):=by
 subst e
 refine⟨⟨[z],⟨by simp,fun j=>by rw[List.mem_singleton];exact h j⟩,some ⟨u.heap.size,0,none⟩,1,rfl,?_⟩,hb.alloc hb.size _⟩
 exact World.ownsRow_lit u #[.int .i64 z] 1 hb.size (by decide) rfl
theorem nx_two {w u:World} {code:List Pl.IrI} {i:Nat} {z z2:Int} (hb:Below w.heap.size w u) (h:∀ j:Int,j=z\/j=z2↔∃ k:Nat,j=k/\Pl.Nx code i k) (b:Nat) (e:b=u.heap.size):NxSaid w code i (.returned (.slice (some ⟨b,0,none⟩) 2 2)) (u.alloc (.cells #[.int .i64 z,.int .i64 z2] 108)):=by
 subst e
 refine⟨⟨[z,z2],⟨by simp,fun j=>by rw[List.mem_cons,List.mem_singleton];exact h j⟩,some ⟨u.heap.size,0,none⟩,2,rfl,?_⟩,hb.alloc hb.size _⟩
 exact World.ownsRow_lit u #[.int .i64 z,.int .i64 z2] 2 hb.size (by decide) rfl
set_option maxRecDepth 100000 in
theorem nextOf_1 (gr gm nm g n c i:Nat) (code:List Pl.IrI) (x:Pl.IrI) (y:SV) (w:World) (c5:w.cell? ⟨gr,5,none⟩=some (.slice (some ⟨g,0,none⟩) n c)) (hin:i<n) (hn8:n<=8000) (cz:w.cell? ⟨g,i,none⟩=some (stV 1 x y)) (hx:∀ j:Int,j=(i:Int)+1↔∃ k:Nat,j=k/\Pl.Nx code i k):Calls Tryz.prog 94 #[.pointer (some ⟨gr,0,none⟩),.int .i64 (i:Int)] w fun e w'=>NxSaid w code i e w':=by
 have hii:(i:Int)<(n:Int):=by omega
 have hi8:(i:Int)<=8000:=by omega
 unfold stV at cz
 simp only at cz
 have hta0:∀ w:World,(Instr.typeAssert (.iface 151 (.agg #[.int .i64 x.d,.int .i64 x.n])) 93 173 true).run Tryz.prog w=.ok (.tuple #[(.agg #[.int .i64 0]),.bool false]) w:=fun _=>by kernel_rfl
 have hta1:∀ w:World,(Instr.typeAssert (.iface 151 (.agg #[.int .i64 x.d,.int .i64 x.n])) 93 175 true).run Tryz.prog w=.ok (.tuple #[(.agg #[.int .i64 0,.int .i64 0,.string ⟨#[]⟩,.int .i64 0]),.bool false]) w:=fun _=>by kernel_rfl
 have hta2:∀ w:World,(Instr.typeAssert (.iface 151 (.agg #[.int .i64 x.d,.int .i64 x.n])) 93 177 true).run Tryz.prog w=.ok (.tuple #[(.agg #[.int .i64 0]),.bool false]) w:=fun _=>by kernel_rfl
 have HX:Hid (∀ j:Int,j=(i:Int)+1↔∃ k:Nat,j=k/\Pl.Nx code i k):=hx
 clear hx
 go_enter Tryz.func94,Tryz.ntmps94
 go_wp2_with fail
 go_ret
 exact nx_one (Below.refl _ _) HX.out _ rfl
set_option maxRecDepth 100000 in
theorem nextOf_2 (gr gm nm g n c i:Nat) (code:List Pl.IrI) (x:Pl.IrI) (y:SV) (w:World) (c5:w.cell? ⟨gr,5,none⟩=some (.slice (some ⟨g,0,none⟩) n c)) (hin:i<n) (hn8:n<=8000) (cz:w.cell? ⟨g,i,none⟩=some (stV 2 x y)) (hx:∀ j:Int,j=(i:Int)+1↔∃ k:Nat,j=k/\Pl.Nx code i k):Calls Tryz.prog 94 #[.pointer (some ⟨gr,0,none⟩),.int .i64 (i:Int)] w fun e w'=>NxSaid w code i e w':=by
 have hii:(i:Int)<(n:Int):=by omega
 have hi8:(i:Int)<=8000:=by omega
 unfold stV at cz
 simp only at cz
 have hta0:∀ w:World,(Instr.typeAssert (.iface 153 (.agg #[.int .i64 x.a,.int .i64 x.d])) 93 173 true).run Tryz.prog w=.ok (.tuple #[(.agg #[.int .i64 0]),.bool false]) w:=fun _=>by kernel_rfl
 have hta1:∀ w:World,(Instr.typeAssert (.iface 153 (.agg #[.int .i64 x.a,.int .i64 x.d])) 93 175 true).run Tryz.prog w=.ok (.tuple #[(.agg #[.int .i64 0,.int .i64 0,.string ⟨#[]⟩,.int .i64 0]),.bool false]) w:=fun _=>by kernel_rfl
 have hta2:∀ w:World,(Instr.typeAssert (.iface 153 (.agg #[.int .i64 x.a,.int .i64 x.d])) 93 177 true).run Tryz.prog w=.ok (.tuple #[(.agg #[.int .i64 0]),.bool false]) w:=fun _=>by kernel_rfl
 have HX:Hid (∀ j:Int,j=(i:Int)+1↔∃ k:Nat,j=k/\Pl.Nx code i k):=hx
 clear hx
 go_enter Tryz.func94,Tryz.ntmps94
 go_wp2_with fail
 go_ret
 exact nx_one (Below.refl _ _) HX.out _ rfl
set_option maxRecDepth 100000 in
theorem nextOf_3 (gr gm nm g n c i:Nat) (code:List Pl.IrI) (x:Pl.IrI) (y:SV) (w:World) (c5:w.cell? ⟨gr,5,none⟩=some (.slice (some ⟨g,0,none⟩) n c)) (hin:i<n) (hn8:n<=8000) (cz:w.cell? ⟨g,i,none⟩=some (stV 3 x y)) (hx:∀ j:Int,j=(i:Int)+1↔∃ k:Nat,j=k/\Pl.Nx code i k):Calls Tryz.prog 94 #[.pointer (some ⟨gr,0,none⟩),.int .i64 (i:Int)] w fun e w'=>NxSaid w code i e w':=by
 have hii:(i:Int)<(n:Int):=by omega
 have hi8:(i:Int)<=8000:=by omega
 unfold stV at cz
 simp only at cz
 have hta0:∀ w:World,(Instr.typeAssert (.iface 155 (.agg #[.int .i64 x.a,.int .i64 x.b,.int .i64 x.d,.int .i64 x.n])) 93 173 true).run Tryz.prog w=.ok (.tuple #[(.agg #[.int .i64 0]),.bool false]) w:=fun _=>by kernel_rfl
 have hta1:∀ w:World,(Instr.typeAssert (.iface 155 (.agg #[.int .i64 x.a,.int .i64 x.b,.int .i64 x.d,.int .i64 x.n])) 93 175 true).run Tryz.prog w=.ok (.tuple #[(.agg #[.int .i64 0,.int .i64 0,.string ⟨#[]⟩,.int .i64 0]),.bool false]) w:=fun _=>by kernel_rfl
 have hta2:∀ w:World,(Instr.typeAssert (.iface 155 (.agg #[.int .i64 x.a,.int .i64 x.b,.int .i64 x.d,.int .i64 x.n])) 93 177 true).run Tryz.prog w=.ok (.tuple #[(.agg #[.int .i64 0]),.bool false]) w:=fun _=>by kernel_rfl
 have HX:Hid (∀ j:Int,j=(i:Int)+1↔∃ k:Nat,j=k/\Pl.Nx code i k):=hx
 clear hx
 go_enter Tryz.func94,Tryz.ntmps94
 go_wp2_with fail
 go_ret
 exact nx_one (Below.refl _ _) HX.out _ rfl
set_option maxRecDepth 100000 in
theorem nextOf_4 (gr gm nm g n c i:Nat) (code:List Pl.IrI) (x:Pl.IrI) (y:SV) (w:World) (c5:w.cell? ⟨gr,5,none⟩=some (.slice (some ⟨g,0,none⟩) n c)) (hin:i<n) (hn8:n<=8000) (cz:w.cell? ⟨g,i,none⟩=some (stV 4 x y)) (hx:∀ j:Int,j=(i:Int)+1↔∃ k:Nat,j=k/\Pl.Nx code i k):Calls Tryz.prog 94 #[.pointer (some ⟨gr,0,none⟩),.int .i64 (i:Int)] w fun e w'=>NxSaid w code i e w':=by
 have hii:(i:Int)<(n:Int):=by omega
 have hi8:(i:Int)<=8000:=by omega
 unfold stV at cz
 simp only at cz
 have hta0:∀ w:World,(Instr.typeAssert (.iface 157 (.agg #[.int .i64 x.a,.int .i64 x.d,.int .i64 x.n])) 93 173 true).run Tryz.prog w=.ok (.tuple #[(.agg #[.int .i64 0]),.bool false]) w:=fun _=>by kernel_rfl
 have hta1:∀ w:World,(Instr.typeAssert (.iface 157 (.agg #[.int .i64 x.a,.int .i64 x.d,.int .i64 x.n])) 93 175 true).run Tryz.prog w=.ok (.tuple #[(.agg #[.int .i64 0,.int .i64 0,.string ⟨#[]⟩,.int .i64 0]),.bool false]) w:=fun _=>by kernel_rfl
 have hta2:∀ w:World,(Instr.typeAssert (.iface 157 (.agg #[.int .i64 x.a,.int .i64 x.d,.int .i64 x.n])) 93 177 true).run Tryz.prog w=.ok (.tuple #[(.agg #[.int .i64 0]),.bool false]) w:=fun _=>by kernel_rfl
 have HX:Hid (∀ j:Int,j=(i:Int)+1↔∃ k:Nat,j=k/\Pl.Nx code i k):=hx
 clear hx
 go_enter Tryz.func94,Tryz.ntmps94
 go_wp2_with fail
 go_ret
 exact nx_one (Below.refl _ _) HX.out _ rfl
set_option maxRecDepth 100000 in
theorem nextOf_5 (gr gm nm g n c i:Nat) (code:List Pl.IrI) (x:Pl.IrI) (y:SV) (w:World) (c5:w.cell? ⟨gr,5,none⟩=some (.slice (some ⟨g,0,none⟩) n c)) (hin:i<n) (hn8:n<=8000) (cz:w.cell? ⟨g,i,none⟩=some (stV 5 x y)) (hx:∀ j:Int,j=(i:Int)+1↔∃ k:Nat,j=k/\Pl.Nx code i k):Calls Tryz.prog 94 #[.pointer (some ⟨gr,0,none⟩),.int .i64 (i:Int)] w fun e w'=>NxSaid w code i e w':=by
 have hii:(i:Int)<(n:Int):=by omega
 have hi8:(i:Int)<=8000:=by omega
 unfold stV at cz
 simp only at cz
 have hta0:∀ w:World,(Instr.typeAssert (.iface 158 (.agg #[.int .i64 x.a,.int .i64 x.d,.int .i64 x.n])) 93 173 true).run Tryz.prog w=.ok (.tuple #[(.agg #[.int .i64 0]),.bool false]) w:=fun _=>by kernel_rfl
 have hta1:∀ w:World,(Instr.typeAssert (.iface 158 (.agg #[.int .i64 x.a,.int .i64 x.d,.int .i64 x.n])) 93 175 true).run Tryz.prog w=.ok (.tuple #[(.agg #[.int .i64 0,.int .i64 0,.string ⟨#[]⟩,.int .i64 0]),.bool false]) w:=fun _=>by kernel_rfl
 have hta2:∀ w:World,(Instr.typeAssert (.iface 158 (.agg #[.int .i64 x.a,.int .i64 x.d,.int .i64 x.n])) 93 177 true).run Tryz.prog w=.ok (.tuple #[(.agg #[.int .i64 0]),.bool false]) w:=fun _=>by kernel_rfl
 have HX:Hid (∀ j:Int,j=(i:Int)+1↔∃ k:Nat,j=k/\Pl.Nx code i k):=hx
 clear hx
 go_enter Tryz.func94,Tryz.ntmps94
 go_wp2_with fail
 go_ret
 exact nx_one (Below.refl _ _) HX.out _ rfl
set_option maxRecDepth 100000 in
theorem nextOf_6 (gr gm nm g n c i:Nat) (code:List Pl.IrI) (x:Pl.IrI) (y:SV) (w:World) (c5:w.cell? ⟨gr,5,none⟩=some (.slice (some ⟨g,0,none⟩) n c)) (hin:i<n) (hn8:n<=8000) (cz:w.cell? ⟨g,i,none⟩=some (stV 6 x y)) (hx:∀ j:Int,j=(i:Int)+1↔∃ k:Nat,j=k/\Pl.Nx code i k):Calls Tryz.prog 94 #[.pointer (some ⟨gr,0,none⟩),.int .i64 (i:Int)] w fun e w'=>NxSaid w code i e w':=by
 have hii:(i:Int)<(n:Int):=by omega
 have hi8:(i:Int)<=8000:=by omega
 unfold stV at cz
 simp only at cz
 have hta0:∀ w:World,(Instr.typeAssert (.iface 161 (.agg #[.int .i64 x.a,.int .i64 x.b,.int .i64 x.n])) 93 173 true).run Tryz.prog w=.ok (.tuple #[(.agg #[.int .i64 0]),.bool false]) w:=fun _=>by kernel_rfl
 have hta1:∀ w:World,(Instr.typeAssert (.iface 161 (.agg #[.int .i64 x.a,.int .i64 x.b,.int .i64 x.n])) 93 175 true).run Tryz.prog w=.ok (.tuple #[(.agg #[.int .i64 0,.int .i64 0,.string ⟨#[]⟩,.int .i64 0]),.bool false]) w:=fun _=>by kernel_rfl
 have hta2:∀ w:World,(Instr.typeAssert (.iface 161 (.agg #[.int .i64 x.a,.int .i64 x.b,.int .i64 x.n])) 93 177 true).run Tryz.prog w=.ok (.tuple #[(.agg #[.int .i64 0]),.bool false]) w:=fun _=>by kernel_rfl
 have HX:Hid (∀ j:Int,j=(i:Int)+1↔∃ k:Nat,j=k/\Pl.Nx code i k):=hx
 clear hx
 go_enter Tryz.func94,Tryz.ntmps94
 go_wp2_with fail
 go_ret
 exact nx_one (Below.refl _ _) HX.out _ rfl
set_option maxRecDepth 100000 in
theorem nextOf_7 (gr gm nm g n c i:Nat) (code:List Pl.IrI) (x:Pl.IrI) (y:SV) (w:World) (c5:w.cell? ⟨gr,5,none⟩=some (.slice (some ⟨g,0,none⟩) n c)) (hin:i<n) (hn8:n<=8000) (cz:w.cell? ⟨g,i,none⟩=some (stV 7 x y)) (hx:∀ j:Int,j=(i:Int)+1↔∃ k:Nat,j=k/\Pl.Nx code i k):Calls Tryz.prog 94 #[.pointer (some ⟨gr,0,none⟩),.int .i64 (i:Int)] w fun e w'=>NxSaid w code i e w':=by
 have hii:(i:Int)<(n:Int):=by omega
 have hi8:(i:Int)<=8000:=by omega
 unfold stV at cz
 simp only at cz
 have hta0:∀ w:World,(Instr.typeAssert (.iface 163 (.agg #[.int .i64 x.d,.string x.sym,.int .i64 x.n])) 93 173 true).run Tryz.prog w=.ok (.tuple #[(.agg #[.int .i64 0]),.bool false]) w:=fun _=>by kernel_rfl
 have hta1:∀ w:World,(Instr.typeAssert (.iface 163 (.agg #[.int .i64 x.d,.string x.sym,.int .i64 x.n])) 93 175 true).run Tryz.prog w=.ok (.tuple #[(.agg #[.int .i64 0,.int .i64 0,.string ⟨#[]⟩,.int .i64 0]),.bool false]) w:=fun _=>by kernel_rfl
 have hta2:∀ w:World,(Instr.typeAssert (.iface 163 (.agg #[.int .i64 x.d,.string x.sym,.int .i64 x.n])) 93 177 true).run Tryz.prog w=.ok (.tuple #[(.agg #[.int .i64 0]),.bool false]) w:=fun _=>by kernel_rfl
 have HX:Hid (∀ j:Int,j=(i:Int)+1↔∃ k:Nat,j=k/\Pl.Nx code i k):=hx
 clear hx
 go_enter Tryz.func94,Tryz.ntmps94
 go_wp2_with fail
 go_ret
 exact nx_one (Below.refl _ _) HX.out _ rfl
set_option maxRecDepth 100000 in
theorem nextOf_8 (gr gm nm g n c i:Nat) (code:List Pl.IrI) (x:Pl.IrI) (y:SV) (w:World) (c5:w.cell? ⟨gr,5,none⟩=some (.slice (some ⟨g,0,none⟩) n c)) (hin:i<n) (hn8:n<=8000) (cz:w.cell? ⟨g,i,none⟩=some (stV 8 x y)) (hx:∀ j:Int,j=(i:Int)+1↔∃ k:Nat,j=k/\Pl.Nx code i k):Calls Tryz.prog 94 #[.pointer (some ⟨gr,0,none⟩),.int .i64 (i:Int)] w fun e w'=>NxSaid w code i e w':=by
 have hii:(i:Int)<(n:Int):=by omega
 have hi8:(i:Int)<=8000:=by omega
 unfold stV at cz
 simp only at cz
 have hta0:∀ w:World,(Instr.typeAssert (.iface 165 (.agg #[.int .i64 x.d,.int .i64 x.n])) 93 173 true).run Tryz.prog w=.ok (.tuple #[(.agg #[.int .i64 0]),.bool false]) w:=fun _=>by kernel_rfl
 have hta1:∀ w:World,(Instr.typeAssert (.iface 165 (.agg #[.int .i64 x.d,.int .i64 x.n])) 93 175 true).run Tryz.prog w=.ok (.tuple #[(.agg #[.int .i64 0,.int .i64 0,.string ⟨#[]⟩,.int .i64 0]),.bool false]) w:=fun _=>by kernel_rfl
 have hta2:∀ w:World,(Instr.typeAssert (.iface 165 (.agg #[.int .i64 x.d,.int .i64 x.n])) 93 177 true).run Tryz.prog w=.ok (.tuple #[(.agg #[.int .i64 0]),.bool false]) w:=fun _=>by kernel_rfl
 have HX:Hid (∀ j:Int,j=(i:Int)+1↔∃ k:Nat,j=k/\Pl.Nx code i k):=hx
 clear hx
 go_enter Tryz.func94,Tryz.ntmps94
 go_wp2_with fail
 go_ret
 exact nx_one (Below.refl _ _) HX.out _ rfl
set_option maxRecDepth 100000 in
theorem nextOf_9 (gr gm nm g n c i:Nat) (code:List Pl.IrI) (x:Pl.IrI) (y:SV) (w:World) (c5:w.cell? ⟨gr,5,none⟩=some (.slice (some ⟨g,0,none⟩) n c)) (hin:i<n) (hn8:n<=8000) (cz:w.cell? ⟨g,i,none⟩=some (stV 9 x y)) (hx:∀ j:Int,j=(i:Int)+1↔∃ k:Nat,j=k/\Pl.Nx code i k):Calls Tryz.prog 94 #[.pointer (some ⟨gr,0,none⟩),.int .i64 (i:Int)] w fun e w'=>NxSaid w code i e w':=by
 have hii:(i:Int)<(n:Int):=by omega
 have hi8:(i:Int)<=8000:=by omega
 unfold stV at cz
 simp only at cz
 have hta0:∀ w:World,(Instr.typeAssert (.iface 168 (.agg #[.int .i64 x.d,.string x.sym,.slice y.a y.len y.cap])) 93 173 true).run Tryz.prog w=.ok (.tuple #[(.agg #[.int .i64 0]),.bool false]) w:=fun _=>by kernel_rfl
 have hta1:∀ w:World,(Instr.typeAssert (.iface 168 (.agg #[.int .i64 x.d,.string x.sym,.slice y.a y.len y.cap])) 93 175 true).run Tryz.prog w=.ok (.tuple #[(.agg #[.int .i64 0,.int .i64 0,.string ⟨#[]⟩,.int .i64 0]),.bool false]) w:=fun _=>by kernel_rfl
 have hta2:∀ w:World,(Instr.typeAssert (.iface 168 (.agg #[.int .i64 x.d,.string x.sym,.slice y.a y.len y.cap])) 93 177 true).run Tryz.prog w=.ok (.tuple #[(.agg #[.int .i64 0]),.bool false]) w:=fun _=>by kernel_rfl
 have HX:Hid (∀ j:Int,j=(i:Int)+1↔∃ k:Nat,j=k/\Pl.Nx code i k):=hx
 clear hx
 go_enter Tryz.func94,Tryz.ntmps94
 go_wp2_with fail
 go_ret
 exact nx_one (Below.refl _ _) HX.out _ rfl
set_option maxRecDepth 100000 in
theorem nextOf_10 (gr gm nm g n c i:Nat) (code:List Pl.IrI) (x:Pl.IrI) (y:SV) (w:World) (c5:w.cell? ⟨gr,5,none⟩=some (.slice (some ⟨g,0,none⟩) n c)) (hin:i<n) (hn8:n<=8000) (cz:w.cell? ⟨g,i,none⟩=some (stV 10 x y)) (hx:∀ j:Int,j=(i:Int)+1↔∃ k:Nat,j=k/\Pl.Nx code i k):Calls Tryz.prog 94 #[.pointer (some ⟨gr,0,none⟩),.int .i64 (i:Int)] w fun e w'=>NxSaid w code i e w':=by
 have hii:(i:Int)<(n:Int):=by omega
 have hi8:(i:Int)<=8000:=by omega
 unfold stV at cz
 simp only at cz
 have hta0:∀ w:World,(Instr.typeAssert (.iface 170 (.agg #[.int .i64 x.d,.int .i64 x.a,.slice y.a y.len y.cap])) 93 173 true).run Tryz.prog w=.ok (.tuple #[(.agg #[.int .i64 0]),.bool false]) w:=fun _=>by kernel_rfl
 have hta1:∀ w:World,(Instr.typeAssert (.iface 170 (.agg #[.int .i64 x.d,.int .i64 x.a,.slice y.a y.len y.cap])) 93 175 true).run Tryz.prog w=.ok (.tuple #[(.agg #[.int .i64 0,.int .i64 0,.string ⟨#[]⟩,.int .i64 0]),.bool false]) w:=fun _=>by kernel_rfl
 have hta2:∀ w:World,(Instr.typeAssert (.iface 170 (.agg #[.int .i64 x.d,.int .i64 x.a,.slice y.a y.len y.cap])) 93 177 true).run Tryz.prog w=.ok (.tuple #[(.agg #[.int .i64 0]),.bool false]) w:=fun _=>by kernel_rfl
 have HX:Hid (∀ j:Int,j=(i:Int)+1↔∃ k:Nat,j=k/\Pl.Nx code i k):=hx
 clear hx
 go_enter Tryz.func94,Tryz.ntmps94
 go_wp2_with fail
 go_ret
 exact nx_one (Below.refl _ _) HX.out _ rfl
set_option maxRecDepth 100000 in
theorem nextOf_11 (gr gm nm g n c i:Nat) (code:List Pl.IrI) (x:Pl.IrI) (y:SV) (w:World) (c5:w.cell? ⟨gr,5,none⟩=some (.slice (some ⟨g,0,none⟩) n c)) (hin:i<n) (hn8:n<=8000) (cz:w.cell? ⟨g,i,none⟩=some (stV 11 x y)) (hx:∀ j:Int,j=(i:Int)+1↔∃ k:Nat,j=k/\Pl.Nx code i k):Calls Tryz.prog 94 #[.pointer (some ⟨gr,0,none⟩),.int .i64 (i:Int)] w fun e w'=>NxSaid w code i e w':=by
 have hii:(i:Int)<(n:Int):=by omega
 have hi8:(i:Int)<=8000:=by omega
 unfold stV at cz
 simp only at cz
 have hta0:∀ w:World,(Instr.typeAssert (.iface 172 (.agg #[.int .i64 x.n])) 93 173 true).run Tryz.prog w=.ok (.tuple #[(.agg #[.int .i64 0]),.bool false]) w:=fun _=>by kernel_rfl
 have hta1:∀ w:World,(Instr.typeAssert (.iface 172 (.agg #[.int .i64 x.n])) 93 175 true).run Tryz.prog w=.ok (.tuple #[(.agg #[.int .i64 0,.int .i64 0,.string ⟨#[]⟩,.int .i64 0]),.bool false]) w:=fun _=>by kernel_rfl
 have hta2:∀ w:World,(Instr.typeAssert (.iface 172 (.agg #[.int .i64 x.n])) 93 177 true).run Tryz.prog w=.ok (.tuple #[(.agg #[.int .i64 0]),.bool false]) w:=fun _=>by kernel_rfl
 have HX:Hid (∀ j:Int,j=(i:Int)+1↔∃ k:Nat,j=k/\Pl.Nx code i k):=hx
 clear hx
 go_enter Tryz.func94,Tryz.ntmps94
 go_wp2_with fail
 go_ret
 exact nx_one (Below.refl _ _) HX.out _ rfl
set_option maxRecDepth 100000 in
theorem nextOf_15 (gr gm nm g n c i:Nat) (code:List Pl.IrI) (x:Pl.IrI) (y:SV) (w:World) (c5:w.cell? ⟨gr,5,none⟩=some (.slice (some ⟨g,0,none⟩) n c)) (hin:i<n) (hn8:n<=8000) (cz:w.cell? ⟨g,i,none⟩=some (stV 15 x y)) (hx:∀ j:Int,j=(i:Int)+1↔∃ k:Nat,j=k/\Pl.Nx code i k):Calls Tryz.prog 94 #[.pointer (some ⟨gr,0,none⟩),.int .i64 (i:Int)] w fun e w'=>NxSaid w code i e w':=by
 have hii:(i:Int)<(n:Int):=by omega
 have hi8:(i:Int)<=8000:=by omega
 unfold stV at cz
 simp only at cz
 have hta0:∀ w:World,(Instr.typeAssert (.iface 179 (.agg #[.int .i64 x.a,.int .i64 x.b,.int .i64 x.n])) 93 173 true).run Tryz.prog w=.ok (.tuple #[(.agg #[.int .i64 0]),.bool false]) w:=fun _=>by kernel_rfl
 have hta1:∀ w:World,(Instr.typeAssert (.iface 179 (.agg #[.int .i64 x.a,.int .i64 x.b,.int .i64 x.n])) 93 175 true).run Tryz.prog w=.ok (.tuple #[(.agg #[.int .i64 0,.int .i64 0,.string ⟨#[]⟩,.int .i64 0]),.bool false]) w:=fun _=>by kernel_rfl
 have hta2:∀ w:World,(Instr.typeAssert (.iface 179 (.agg #[.int .i64 x.a,.int .i64 x.b,.int .i64 x.n])) 93 177 true).run Tryz.prog w=.ok (.tuple #[(.agg #[.int .i64 0]),.bool false]) w:=fun _=>by kernel_rfl
 have HX:Hid (∀ j:Int,j=(i:Int)+1↔∃ k:Nat,j=k/\Pl.Nx code i k):=hx
 clear hx
 go_enter Tryz.func94,Tryz.ntmps94
 go_wp2_with fail
 go_ret
 exact nx_one (Below.refl _ _) HX.out _ rfl
set_option maxRecDepth 100000 in
theorem nextOf_16 (gr gm nm g n c i:Nat) (code:List Pl.IrI) (x:Pl.IrI) (y:SV) (w:World) (c5:w.cell? ⟨gr,5,none⟩=some (.slice (some ⟨g,0,none⟩) n c)) (hin:i<n) (hn8:n<=8000) (cz:w.cell? ⟨g,i,none⟩=some (stV 16 x y)) (hx:∀ j:Int,j=(i:Int)+1↔∃ k:Nat,j=k/\Pl.Nx code i k):Calls Tryz.prog 94 #[.pointer (some ⟨gr,0,none⟩),.int .i64 (i:Int)] w fun e w'=>NxSaid w code i e w':=by
 have hii:(i:Int)<(n:Int):=by omega
 have hi8:(i:Int)<=8000:=by omega
 unfold stV at cz
 simp only at cz
 have hta0:∀ w:World,(Instr.typeAssert (.iface 181 (.agg #[.int .i64 x.a,.int .i64 x.n])) 93 173 true).run Tryz.prog w=.ok (.tuple #[(.agg #[.int .i64 0]),.bool false]) w:=fun _=>by kernel_rfl
 have hta1:∀ w:World,(Instr.typeAssert (.iface 181 (.agg #[.int .i64 x.a,.int .i64 x.n])) 93 175 true).run Tryz.prog w=.ok (.tuple #[(.agg #[.int .i64 0,.int .i64 0,.string ⟨#[]⟩,.int .i64 0]),.bool false]) w:=fun _=>by kernel_rfl
 have hta2:∀ w:World,(Instr.typeAssert (.iface 181 (.agg #[.int .i64 x.a,.int .i64 x.n])) 93 177 true).run Tryz.prog w=.ok (.tuple #[(.agg #[.int .i64 0]),.bool false]) w:=fun _=>by kernel_rfl
 have HX:Hid (∀ j:Int,j=(i:Int)+1↔∃ k:Nat,j=k/\Pl.Nx code i k):=hx
 clear hx
 go_enter Tryz.func94,Tryz.ntmps94
 go_wp2_with fail
 go_ret
 exact nx_one (Below.refl _ _) HX.out _ rfl
set_option maxRecDepth 100000 in
theorem nextOf_14 (gr gm nm g n c i:Nat) (code:List Pl.IrI) (x:Pl.IrI) (y:SV) (w:World) (c5:w.cell? ⟨gr,5,none⟩=some (.slice (some ⟨g,0,none⟩) n c)) (hin:i<n) (hn8:n<=8000) (cz:w.cell? ⟨g,i,none⟩=some (stV 14 x y)) (hx:∀ k:Nat,¬ Pl.Nx code i k):Calls Tryz.prog 94 #[.pointer (some ⟨gr,0,none⟩),.int .i64 (i:Int)] w fun e w'=>NxSaid w code i e w':=by
 have hii:(i:Int)<(n:Int):=by omega
 have hi8:(i:Int)<=8000:=by omega
 unfold stV at cz
 simp only at cz
 have hta0:∀ w:World,(Instr.typeAssert (.iface 177 (.agg #[.int .i64 x.a])) 93 173 true).run Tryz.prog w=.ok (.tuple #[(.agg #[.int .i64 0]),.bool false]) w:=fun _=>by kernel_rfl
 have hta1:∀ w:World,(Instr.typeAssert (.iface 177 (.agg #[.int .i64 x.a])) 93 175 true).run Tryz.prog w=.ok (.tuple #[(.agg #[.int .i64 0,.int .i64 0,.string ⟨#[]⟩,.int .i64 0]),.bool false]) w:=fun _=>by kernel_rfl
 have hta2:∀ w:World,(Instr.typeAssert (.iface 177 (.agg #[.int .i64 x.a])) 93 177 true).run Tryz.prog w=.ok (.tuple #[(.agg #[.int .i64 x.a]),.bool true]) w:=fun _=>by kernel_rfl
 have HX:Hid (∀ k:Nat,¬ Pl.Nx code i k):=hx
 clear hx
 go_enter Tryz.func94,Tryz.ntmps94
 go_wp2_with fail
 go_ret
 exact⟨⟨[],⟨by simp,fun j=>by simp;intro k _;exact HX.out k⟩,none,0,rfl,World.ownsRow_nil _ _ _ _⟩,below_alloc _ _⟩
set_option maxRecDepth 100000 in
theorem nextOf_12 (gr gm nm g n c i:Nat) (code:List Pl.IrI) (x:Pl.IrI) (y:SV) (w:World) (c5:w.cell? ⟨gr,5,none⟩=some (.slice (some ⟨g,0,none⟩) n c)) (hin:i<n) (hn8:n<=8000) (cz:w.cell? ⟨g,i,none⟩=some (stV 12 x y)) (lab:Int->Option Int) (D:DataW Unit) (q:Nat) (hm:w.ownsMap Tryz.prog 3 (plainElem Tryz.prog 3) gm nm D) (hD:LabM D lab) (c6:w.cell? ⟨gr,6,none⟩=some (.map (some gm))) (hwf:(Lit.int .i64 x.n).wf=true) (hq:lab x.n=some (q:Int)) (hx:∀ j:Int,j=(q:Int)↔∃ k:Nat,j=k/\Pl.Nx code i k):Calls Tryz.prog 94 #[.pointer (some ⟨gr,0,none⟩),.int .i64 (i:Int)] w fun e w'=>NxSaid w code i e w':=by
 have hii:(i:Int)<(n:Int):=by omega
 have hi8:(i:Int)<=8000:=by omega
 unfold stV at cz
 simp only at cz
 have hta0:∀ w:World,(Instr.typeAssert (.iface 173 (.agg #[.int .i64 x.n])) 93 173 true).run Tryz.prog w=.ok (.tuple #[(.agg #[.int .i64 x.n]),.bool true]) w:=fun _=>by kernel_rfl
 have HX:Hid (∀ j:Int,j=(q:Int)↔∃ k:Nat,j=k/\Pl.Nx code i k):=hx
 have hkey:keyOf Tryz.prog 3 (.int .i64 x.n)=some (.int .i64 x.n):=keyOf_int_mk Tryz.underlying3 hwf
 have hgm:gm<w.heap.size:=by
  obtain⟨es,cl,q1,_⟩:=hm
  exact (Array.getElem?_eq_some_iff.1 q1).1
 have HLK:Hid (∀ u:World,Below w.heap.size w u->(Instr.lookup 59 (.map (some gm)) (.int .i64 x.n) false).run Tryz.prog u=.ok (.int .i64 (q:Int)) u):=fun u hu=>by
  obtain⟨c,hrun,hat,_⟩:=(ownsMap_keepR hm hu hgm).lookup_int intLawR Tryz.underlying59 Tryz.underlying3 (zeroIR u) hkey
  have e:=hD.2.2 x.n (q:Int) hwf hq
  rw[hat]at e
  injection e with e
  injection e with e1 e2
  rw[e2]at hrun
  exact hrun
 have hgr:gr<w.heap.size:=block_lt_of_cell c6
 clear hx hm hD hq hkey
 go_enter Tryz.func94,Tryz.ntmps94
 go_upto_region 4 with fail
 obtain⟨u,hu⟩:∃ u,u=w.alloc (.cells #[.int .i64 x.n] 173):=⟨_,rfl⟩
 rw[<- hu]
 have HB:Hid (Below w.heap.size w u):=by rw[hu];exact below_alloc _ _
 have hxn:u.cell? ⟨w.heap.size,0,none⟩=some (.int .i64 x.n):=by rw[hu,cell_of_row _ w.heap.size 0 _ 173 (0,0) (heap_alloc_new w _)];rfl
 have d6:u.cell? ⟨gr,6,none⟩=some (.map (some gm)):=(HB.out.cell (p:=⟨gr,6,none⟩) hgr).trans c6
 have hlk:(Instr.lookup 59 (.map (some gm)) (.int .i64 x.n) false).run Tryz.prog u.drew=.ok (.int .i64 (q:Int)) u.drew:=HLK.out _ (Below.drew HB.out)
 have hwi:IntKind.i64.wrap ((i:Int)+1)=(i:Int)+1:=by rw[IntKind.wrap_i64];omega
 have HBD:Hid (Below w.heap.size w u.drew):=Below.drew HB.out
 clear hu c6 c5 cz
 go_region
 go_wp2_with fail
 go_ret
 exact nx_one HBD.out HX.out _ rfl
set_option maxRecDepth 100000 in
theorem nextOf_13 (gr gm nm g n c i:Nat) (code:List Pl.IrI) (x:Pl.IrI) (y:SV) (w:World) (c5:w.cell? ⟨gr,5,none⟩=some (.slice (some ⟨g,0,none⟩) n c)) (hin:i<n) (hn8:n<=8000) (cz:w.cell? ⟨g,i,none⟩=some (stV 13 x y)) (lab:Int->Option Int) (D:DataW Unit) (q:Nat) (hm:w.ownsMap Tryz.prog 3 (plainElem Tryz.prog 3) gm nm D) (hD:LabM D lab) (c6:w.cell? ⟨gr,6,none⟩=some (.map (some gm))) (hwf:(Lit.int .i64 x.n).wf=true) (hq:lab x.n=some (q:Int)) (hx:∀ j:Int,j=(i:Int)+1\/j=(q:Int)↔∃ k:Nat,j=k/\Pl.Nx code i k):Calls Tryz.prog 94 #[.pointer (some ⟨gr,0,none⟩),.int .i64 (i:Int)] w fun e w'=>NxSaid w code i e w':=by
 have hii:(i:Int)<(n:Int):=by omega
 have hi8:(i:Int)<=8000:=by omega
 unfold stV at cz
 simp only at cz
 have hta0:∀ w:World,(Instr.typeAssert (.iface 175 (.agg #[.int .i64 x.a,.int .i64 x.b,.string x.sym,.int .i64 x.n])) 93 173 true).run Tryz.prog w=.ok (.tuple #[(.agg #[.int .i64 0]),.bool false]) w:=fun _=>by kernel_rfl
 have hta1:∀ w:World,(Instr.typeAssert (.iface 175 (.agg #[.int .i64 x.a,.int .i64 x.b,.string x.sym,.int .i64 x.n])) 93 175 true).run Tryz.prog w=.ok (.tuple #[(.agg #[.int .i64 x.a,.int .i64 x.b,.string x.sym,.int .i64 x.n]),.bool true]) w:=fun _=>by kernel_rfl
 have HX:Hid (∀ j:Int,j=(i:Int)+1\/j=(q:Int)↔∃ k:Nat,j=k/\Pl.Nx code i k):=hx
 have hkey:keyOf Tryz.prog 3 (.int .i64 x.n)=some (.int .i64 x.n):=keyOf_int_mk Tryz.underlying3 hwf
 have hgm:gm<w.heap.size:=by
  obtain⟨es,cl,q1,_⟩:=hm
  exact (Array.getElem?_eq_some_iff.1 q1).1
 have HLK:Hid (∀ u:World,Below w.heap.size w u->(Instr.lookup 59 (.map (some gm)) (.int .i64 x.n) false).run Tryz.prog u=.ok (.int .i64 (q:Int)) u):=fun u hu=>by
  obtain⟨c,hrun,hat,_⟩:=(ownsMap_keepR hm hu hgm).lookup_int intLawR Tryz.underlying59 Tryz.underlying3 (zeroIR u) hkey
  have e:=hD.2.2 x.n (q:Int) hwf hq
  rw[hat]at e
  injection e with e
  injection e with e1 e2
  rw[e2]at hrun
  exact hrun
 have hgr:gr<w.heap.size:=block_lt_of_cell c6
 clear hx hm hD hq hkey
 go_enter Tryz.func94,Tryz.ntmps94
 go_upto_region 7 with fail
 obtain⟨u,hu⟩:∃ u,u=w.alloc (.cells #[.int .i64 x.a,.int .i64 x.b,.string x.sym,.int .i64 x.n] 175):=⟨_,rfl⟩
 rw[<- hu]
 have HB:Hid (Below w.heap.size w u):=by rw[hu];exact below_alloc _ _
 have hxn:u.cell? ⟨w.heap.size,3,none⟩=some (.int .i64 x.n):=by rw[hu,cell_of_row _ w.heap.size 3 _ 175 (0,0) (heap_alloc_new w _)];rfl
 have d6:u.cell? ⟨gr,6,none⟩=some (.map (some gm)):=(HB.out.cell (p:=⟨gr,6,none⟩) hgr).trans c6
 have hlk:(Instr.lookup 59 (.map (some gm)) (.int .i64 x.n) false).run Tryz.prog u.drew=.ok (.int .i64 (q:Int)) u.drew:=HLK.out _ (Below.drew HB.out)
 have hwi:IntKind.i64.wrap ((i:Int)+1)=(i:Int)+1:=by rw[IntKind.wrap_i64];omega
 have HBD:Hid (Below w.heap.size w u.drew):=Below.drew HB.out
 clear hu c6 c5 cz
 go_region
 go_wp2_with fail
 go_ret
 exact nx_two HBD.out HX.out _ rfl
theorem nextOf_is {W0:World} {gr gm nm:Nat} {f:Pl.IrF} {v s:SV} {S:Value} {Y:Nat->SV} {lab:Int->Option Int} {P:Value} {ps:List Int} {room:Int} {w:World} (h:Rt W0 gr gm nm f v s S (stepsV f Y f.code.length) lab P ps room w) (hf:Pl.funOk f) (hl:Pl.LabK f.code f.code.length lab) (hwf:∀ i,i<f.code.length->(Lit.int .i64 (f.code.getD i Pl.IrI.zero).n).wf=true) (i:Nat) (hi:i<f.code.length):Calls Tryz.prog 94 #[.pointer (some ⟨gr,0,none⟩),.int .i64 (i:Int)] w fun e w'=>NxSaid w f.code i e w':=by
 have hn8:f.code.length<=8000:=hf.1.2.2.2.1.2
 have hsl:(stepsV f Y f.code.length).length=f.code.length:=by simp[stepsV]
 have hst:=h.st
 rw[hsl]at hst
 obtain⟨g,c,rfl,_,_⟩:=hst.form (by omega)
 have c5:w.cell? ⟨gr,5,none⟩=some (.slice (some ⟨g,0,none⟩) f.code.length c):=h.cell 5
 have c6:w.cell? ⟨gr,6,none⟩=some (.map (some gm)):=h.cell 6
 obtain⟨x,hx⟩:∃ x,x=f.code.getD i Pl.IrI.zero:=⟨_,rfl⟩
 have cz:w.cell? ⟨g,i,none⟩=some (stV x.op.toNat x (Y i)):=by
  rw[hst.cellAt i (by omega)]
  unfold stepsV
  rw[List.getElem?_map,List.getElem?_range hi,hx];rfl
 obtain⟨D,hm,hD⟩:=h.map
 have hop:=((hf.2.2.1 i hi).1).1
 rw[<- hx]at hop
 have hnx:x.op≠12->x.op≠13->x.op≠14->∀ j:Int,j=(i:Int)+1↔∃ k:Nat,j=k/\Pl.Nx f.code i k:=fun h1 h2 h3 j=>by
  unfold Pl.Nx
  rw[<- hx]
  simp only[if_neg h3,if_neg h1,if_neg h2]
  constructor
  ·intro e;exact⟨i+1,by omega,rfl⟩
  ·rintro⟨k,rfl,rfl⟩; omega
 have e:x.op=1\/x.op=2\/x.op=3\/x.op=4\/x.op=5\/x.op=6\/x.op=7\/x.op=8\/x.op=9\/x.op=10\/x.op=11\/x.op=12\/x.op=13\/x.op=14\/x.op=15\/x.op=16:=by omega
 rcases e with e | e | e | e | e | e | e | e | e | e | e | e | e | e | e | e
 ·exact nextOf_1 gr gm nm g _ c i f.code x (Y i) w c5 hi hn8 (by rw[e]at cz;exact cz) (hnx (by omega) (by omega) (by omega))
 ·exact nextOf_2 gr gm nm g _ c i f.code x (Y i) w c5 hi hn8 (by rw[e]at cz;exact cz) (hnx (by omega) (by omega) (by omega))
 ·exact nextOf_3 gr gm nm g _ c i f.code x (Y i) w c5 hi hn8 (by rw[e]at cz;exact cz) (hnx (by omega) (by omega) (by omega))
 ·exact nextOf_4 gr gm nm g _ c i f.code x (Y i) w c5 hi hn8 (by rw[e]at cz;exact cz) (hnx (by omega) (by omega) (by omega))
 ·exact nextOf_5 gr gm nm g _ c i f.code x (Y i) w c5 hi hn8 (by rw[e]at cz;exact cz) (hnx (by omega) (by omega) (by omega))
 ·exact nextOf_6 gr gm nm g _ c i f.code x (Y i) w c5 hi hn8 (by rw[e]at cz;exact cz) (hnx (by omega) (by omega) (by omega))
 ·exact nextOf_7 gr gm nm g _ c i f.code x (Y i) w c5 hi hn8 (by rw[e]at cz;exact cz) (hnx (by omega) (by omega) (by omega))
 ·exact nextOf_8 gr gm nm g _ c i f.code x (Y i) w c5 hi hn8 (by rw[e]at cz;exact cz) (hnx (by omega) (by omega) (by omega))
 ·exact nextOf_9 gr gm nm g _ c i f.code x (Y i) w c5 hi hn8 (by rw[e]at cz;exact cz) (hnx (by omega) (by omega) (by omega))
 ·exact nextOf_10 gr gm nm g _ c i f.code x (Y i) w c5 hi hn8 (by rw[e]at cz;exact cz) (hnx (by omega) (by omega) (by omega))
 ·exact nextOf_11 gr gm nm g _ c i f.code x (Y i) w c5 hi hn8 (by rw[e]at cz;exact cz) (hnx (by omega) (by omega) (by omega))
 ·obtain⟨q,hq,hq2,hqk⟩:=Pl.lab_nx hf hl hi (by rw[<- hx];exact .inl e)
  refine nextOf_12 gr gm nm g _ c i f.code x (Y i) w c5 hi hn8 (by rw[e]at cz;exact cz) lab D q hm hD c6 (by rw[hx];exact hwf i hi) (by rw[hx];exact hq) (fun j=>?_)
  unfold Pl.Nx
  rw[<- hx]
  simp only[if_neg (show ¬ x.op=14 by omega),if_pos e]
  rw[hx]
  constructor
  ·intro e;exact⟨q,e,(hqk q).2 rfl⟩
  ·rintro⟨k,rfl,hk⟩; rw[(hqk k).1 hk]
 ·obtain⟨q,hq,hq2,hqk⟩:=Pl.lab_nx hf hl hi (by rw[<- hx];exact .inr e)
  refine nextOf_13 gr gm nm g _ c i f.code x (Y i) w c5 hi hn8 (by rw[e]at cz;exact cz) lab D q hm hD c6 (by rw[hx];exact hwf i hi) (by rw[hx];exact hq) (fun j=>?_)
  unfold Pl.Nx
  rw[<- hx]
  simp only[if_neg (show ¬ x.op=14 by omega),if_neg (show ¬ x.op=12 by omega),if_pos e]
  rw[hx]
  constructor
  ·rintro (e | e)
   ·exact⟨i+1,by omega,.inl rfl⟩
   ·exact⟨q,e,.inr ((hqk q).2 rfl)⟩
  ·rintro⟨k,rfl,rfl | hk⟩
   ·exact .inl (by omega)
   ·exact .inr (by rw[(hqk k).1 hk])
 ·exact nextOf_14 gr gm nm g _ c i f.code x (Y i) w c5 hi hn8 (by rw[e]at cz;exact cz) (fun k q=>by unfold Pl.Nx at q;rw[<- hx,if_pos e]at q;exact q)
 ·exact nextOf_15 gr gm nm g _ c i f.code x (Y i) w c5 hi hn8 (by rw[e]at cz;exact cz) (hnx (by omega) (by omega) (by omega))
 ·exact nextOf_16 gr gm nm g _ c i f.code x (Y i) w c5 hi hn8 (by rw[e]at cz;exact cz) (hnx (by omega) (by omega) (by omega))
open Go.RowKit
noncomputable def nlC (n:Nat):Code:=((Tryz.f62.body.bind (codeAtL n)).getD .skip)
def NapW (y:World) (go i:Nat) (a:Option Addr) (m c:Nat) (x:Int) (lo:Nat) (xs:List Value) (H G cp:Nat) (L:Array Bool) (w:World):Prop:=
 (up L 13=false->w=y)/\(up L 13=true->up L 14=false->H=y.heap.size/\w=y.alloc (.cells #[.int .i64 x] 108))/\(up L 14=true->∃ w2:World,w2.ownsRow lo 108 1 (.slice (some ⟨G,0,none⟩) (m+1) cp) (m+1) (xs ++ [.int .i64 x])/\(y.alloc (.cells #[.int .i64 x] 108)).grownBy w2 (Value.slice a m c).ownBlock/\((Value.slice a m c).ownBlock=some G\/y.heap.size<=G)/\(up L 16=false->w=w2)/\(up L 16=true->w=w2.setCell ⟨go,i,none⟩ (.slice (some ⟨G,0,none⟩) (m+1) cp)))
theorem NapW.keep {y:World} {go i:Nat} {a:Option Addr} {m c:Nat} {x:Int} {lo:Nat} {xs:List Value} {H G cp:Nat} {L:Array Bool} {w:World} (h:NapW y go i a m c x lo xs H G cp L w) {q:Nat} (hq:q<L.size) (n1:q≠13) (n2:q≠14) (n3:q≠16):NapW y go i a m c x lo xs H G cp (L.setIfInBounds q true) w:=by
 unfold NapW at h ⊢
 rw[up_set hq,up_set hq,up_set hq,if_neg n1,if_neg n2,if_neg n3]
 exact h
theorem NapW.early {y:World} {go i:Nat} {a:Option Addr} {m c:Nat} {x:Int} {lo:Nat} {xs:List Value} {H G cp:Nat} {L:Array Bool} {w:World} (h:NapW y go i a m c x lo xs H G cp L w) (nn:up L 14=false) {g q:Nat} {v:Value} (hc:y.cell? ⟨g,q,none⟩=some v):w.cell? ⟨g,q,none⟩=some v:=by
 cases e:up L 13
 ·rw[h.1 e];exact hc
 ·rw[(h.2.1 e nn).2];exact below_cell (below_alloc _ _) hc
theorem NapW.any {y:World} {go i:Nat} {a:Option Addr} {m c:Nat} {x:Int} {lo:Nat} {xs:List Value} {H G cp:Nat} {L:Array Bool} {w:World} (h:NapW y go i a m c x lo xs H G cp L w) (nn:up L 16=false) {g q:Nat} {v:Value} (hne:(Value.slice a m c).ownBlock≠some g) (hc:y.cell? ⟨g,q,none⟩=some v):w.cell? ⟨g,q,none⟩=some v:=by
 cases e:up L 14
 ·exact h.early e hc
 ·obtain⟨w2,_,h2,_,h4,_⟩:=h.2.2 e
  rw[h4 nn]
  have hb:g<y.heap.size:=block_lt_of_cell hc
  have hc2:=below_cell (below_alloc y (.cells #[.int .i64 x] 108)) hc
  rw[<- hc2]
  simp only[World.cell?]
  rw[h2.block g (by simp;omega) (fun q=>hne q.symm)]
def Na9Mk (gl go k i:Nat) (a:Option Addr) (m c:Nat) (x:Int) (c0 c1 c2 c4 c5 c7 c9 c10 c11 c12 c13 c14 c15 c16 c17 c18 c19 c20 c21 c22 c23 c24 c25 c26 c27 c28 c29 c30 c31 c32 c33 c34 c35 c36 c37 c38 c39 c40 c41 c42 c43 c44 c45 c46 c47 c48 c49 c50 c51 c52 c53 c54 c55 c56 c57 c58 c59 c60 c61 c62 c63 c64 c65 c66 c67 c68 c69 c70 c71 c72 c73 c74 c75 c76 c77 c78 c79 c80 c81 c82 c83 c84 c85 c86 c87 c88 c89 c90 c91 c92 c93 c94 c95 c96 c97 c98 c99 c100 c101 c102 c103 c104 c105 c106 c107 c108 c109 c110 c111 c112 c113 c114 c115 c116 c117 c118 c119 c120 c121 c122 c123 c124 c125 c126 c127 c128 c129 c130 c131 c132:Value) (H G cp:Nat) (L:Array Bool):Act:={ tmps:=#[c0,c1,c2,.pointer (some ⟨gl,0,none⟩),c4,c5,.int .i64 x,c7,.int .i64 (i:Int),c9,c10,c11,c12,c13,c14,c15,c16,c17,c18,c19,c20,c21,c22,c23,c24,c25,c26,c27,c28,c29,c30,c31,c32,c33,c34,c35,c36,c37,c38,c39,c40,c41,c42,c43,c44,c45,c46,c47,c48,c49,c50,c51,c52,c53,c54,c55,c56,c57,c58,sld c59 L 0 (.pointer (some ⟨gl,0,none⟩)),sld c60 L 1 (.pointer (some ⟨gl,0,none⟩)),sld c61 L 2 (.pointer (some ⟨gl,0,none⟩)),sld c62 L 3 (.slice (some ⟨go,0,none⟩) k k),sld c63 L 4 (.int .i64 (i:Int)),sld c64 L 5 (.pointer (some ⟨gl,0,none⟩)),sld c65 L 6 (.pointer (some ⟨gl,0,none⟩)),sld c66 L 7 (.pointer (some ⟨gl,0,none⟩)),sld c67 L 8 (.slice (some ⟨go,0,none⟩) k k),sld c68 L 9 (.int .i64 (i:Int)),sld c69 L 10 (.pointer (some ⟨go,i,none⟩)),sld c70 L 11 (.slice a m c),sld c71 L 12 (.int .i64 x),sld c72 L 13 (.slice (some ⟨H,0,none⟩) 1 1),sld c73 L 14 (.slice (some ⟨G,0,none⟩) (m+1) cp),sld c74 L 15 (.pointer (some ⟨go,i,none⟩)),c75,c76,c77,c78,c79,c80,c81,c82,c83,c84,c85,c86,c87,c88,c89,c90,c91,c92,c93,c94,c95,c96,c97,c98,c99,c100,c101,c102,c103,c104,c105,c106,c107,c108,c109,c110,c111,c112,c113,c114,c115,c116,c117,c118,c119,c120,c121,c122,c123,c124,c125,c126,c127,c128,c129,c130,c131,c132],defers:=[] }
set_option maxRecDepth 100000 in
theorem nl9_is {W0 y:World} {gl gb gs gu gt n R:Nat} {B U S:Gd} {ss:List Int} {T:Nat->Nat} (h:Lv W0 y gl gb gs gu gt n R B U S ss T) (i:Nat) (hi:i<n) (hk8:n<=8000) (x:Int) (hlen:(B.L i).length<=1000000) (c0 c1 c2 c4 c5 c7 c9 c10 c11 c12 c13 c14 c15 c16 c17 c18 c19 c20 c21 c22 c23 c24 c25 c26 c27 c28 c29 c30 c31 c32 c33 c34 c35 c36 c37 c38 c39 c40 c41 c42 c43 c44 c45 c46 c47 c48 c49 c50 c51 c52 c53 c54 c55 c56 c57 c58 c59 c60 c61 c62 c63 c64 c65 c66 c67 c68 c69 c70 c71 c72 c73 c74 c75 c76 c77 c78 c79 c80 c81 c82 c83 c84 c85 c86 c87 c88 c89 c90 c91 c92 c93 c94 c95 c96 c97 c98 c99 c100 c101 c102 c103 c104 c105 c106 c107 c108 c109 c110 c111 c112 c113 c114 c115 c116 c117 c118 c119 c120 c121 c122 c123 c124 c125 c126 c127 c128 c129 c130 c131 c132:Value) (Q:Exit->Act->World->Prop)
  (hK:∀ (s59 s60 s61 s62 s63 s64 s65 s66 s67 s68 s69 s70 s71 s72 s73 s74:Value) (g c:Nat) (T':Nat->Nat) (y':World),Lv W0 y' gl gb gs gu gt n R (B.put i g c x) U S ss T'->Kp T T' y y'->Q .normal { tmps:=#[c0,c1,c2,.pointer (some ⟨gl,0,none⟩),c4,c5,.int .i64 x,c7,.int .i64 (i:Int),c9,c10,c11,c12,c13,c14,c15,c16,c17,c18,c19,c20,c21,c22,c23,c24,c25,c26,c27,c28,c29,c30,c31,c32,c33,c34,c35,c36,c37,c38,c39,c40,c41,c42,c43,c44,c45,c46,c47,c48,c49,c50,c51,c52,c53,c54,c55,c56,c57,c58,s59,s60,s61,s62,s63,s64,s65,s66,s67,s68,s69,s70,s71,s72,s73,s74,c75,c76,c77,c78,c79,c80,c81,c82,c83,c84,c85,c86,c87,c88,c89,c90,c91,c92,c93,c94,c95,c96,c97,c98,c99,c100,c101,c102,c103,c104,c105,c106,c107,c108,c109,c110,c111,c112,c113,c114,c115,c116,c117,c118,c119,c120,c121,c122,c123,c124,c125,c126,c127,c128,c129,c130,c131,c132],defers:=[] } y') :
  (nlC 9).wp Tryz.prog Q { tmps:=#[c0,c1,c2,.pointer (some ⟨gl,0,none⟩),c4,c5,.int .i64 x,c7,.int .i64 (i:Int),c9,c10,c11,c12,c13,c14,c15,c16,c17,c18,c19,c20,c21,c22,c23,c24,c25,c26,c27,c28,c29,c30,c31,c32,c33,c34,c35,c36,c37,c38,c39,c40,c41,c42,c43,c44,c45,c46,c47,c48,c49,c50,c51,c52,c53,c54,c55,c56,c57,c58,c59,c60,c61,c62,c63,c64,c65,c66,c67,c68,c69,c70,c71,c72,c73,c74,c75,c76,c77,c78,c79,c80,c81,c82,c83,c84,c85,c86,c87,c88,c89,c90,c91,c92,c93,c94,c95,c96,c97,c98,c99,c100,c101,c102,c103,c104,c105,c106,c107,c108,c109,c110,c111,c112,c113,c114,c115,c116,c117,c118,c119,c120,c121,c122,c123,c124,c125,c126,c127,c128,c129,c130,c131,c132],defers:=[] } y:=by
 have HKt:Hid _:=hK
 clear hK
 conv=>arg 2;whnf
 dsimp only
 obtain⟨i0,hi0,hz0,hz1,hz2⟩:=info_parts Tryz.infostL
 have hd:=h.later (Below.drew (Below.refl y.heap.size y))
 have HL:Hid (Lv W0 y.drew gl gb gs gu gt n R B U S ss T):=hd
 obtain⟨k,hkk⟩:∃ k,k=n:=⟨_,rfl⟩
 obtain⟨go,hgo⟩:∃ go,go=gb:=⟨_,rfl⟩
 have dF:y.drew.cell? ⟨gl,0,none⟩=some (.slice (some ⟨go,0,none⟩) k k):=by rw[hkk,hgo];exact hd.cell 0
 have hrc:y.drew.cell? ⟨go,i,none⟩=some (B.V i):=by rw[hgo];exact hd.rb.cell hi
 obtain⟨a,ha⟩:∃ a,a=B.A i:=⟨_,rfl⟩
 obtain⟨m,hm⟩:∃ m,m=(B.L i).length:=⟨_,rfl⟩
 obtain⟨c,hc⟩:∃ c,c=B.C i:=⟨_,rfl⟩
 have hV:B.V i=.slice a m c:=by rw[ha,hm,hc];rfl
 have HVV:Hid (B.V i=.slice a m c/\m=(B.L i).length/\go=gb/\k=n):=⟨hV,hm,hgo,hkk⟩
 have dR:y.drew.cell? ⟨go,i,none⟩=some (.slice a m c):=by rw[<- hV];exact hrc
 have dO:=dR
 obtain⟨xs,hxs⟩:∃ xs,xs=B.L i:=⟨_,rfl⟩
 have HXS:Hid (xs=B.L i):=hxs
 have HO:Hid (y.drew.ownsRow W0.heap.size 108 1 (.slice a m c) m xs):=by rw[ha,hm,hc,hxs];exact hd.rb.nr i hi
 have HBL:Hid (Below W0.heap.size W0 y.drew):=hd.bel
 have HNO:Hid ((Value.slice a m c).ownBlock≠some go):=by rw[<- hV,hgo];exact hd.rb.ne hi
 have HNE:Hid ((Value.slice a m c).ownBlock≠some gl):=by
  rw[<- hV]
  intro e
  have e1:=hd.rb.tn i hi gl e
  rw[hd.tb]at e1
  omega
 have HFZ:Hid (∀ w:World,(y.drew.alloc (.cells #[.int .i64 x] 108)).grownBy w (Value.slice a m c).ownBlock->w.frozen? ⟨go,i,none⟩=false):=fun w hg=>by
  have o1:=(hd.rb.oo)
  rw[<- hgo]at o1
  have hgl:=(o1.lt go rfl).2
  have o2:=own_eqL o1 (w':=w) fun g hq=>by
   simp only[Value.ownBlock,Option.some.injEq]at hq
   subst hq
   rw[hg.block go (by simp;exact Nat.lt_succ_of_lt hgl) (fun q=>HNO.out q.symm)]
   exact (below_alloc _ _).block go hgl
  exact o2.frozenAt i
 have him:m<=1000000:=by rw[hm];exact hlen
 have hik:(i:Int)<(k:Int):=by rw[hkk];omega
 have hi8:(i:Int)<=8000:=by omega
 clear hd h hrc hV ha hc hm hxs hgo hkk hlen
 refine wp_region_any (by kernel_rfl) ?_
 change wpAny _ _ _ _ _ _ _ (World.drew _)
 refine wpAny_inw (fun L ac w=>∃ H G cp,ac=Na9Mk gl go k i a m c x c0 c1 c2 c4 c5 c7 c9 c10 c11 c12 c13 c14 c15 c16 c17 c18 c19 c20 c21 c22 c23 c24 c25 c26 c27 c28 c29 c30 c31 c32 c33 c34 c35 c36 c37 c38 c39 c40 c41 c42 c43 c44 c45 c46 c47 c48 c49 c50 c51 c52 c53 c54 c55 c56 c57 c58 c59 c60 c61 c62 c63 c64 c65 c66 c67 c68 c69 c70 c71 c72 c73 c74 c75 c76 c77 c78 c79 c80 c81 c82 c83 c84 c85 c86 c87 c88 c89 c90 c91 c92 c93 c94 c95 c96 c97 c98 c99 c100 c101 c102 c103 c104 c105 c106 c107 c108 c109 c110 c111 c112 c113 c114 c115 c116 c117 c118 c119 c120 c121 c122 c123 c124 c125 c126 c127 c128 c129 c130 c131 c132 H G cp L/\NapW y.drew go i a m c x W0.heap.size xs H G cp L w) ?done (by kernel_rfl) ?step _ 17 _ _ (by kernel_rfl) ?init (by decide)
 case init=>exact⟨0,0,0,by simp only[Na9Mk,sld_no (up_init _ _)],fun _=>rfl,fun z=>absurd (z.symm.trans (up_init _ _)) (by decide),fun z=>absurd (z.symm.trans (up_init _ _)) (by decide)⟩
 case step=>
  intro L act w i o hI hlt hs nl hC hd ho K hK
  obtain⟨H,G,cp,rfl,hW⟩:=hI
  have hi_lt:i<17:=(Array.getElem?_eq_some_iff.1 ho).1
  rcases (show i=0\/i=1\/i=2\/i=3\/i=4\/i=5\/i=6\/i=7\/i=8\/i=9\/i=10\/i=11\/i=12\/i=13\/i=14\/i=15\/i=16 by omega) with rfl | rfl | rfl | rfl | rfl | rfl | rfl | rfl | rfl | rfl | rfl | rfl | rfl | rfl | rfl | rfl | rfl
  ·change some _=some o at ho
   cases ho
   simp only[Na9Mk]
   go_simp
   exact hK _ _ ⟨H,G,cp,by simp only[Na9Mk,sld_set hlt,reduceIte,Nat.reduceEqDiff];try rfl,(hW.keep hlt (by decide) (by decide) (by decide))⟩
  ·change some _=some o at ho
   cases ho
   have q0:up L 0=true:=hd { on:=0,ground:=.data } (by simp) rfl
   simp only[Na9Mk,sld_yes q0]
   go_simp
   exact hK _ _ ⟨H,G,cp,by simp only[Na9Mk,sld_set hlt,sld_yes q0,reduceIte,Nat.reduceEqDiff];try rfl,(hW.keep hlt (by decide) (by decide) (by decide))⟩
  ·change some _=some o at ho
   cases ho
   have q1:up L 1=true:=hd { on:=1,ground:=.data } (by simp) rfl
   simp only[Na9Mk,sld_yes q1]
   go_simp
   exact hK _ _ ⟨H,G,cp,by simp only[Na9Mk,sld_set hlt,sld_yes q1,reduceIte,Nat.reduceEqDiff];try rfl,(hW.keep hlt (by decide) (by decide) (by decide))⟩
  ·change some _=some o at ho
   cases ho
   have q2:up L 2=true:=hd { on:=2,ground:=.data } (by simp) rfl
   have n16:up L 16=false:=hC.no (hC.no nl 15 rfl (by kernel_rfl)) 16 rfl (by kernel_rfl)
   have cx:=hW.any n16 HNE.out dF
   simp only[Na9Mk,sld_yes q2]
   go_simp
   exact hK _ _ ⟨H,G,cp,by simp only[Na9Mk,sld_set hlt,sld_yes q2,reduceIte,Nat.reduceEqDiff];try rfl,(hW.keep hlt (by decide) (by decide) (by decide))⟩
  ·change some _=some o at ho
   cases ho
   simp only[Na9Mk]
   go_simp
   exact hK _ _ ⟨H,G,cp,by simp only[Na9Mk,sld_set hlt,reduceIte,Nat.reduceEqDiff];try rfl,(hW.keep hlt (by decide) (by decide) (by decide))⟩
  ·change some _=some o at ho
   cases ho
   simp only[Na9Mk]
   go_simp
   exact hK _ _ ⟨H,G,cp,by simp only[Na9Mk,sld_set hlt,reduceIte,Nat.reduceEqDiff];try rfl,(hW.keep hlt (by decide) (by decide) (by decide))⟩
  ·change some _=some o at ho
   cases ho
   have q5:up L 5=true:=hd { on:=5,ground:=.data } (by simp) rfl
   simp only[Na9Mk,sld_yes q5]
   go_simp
   exact hK _ _ ⟨H,G,cp,by simp only[Na9Mk,sld_set hlt,sld_yes q5,reduceIte,Nat.reduceEqDiff];try rfl,(hW.keep hlt (by decide) (by decide) (by decide))⟩
  ·change some _=some o at ho
   cases ho
   have q6:up L 6=true:=hd { on:=6,ground:=.data } (by simp) rfl
   simp only[Na9Mk,sld_yes q6]
   go_simp
   exact hK _ _ ⟨H,G,cp,by simp only[Na9Mk,sld_set hlt,sld_yes q6,reduceIte,Nat.reduceEqDiff];try rfl,(hW.keep hlt (by decide) (by decide) (by decide))⟩
  ·change some _=some o at ho
   cases ho
   have q7:up L 7=true:=hd { on:=7,ground:=.data } (by simp) rfl
   have n10:up L 10=false:=hC.no nl 10 rfl (by kernel_rfl)
   have n11:up L 11=false:=hC.no n10 11 rfl (by kernel_rfl)
   have n14:up L 14=false:=hC.no n11 14 rfl (by kernel_rfl)
   have cx:=hW.early n14 dF
   simp only[Na9Mk,sld_yes q7]
   go_simp
   exact hK _ _ ⟨H,G,cp,by simp only[Na9Mk,sld_set hlt,sld_yes q7,reduceIte,Nat.reduceEqDiff];try rfl,(hW.keep hlt (by decide) (by decide) (by decide))⟩
  ·change some _=some o at ho
   cases ho
   simp only[Na9Mk]
   go_simp
   exact hK _ _ ⟨H,G,cp,by simp only[Na9Mk,sld_set hlt,reduceIte,Nat.reduceEqDiff];try rfl,(hW.keep hlt (by decide) (by decide) (by decide))⟩
  ·change some _=some o at ho
   cases ho
   have q8:up L 8=true:=hd { on:=8,ground:=.data } (by simp) rfl
   have q9:up L 9=true:=hd { on:=9,ground:=.data } (by simp) rfl
   simp only[Na9Mk,sld_yes q8,sld_yes q9]
   go_simp
   exact hK _ _ ⟨H,G,cp,by simp only[Na9Mk,sld_set hlt,sld_yes q8,sld_yes q9,reduceIte,Nat.reduceEqDiff];try rfl,(hW.keep hlt (by decide) (by decide) (by decide))⟩
  ·change some _=some o at ho
   cases ho
   have q10:up L 10=true:=hd { on:=10,ground:=.data } (by simp) rfl
   have n14:up L 14=false:=hC.no nl 14 rfl (by kernel_rfl)
   have cx:=hW.early n14 dR
   simp only[Na9Mk,sld_yes q10]
   go_simp
   exact hK _ _ ⟨H,G,cp,by simp only[Na9Mk,sld_set hlt,sld_yes q10,reduceIte,Nat.reduceEqDiff];try rfl,(hW.keep hlt (by decide) (by decide) (by decide))⟩
  ·change some _=some o at ho
   cases ho
   simp only[Na9Mk]
   go_simp
   exact hK _ _ ⟨H,G,cp,by simp only[Na9Mk,sld_set hlt,reduceIte,Nat.reduceEqDiff];try rfl,(hW.keep hlt (by decide) (by decide) (by decide))⟩
  ·change some _=some o at ho
   cases ho
   have q12:up L 12=true:=hd { on:=12,ground:=.data } (by simp) rfl
   have n14:up L 14=false:=hC.no nl 14 rfl (by kernel_rfl)
   obtain rfl:=hW.1 nl
   simp only[Na9Mk,sld_yes q12]
   go_simp
   exact hK _ _ ⟨y.drew.heap.size,G,cp,by simp only[Na9Mk,sld_set hlt,sld_yes q12,reduceIte,Nat.reduceEqDiff];try rfl,⟨fun z=>absurd (z.symm.trans ((up_set hlt _).trans (if_pos rfl))) (by decide),fun _ _=>⟨rfl,rfl⟩,fun z=>absurd (z.symm.trans ((up_set hlt 14).trans n14)) (by decide)⟩⟩
  ·change some _=some o at ho
   cases ho
   have q11:up L 11=true:=hd { on:=11,ground:=.data } (by simp) rfl
   have q13:up L 13=true:=hd { on:=13,ground:=.data } (by simp) rfl
   have n16:up L 16=false:=hC.no nl 16 rfl (by kernel_rfl)
   obtain⟨rfl,rfl⟩:=hW.2.1 q13 nl
   have hown0:=own_keepI HO.out (below_alloc y.drew (.cells #[.int .i64 x] 108))
   simp only[Na9Mk,sld_yes q11,sld_yes q13]
   rw[if_pos (by rfl)]
   refine wp_append_lies _ (.tmp 70) (.tmp 72) 119 (by rfl) W0.heap.size 108 i0 (.int .i64 0) 1 8 Tryz.underlying119 hi0 hz0 hz1 hz2 rfl (by decide) (.slice a m c) m xs (by rfl) hown0 ⟨y.drew.heap.size,0,none⟩ 1 1 [.int .i64 x] (by rfl) rfl (World.news_of_block (heap_alloc_new y.drew (.cells #[.int .i64 x] 108))) (by intro z hz;simp at hz;subst hz;rfl) (by decide) (by unfold maxLen;omega) (by omega) (Nat.le_trans HBL.out.size (below_alloc y.drew _).size) _ rfl ?_
   intro G' cp' w2 hown1 hgrow hat hlt1
   exact hK _ _ ⟨y.drew.heap.size,G',cp',by simp only[Na9Mk,sld_set hlt,sld_yes q11,sld_yes q13,reduceIte,Nat.reduceEqDiff];try rfl,⟨fun z=>absurd (z.symm.trans ((up_set hlt 13).trans q13)) (by decide),fun _ z=>absurd (z.symm.trans ((up_set hlt _).trans (if_pos rfl))) (by decide),fun _=>⟨w2,hown1,hgrow,by (rcases hat with e | e;exact .inl e;exact .inr (by rw[e];simp)),fun _=>rfl,fun z=>absurd (z.symm.trans ((up_set hlt 16).trans n16)) (by decide)⟩⟩⟩
  ·change some _=some o at ho
   cases ho
   have q3:up L 3=true:=hd { on:=3,ground:=.data } (by simp) rfl
   have q4:up L 4=true:=hd { on:=4,ground:=.data } (by simp) rfl
   simp only[Na9Mk,sld_yes q3,sld_yes q4]
   go_simp
   exact hK _ _ ⟨H,G,cp,by simp only[Na9Mk,sld_set hlt,sld_yes q3,sld_yes q4,reduceIte,Nat.reduceEqDiff];try rfl,(hW.keep hlt (by decide) (by decide) (by decide))⟩
  ·change some _=some o at ho
   cases ho
   have q14:up L 14=true:=hd { on:=14,ground:=.data } (by simp) rfl
   have q15:up L 15=true:=hd { on:=15,ground:=.data } (by simp) rfl
   have q13:up L 13=true:=hC 14 _ rfl q14 { on:=13,ground:=.data } (by simp) rfl
   have cx:=hW.any nl HNO.out dO
   obtain⟨w2,y1,y2,y3,y5,_⟩:=hW.2.2 q14
   obtain rfl:=y5 nl
   have fx:=HFZ.out w y2
   simp only[Na9Mk,sld_yes q14,sld_yes q15]
   go_simp
   exact hK _ _ ⟨H,G,cp,by simp only[Na9Mk,sld_set hlt,sld_yes q14,sld_yes q15,reduceIte,Nat.reduceEqDiff];try rfl,⟨fun z=>absurd (z.symm.trans ((up_set hlt 13).trans q13)) (by decide),fun _ z=>absurd (z.symm.trans ((up_set hlt 14).trans q14)) (by decide),fun _=>⟨w,y1,y2,y3,fun z=>absurd (z.symm.trans ((up_set hlt _).trans (if_pos rfl))) (by decide),fun _=>rfl⟩⟩⟩
 case done=>
  rintro L ac w ⟨H,G,cp,rfl,hW⟩ hall
  obtain⟨w2,y1,y2,y3,_,y5⟩:=hW.2.2 (hall 14 (by decide))
  obtain rfl:=y5 (hall 16 (by decide))
  simp only[Na9Mk,sld_yes (hall 0 (by decide)),sld_yes (hall 1 (by decide)),sld_yes (hall 2 (by decide)),sld_yes (hall 3 (by decide)),sld_yes (hall 4 (by decide)),sld_yes (hall 5 (by decide)),sld_yes (hall 6 (by decide)),sld_yes (hall 7 (by decide)),sld_yes (hall 8 (by decide)),sld_yes (hall 9 (by decide)),sld_yes (hall 10 (by decide)),sld_yes (hall 11 (by decide)),sld_yes (hall 12 (by decide)),sld_yes (hall 13 (by decide)),sld_yes (hall 14 (by decide)),sld_yes (hall 15 (by decide))]
  obtain⟨hV,hm,hgo,hkk⟩:=HVV.out
  have hxs:=HXS.out
  subst hxs hm hgo hkk
  rw[<- hV]at y2 y3
  refine HKt.out _ _ _ _ _ _ _ _ _ _ _ _ _ _ _ _ G cp _ _ (HL.out.app_b hi (below_alloc y.drew _) y1 y2 y3) ⟨?_,fun g hg=>⟨newT_old hg,HL.out.far_b hi (below_alloc y.drew _) y2 hg⟩⟩
  have e:=y2.size
  simp at e ⊢
  omega
theorem Tryz.infostsL:(Tryz.prog.info? 119).map (fun i=>(i.zero,i.size,i.bytes))=some (some (.slice none 0 0),1,24):=by kernel_rfl
theorem up_old {L:Array Bool} {k j:Nat} (z:up (L.setIfInBounds k true) j=true) (hk:k<L.size) (hne:k≠j):up L j=true:=by rw[up_set hk,if_neg hne]at z;exact z
def Nl1Mk (gr g n c R:Nat) (H1 H2 H3 H4 H5 H6:Nat) (T:Nat->Nat) (L:Array Bool):Act:={ tmps:=#[.pointer (some ⟨gr,0,none⟩),undef,.pointer none,sld undef L 27 (.pointer (some ⟨H6,0,none⟩)),undef,undef,undef,undef,undef,undef,undef,undef,undef,sld undef L 0 (.pointer (some ⟨gr,0,none⟩)),sld undef L 1 (.pointer (some ⟨gr,0,none⟩)),sld undef L 2 (.pointer (some ⟨gr,5,none⟩)),sld undef L 3 (.slice (some ⟨g,0,none⟩) n c),sld undef L 4 (.int .i64 (n:Int)),sld undef L 5 (.slice (some ⟨H1,0,none⟩) n n),sld undef L 6 (.slice (some ⟨H2,0,none⟩) 1 1),sld undef L 7 (.pointer (some ⟨gr,0,none⟩)),sld undef L 8 (.pointer (some ⟨gr,0,none⟩)),sld undef L 9 (.pointer (some ⟨gr,5,none⟩)),sld undef L 10 (.slice (some ⟨g,0,none⟩) n c),sld undef L 11 (.int .i64 (n:Int)),sld undef L 12 (.slice (some ⟨H3,0,none⟩) n n),sld undef L 13 (.pointer (some ⟨gr,0,none⟩)),sld undef L 14 (.pointer (some ⟨gr,0,none⟩)),sld undef L 15 (.pointer (some ⟨gr,0,none⟩)),sld undef L 16 (.pointer (some ⟨gr,2,none⟩)),sld undef L 17 (.int .i64 (R:Int)),sld undef L 18 (.slice (some ⟨H4,0,none⟩) R R),sld undef L 19 (.pointer (some ⟨gr,0,none⟩)),sld undef L 20 (.pointer (some ⟨gr,0,none⟩)),sld undef L 21 (.pointer (some ⟨gr,0,none⟩)),sld undef L 22 (.pointer (some ⟨gr,2,none⟩)),sld undef L 23 (.int .i64 (R:Int)),sld undef L 24 (.slice (some ⟨H5,0,none⟩) R R),sld undef L 25 (.agg #[.slice (some ⟨H1,0,none⟩) n n,.slice (some ⟨H3,0,none⟩) n n,.slice (some ⟨H4,0,none⟩) R R,.slice (some ⟨H5,0,none⟩) R R]),sld undef L 26 (.pointer (some ⟨H6,0,none⟩)),undef,undef,undef,undef,undef,undef,undef,undef,undef,undef,undef,undef,undef,undef,undef,undef,undef,undef,undef,undef,undef,undef,undef,undef,undef,undef,undef,undef,undef,undef,undef,undef,undef,undef,undef,undef,undef,undef,undef,undef,undef,undef,undef,undef,undef,undef,undef,undef,undef,undef,undef,undef,undef,undef,undef,undef,undef,undef,undef,undef,undef,undef,undef,undef,undef,undef,undef,undef,undef,undef,undef,undef,undef,undef,undef,undef,undef,undef,undef,undef,undef,undef,undef,undef,undef,undef,undef,undef,undef,undef,undef,undef,undef],defers:=[] }
structure N1W (y:World) (n R H1 H2 H3 H4 H5 H6:Nat) (T:Nat->Nat) (L:Array Bool) (w:World):Prop where
 bel:Below y.heap.size y w
 p5:up L 5=true->w.ownsRow y.heap.size 119 1 (.slice (some ⟨H1,0,none⟩) n n) n (List.replicate n (.slice none 0 0))/\T H1=1
 p6:up L 6=true->w.cell? ⟨H2,0,none⟩=some (.int .i64 (-1))
 p12:up L 12=true->w.ownsRow y.heap.size 3 1 (.slice (some ⟨H3,0,none⟩) n n) n (List.replicate n (.int .i64 (-1)))/\T H3=7
 p18:up L 18=true->w.ownsRow y.heap.size 119 1 (.slice (some ⟨H4,0,none⟩) R R) R (List.replicate R (.slice none 0 0))/\T H4=3
 p24:up L 24=true->w.ownsRow y.heap.size 119 1 (.slice (some ⟨H5,0,none⟩) R R) R (List.replicate R (.slice none 0 0))/\T H5=5
 p26:up L 26=true->w.heap[H6]?=some (.cells (LvC H1 H3 H4 H5 n R) 122 (0,0))/\y.heap.size<=H6/\T H6=0
theorem N1W.later {y:World} {n R H1 H2 H3 H4 H5 H6:Nat} {T:Nat->Nat} {L:Array Bool} {w:World} {w':World} {T':Nat->Nat} (h:N1W y n R H1 H2 H3 H4 H5 H6 T L w) (hb:Below w.heap.size w w') (hT:∀ g,g<w.heap.size->T' g=T g):N1W y n R H1 H2 H3 H4 H5 H6 T' L w':=by
 have q:∀ {e:TypeId} {g k c:Nat} {xs:List Value} {t:Nat},w.ownsRow y.heap.size e 1 (.slice (some ⟨g,0,none⟩) k c) k xs/\T g=t->w'.ownsRow y.heap.size e 1 (.slice (some ⟨g,0,none⟩) k c) k xs/\T' g=t:=fun h=>⟨own_eqL h.1 fun g hg=>hb.block g (h.1.lt g hg).2,(hT _ (h.1.lt _ rfl).2).trans h.2⟩
 refine⟨h.bel.trans (hb.mono h.bel.size),fun z=>q (h.p5 z),fun z=>(hb.cell (p:=⟨H2,0,none⟩) (block_lt_of_cell (h.p6 z))).trans (h.p6 z),fun z=>q (h.p12 z),fun z=>q (h.p18 z),fun z=>q (h.p24 z),fun z=>?_⟩
 obtain⟨h1,h2,h3⟩:=h.p26 z
 have hl:=(Array.getElem?_eq_some_iff.1 h1).1
 exact⟨(hb.block _ hl).trans h1,h2,(hT _ hl).trans h3⟩
theorem N1W.keep {y:World} {n R H1 H2 H3 H4 H5 H6:Nat} {T:Nat->Nat} {L:Array Bool} {w:World} (h:N1W y n R H1 H2 H3 H4 H5 H6 T L w) {k:Nat} (hlt:k<L.size) (n1:k≠5) (n2:k≠6) (n3:k≠12) (n4:k≠18) (n5:k≠24) (n6:k≠26):N1W y n R H1 H2 H3 H4 H5 H6 T (L.setIfInBounds k true) w:=
 ⟨h.bel,fun z=>h.p5 (up_old z hlt n1),fun z=>h.p6 (up_old z hlt n2),fun z=>h.p12 (up_old z hlt n3),fun z=>h.p18 (up_old z hlt n4),fun z=>h.p24 (up_old z hlt n5),fun z=>h.p26 (up_old z hlt n6)⟩
theorem N1W.mk5 {y:World} {n R H1 H2 H3 H4 H5 H6:Nat} {T:Nat->Nat} {L:Array Bool} {w:World} {cs:Array Value} (h:N1W y n R H1 H2 H3 H4 H5 H6 T L w) (hlt:5<L.size) (n26:up L 26=false) (hcs:cs.size=n*1) (hcl:cs.toList=List.replicate n (.slice none 0 0)) (hk:n<=8000):N1W y n R w.heap.size H2 H3 H4 H5 H6 (newT T w.heap.size 1) (L.setIfInBounds 5 true) (w.alloc (.cells cs 119)):=by
 have h1:=h.later (below_alloc w (.cells cs 119)) (T':=newT T w.heap.size 1) fun g hg=>newT_old hg
 have ho:=World.ownsRow_lit w cs n (base:=y.heap.size) (e:=119) (size:=1) h.bel.size (by unfold maxLen;omega) hcs
 rw[hcl]at ho
 exact⟨h1.bel,fun _=>⟨ho,newT_new (Nat.le_refl _)⟩,fun z=>h1.p6 (up_old z hlt (by decide)),fun z=>h1.p12 (up_old z hlt (by decide)),fun z=>h1.p18 (up_old z hlt (by decide)),fun z=>h1.p24 (up_old z hlt (by decide)),fun z=>absurd (up_old z hlt (by decide)) (by rw[n26];decide)⟩
theorem N1W.mk18 {y:World} {n R H1 H2 H3 H4 H5 H6:Nat} {T:Nat->Nat} {L:Array Bool} {w:World} {cs:Array Value} (h:N1W y n R H1 H2 H3 H4 H5 H6 T L w) (hlt:18<L.size) (n26:up L 26=false) (hcs:cs.size=R*1) (hcl:cs.toList=List.replicate R (.slice none 0 0)) (hk:R<=8000):N1W y n R H1 H2 H3 w.heap.size H5 H6 (newT T w.heap.size 3) (L.setIfInBounds 18 true) (w.alloc (.cells cs 119)):=by
 have h1:=h.later (below_alloc w (.cells cs 119)) (T':=newT T w.heap.size 3) fun g hg=>newT_old hg
 have ho:=World.ownsRow_lit w cs R (base:=y.heap.size) (e:=119) (size:=1) h.bel.size (by unfold maxLen;omega) hcs
 rw[hcl]at ho
 exact⟨h1.bel,fun z=>h1.p5 (up_old z hlt (by decide)),fun z=>h1.p6 (up_old z hlt (by decide)),fun z=>h1.p12 (up_old z hlt (by decide)),fun _=>⟨ho,newT_new (Nat.le_refl _)⟩,fun z=>h1.p24 (up_old z hlt (by decide)),fun z=>absurd (up_old z hlt (by decide)) (by rw[n26];decide)⟩
theorem N1W.mk24 {y:World} {n R H1 H2 H3 H4 H5 H6:Nat} {T:Nat->Nat} {L:Array Bool} {w:World} {cs:Array Value} (h:N1W y n R H1 H2 H3 H4 H5 H6 T L w) (hlt:24<L.size) (n26:up L 26=false) (hcs:cs.size=R*1) (hcl:cs.toList=List.replicate R (.slice none 0 0)) (hk:R<=8000):N1W y n R H1 H2 H3 H4 w.heap.size H6 (newT T w.heap.size 5) (L.setIfInBounds 24 true) (w.alloc (.cells cs 119)):=by
 have h1:=h.later (below_alloc w (.cells cs 119)) (T':=newT T w.heap.size 5) fun g hg=>newT_old hg
 have ho:=World.ownsRow_lit w cs R (base:=y.heap.size) (e:=119) (size:=1) h.bel.size (by unfold maxLen;omega) hcs
 rw[hcl]at ho
 exact⟨h1.bel,fun z=>h1.p5 (up_old z hlt (by decide)),fun z=>h1.p6 (up_old z hlt (by decide)),fun z=>h1.p12 (up_old z hlt (by decide)),fun z=>h1.p18 (up_old z hlt (by decide)),fun _=>⟨ho,newT_new (Nat.le_refl _)⟩,fun z=>absurd (up_old z hlt (by decide)) (by rw[n26];decide)⟩
theorem N1W.lit {y:World} {n R H1 H2 H3 H4 H5 H6:Nat} {T:Nat->Nat} {L:Array Bool} {w:World} (h:N1W y n R H1 H2 H3 H4 H5 H6 T L w) (hlt:6<L.size):N1W y n R H1 w.heap.size H3 H4 H5 H6 T (L.setIfInBounds 6 true) (w.alloc (.cells #[.int .i64 (-1)] 3)):=by
 have h1:=h.later (below_alloc w (.cells #[.int .i64 (-1)] 3)) (T':=T) fun g hg=>rfl
 exact⟨h1.bel,fun z=>h1.p5 (up_old z hlt (by decide)),fun _=>cell_of_row _ w.heap.size 0 _ 3 (0,0) (heap_alloc_new w _),fun z=>h1.p12 (up_old z hlt (by decide)),fun z=>h1.p18 (up_old z hlt (by decide)),fun z=>h1.p24 (up_old z hlt (by decide)),fun z=>h1.p26 (up_old z hlt (by decide))⟩
theorem N1W.rep {y:World} {n R H1 H2 H3 H4 H5 H6:Nat} {T:Nat->Nat} {L:Array Bool} {w:World} {w':World} (h:N1W y n R H1 H2 H3 H4 H5 H6 T L w) (hlt:12<L.size) (n26:up L 26=false) (ho:w'.ownsRow w.heap.size 3 1 (.slice (some ⟨w.heap.size,0,none⟩) n n) n (List.replicate n (.int .i64 (-1)))) (hb:Below w.heap.size w w'):N1W y n R H1 H2 w.heap.size H4 H5 H6 (newT T w.heap.size 7) (L.setIfInBounds 12 true) w':=by
 have h1:=h.later hb (T':=newT T w.heap.size 7) fun g hg=>newT_old hg
 exact⟨h1.bel,fun z=>h1.p5 (up_old z hlt (by decide)),fun z=>h1.p6 (up_old z hlt (by decide)),fun _=>⟨own_lowL ho h.bel.size,newT_new (Nat.le_refl _)⟩,fun z=>h1.p18 (up_old z hlt (by decide)),fun z=>h1.p24 (up_old z hlt (by decide)),fun z=>absurd (up_old z hlt (by decide)) (by rw[n26];decide)⟩
theorem N1W.bx {y:World} {n R H1 H2 H3 H4 H5 H6:Nat} {T:Nat->Nat} {L:Array Bool} {w:World} (h:N1W y n R H1 H2 H3 H4 H5 H6 T L w) (hlt:26<L.size):N1W y n R H1 H2 H3 H4 H5 w.heap.size (newT T w.heap.size 0) (L.setIfInBounds 26 true) (w.alloc (.cells #[.slice (some ⟨H1,0,none⟩) n n,.slice (some ⟨H3,0,none⟩) n n,.slice (some ⟨H4,0,none⟩) R R,.slice (some ⟨H5,0,none⟩) R R] 122)):=by
 have h1:=h.later (below_alloc w (.cells #[.slice (some ⟨H1,0,none⟩) n n,.slice (some ⟨H3,0,none⟩) n n,.slice (some ⟨H4,0,none⟩) R R,.slice (some ⟨H5,0,none⟩) R R] 122)) (T':=newT T w.heap.size 0) fun g hg=>newT_old hg
 exact⟨h1.bel,fun z=>h1.p5 (up_old z hlt (by decide)),fun z=>h1.p6 (up_old z hlt (by decide)),fun z=>h1.p12 (up_old z hlt (by decide)),fun z=>h1.p18 (up_old z hlt (by decide)),fun z=>h1.p24 (up_old z hlt (by decide)),fun _=>⟨heap_alloc_new w _,h.bel.size,newT_new (Nat.le_refl _)⟩⟩
def Gd.nil:Gd:=⟨fun _=>none,fun _=>0,fun _=>[]⟩
set_option maxRecDepth 100000 in
theorem nl1_is (gr g n c R:Nat) (y:World) (d5:y.cell? ⟨gr,5,none⟩=some (.slice (some ⟨g,0,none⟩) n c)) (d2:y.cell? ⟨gr,2,none⟩=some (.int .i64 (R:Int))) (hn:1<=n/\n<=8000) (hR:R<=2000) (Q:Exit->Act->World->Prop)
  (hK:∀ (s13 s14 s15 s16 s17 s18 s19 s20 s21 s22 s23 s24 s25 s26 s27 s28 s29 s30 s31 s32 s33 s34 s35 s36 s37 s38 s39:Value) (gl gb gs gu gt:Nat) (T:Nat->Nat) (y':World),Lv y y' gl gb gs gu gt n R Gd.nil Gd.nil Gd.nil (List.replicate n (-1)) T->Q .normal { tmps:=#[.pointer (some ⟨gr,0,none⟩),undef,.pointer none,.pointer (some ⟨gl,0,none⟩),undef,undef,undef,undef,undef,undef,undef,undef,undef,s13,s14,s15,s16,s17,s18,s19,s20,s21,s22,s23,s24,s25,s26,s27,s28,s29,s30,s31,s32,s33,s34,s35,s36,s37,s38,s39,undef,undef,undef,undef,undef,undef,undef,undef,undef,undef,undef,undef,undef,undef,undef,undef,undef,undef,undef,undef,undef,undef,undef,undef,undef,undef,undef,undef,undef,undef,undef,undef,undef,undef,undef,undef,undef,undef,undef,undef,undef,undef,undef,undef,undef,undef,undef,undef,undef,undef,undef,undef,undef,undef,undef,undef,undef,undef,undef,undef,undef,undef,undef,undef,undef,undef,undef,undef,undef,undef,undef,undef,undef,undef,undef,undef,undef,undef,undef,undef,undef,undef,undef,undef,undef,undef,undef,undef,undef,undef,undef,undef,undef],defers:=[] } y') :
  (nlC 1).wp Tryz.prog Q { tmps:=#[.pointer (some ⟨gr,0,none⟩),undef,.pointer none,undef,undef,undef,undef,undef,undef,undef,undef,undef,undef,undef,undef,undef,undef,undef,undef,undef,undef,undef,undef,undef,undef,undef,undef,undef,undef,undef,undef,undef,undef,undef,undef,undef,undef,undef,undef,undef,undef,undef,undef,undef,undef,undef,undef,undef,undef,undef,undef,undef,undef,undef,undef,undef,undef,undef,undef,undef,undef,undef,undef,undef,undef,undef,undef,undef,undef,undef,undef,undef,undef,undef,undef,undef,undef,undef,undef,undef,undef,undef,undef,undef,undef,undef,undef,undef,undef,undef,undef,undef,undef,undef,undef,undef,undef,undef,undef,undef,undef,undef,undef,undef,undef,undef,undef,undef,undef,undef,undef,undef,undef,undef,undef,undef,undef,undef,undef,undef,undef,undef,undef,undef,undef,undef,undef,undef,undef,undef,undef,undef,undef],defers:=[] } y:=by
 have HKt:Hid _:=hK
 clear hK
 conv=>arg 2;whnf
 dsimp only
 have hgr:gr<y.drew.heap.size:=block_lt_of_cell d5
 have e5:y.drew.cell? ⟨gr,5,none⟩=some (.slice (some ⟨g,0,none⟩) n c):=d5
 have e2:y.drew.cell? ⟨gr,2,none⟩=some (.int .i64 (R:Int)):=d2
 clear d5 d2
 rename y.drew.cell? ⟨gr,5,none⟩=some (.slice (some ⟨g,0,none⟩) n c)=>d5
 rename y.drew.cell? ⟨gr,2,none⟩=some (.int .i64 (R:Int))=>d2
 obtain⟨i0,hi0,hz0,hz1,hz2⟩:=info_parts Tryz.infostsL
 have hmk0:∀ k:Nat,k<=8000->∀ u:World,(Instr.makeSlice 120 (.int .i64 (k:Int)) (.int .i64 (k:Int))).run Tryz.prog u=.ok (.slice (some ⟨u.heap.size,0,none⟩) k k) (u.alloc (.cells (madeCells (Value.slice none 0 0).cells (k*1)) 119)):=fun k hk u=>by
  have:=run_makeSlice u 120 119 i0 _ Tryz.underlying120 hi0 hz0 .i64 .i64 (k:Int) (k:Int) (by omega) (by omega) (by rw[hz1];simp;omega) (by rw[hz2];omega) (by omega)
  rw[hz1]at this
  simpa using this
 have hmkn:=hmk0 n hn.2
 have hmkR:=hmk0 R (by omega)
 have hcl0:∀ k:Nat,(madeCells (Value.slice none 0 0).cells (k*1)).toList=List.replicate k (.slice none 0 0):=fun k=>by rw[Nat.mul_one];exact toList_madeCells_one _ _
 have hcs0:∀ k:Nat,(madeCells (Value.slice none 0 0).cells (k*1)).size=k*1:=fun k=>by simp[madeCells,Value.cells]
 obtain⟨csn,hcsn0⟩:∃ cs,cs=madeCells (Value.slice none 0 0).cells (n*1):=⟨_,rfl⟩
 obtain⟨csR,hcsR0⟩:∃ cs,cs=madeCells (Value.slice none 0 0).cells (R*1):=⟨_,rfl⟩
 have hcsn:csn.size=n*1:=by rw[hcsn0];exact hcs0 n
 have hcln:csn.toList=List.replicate n (.slice none 0 0):=by rw[hcsn0];exact hcl0 n
 have hcsR:csR.size=R*1:=by rw[hcsR0];exact hcs0 R
 have hclR:csR.toList=List.replicate R (.slice none 0 0):=by rw[hcsR0];exact hcl0 R
 rw[<- hcsn0]at hmkn
 rw[<- hcsR0]at hmkR
 clear hcsn0 hcsR0 hcl0 hcs0 hmk0 hi0 hz0 hz1 hz2
 refine wp_region_any (by kernel_rfl) ?_
 change wpAny _ _ _ _ _ _ _ (World.drew _)
 refine wpAny_inw (fun L ac w=>∃ H1 H2 H3 H4 H5 H6 T,ac=Nl1Mk gr g n c R H1 H2 H3 H4 H5 H6 T L/\N1W y.drew n R H1 H2 H3 H4 H5 H6 T L w) ?done (by kernel_rfl) ?step _ 28 _ _ (by kernel_rfl) ?init (by decide)
 case init=>exact⟨0,0,0,0,0,0,fun _=>0,by simp only[Nl1Mk,sld_no (up_init _ _)],⟨Below.refl _ _,fun z=>absurd (z.symm.trans (up_init _ _)) (by decide),fun z=>absurd (z.symm.trans (up_init _ _)) (by decide),fun z=>absurd (z.symm.trans (up_init _ _)) (by decide),fun z=>absurd (z.symm.trans (up_init _ _)) (by decide),fun z=>absurd (z.symm.trans (up_init _ _)) (by decide),fun z=>absurd (z.symm.trans (up_init _ _)) (by decide)⟩⟩
 case step=>
  intro L act w i o hI hlt hs nl hC hd ho K hK
  obtain⟨H1,H2,H3,H4,H5,H6,T,rfl,hW⟩:=hI
  have hi_lt:i<28:=(Array.getElem?_eq_some_iff.1 ho).1
  rcases (show i=0\/i=1\/i=2\/i=3\/i=4\/i=5\/i=6\/i=7\/i=8\/i=9\/i=10\/i=11\/i=12\/i=13\/i=14\/i=15\/i=16\/i=17\/i=18\/i=19\/i=20\/i=21\/i=22\/i=23\/i=24\/i=25\/i=26\/i=27 by omega) with rfl | rfl | rfl | rfl | rfl | rfl | rfl | rfl | rfl | rfl | rfl | rfl | rfl | rfl | rfl | rfl | rfl | rfl | rfl | rfl | rfl | rfl | rfl | rfl | rfl | rfl | rfl | rfl
  ·change some _=some o at ho
   cases ho
   simp only[Nl1Mk]
   go_simp
   exact hK _ _ ⟨H1,H2,H3,H4,H5,H6,T,by simp only[Nl1Mk,sld_set hlt,reduceIte,Nat.reduceEqDiff];try rfl,(hW.keep hlt (by decide) (by decide) (by decide) (by decide) (by decide) (by decide))⟩
  ·change some _=some o at ho
   cases ho
   have q0:up L 0=true:=hd { on:=0,ground:=.data } (by simp) rfl
   simp only[Nl1Mk,sld_yes q0]
   go_simp
   exact hK _ _ ⟨H1,H2,H3,H4,H5,H6,T,by simp only[Nl1Mk,sld_set hlt,sld_yes q0,reduceIte,Nat.reduceEqDiff];try rfl,(hW.keep hlt (by decide) (by decide) (by decide) (by decide) (by decide) (by decide))⟩
  ·change some _=some o at ho
   cases ho
   have q1:up L 1=true:=hd { on:=1,ground:=.data } (by simp) rfl
   simp only[Nl1Mk,sld_yes q1]
   go_simp
   exact hK _ _ ⟨H1,H2,H3,H4,H5,H6,T,by simp only[Nl1Mk,sld_set hlt,sld_yes q1,reduceIte,Nat.reduceEqDiff];try rfl,(hW.keep hlt (by decide) (by decide) (by decide) (by decide) (by decide) (by decide))⟩
  ·change some _=some o at ho
   cases ho
   have q2:up L 2=true:=hd { on:=2,ground:=.data } (by simp) rfl
   have cx:=(hW.bel.cell (p:=⟨gr,5,none⟩) hgr).trans d5
   simp only[Nl1Mk,sld_yes q2]
   go_simp
   exact hK _ _ ⟨H1,H2,H3,H4,H5,H6,T,by simp only[Nl1Mk,sld_set hlt,sld_yes q2,reduceIte,Nat.reduceEqDiff];try rfl,(hW.keep hlt (by decide) (by decide) (by decide) (by decide) (by decide) (by decide))⟩
  ·change some _=some o at ho
   cases ho
   have q3:up L 3=true:=hd { on:=3,ground:=.data } (by simp) rfl
   simp only[Nl1Mk,sld_yes q3]
   go_simp
   exact hK _ _ ⟨H1,H2,H3,H4,H5,H6,T,by simp only[Nl1Mk,sld_set hlt,sld_yes q3,reduceIte,Nat.reduceEqDiff];try rfl,(hW.keep hlt (by decide) (by decide) (by decide) (by decide) (by decide) (by decide))⟩
  ·change some _=some o at ho
   cases ho
   have q4:up L 4=true:=hd { on:=4,ground:=.data } (by simp) rfl
   have n25:up L 25=false:=hC.no nl 25 rfl (by kernel_rfl)
   have n26:up L 26=false:=hC.no n25 26 rfl (by kernel_rfl)
   have n27:up L 27=false:=hC.no n26 27 rfl (by kernel_rfl)
   simp only[Nl1Mk,sld_yes q4]
   go_simp
   exact hK _ _ ⟨w.heap.size,H2,H3,H4,H5,H6,newT T w.heap.size 1,by simp only[Nl1Mk,sld_set hlt,sld_yes q4,sld_no n25,sld_no n26,sld_no n27,reduceIte,Nat.reduceEqDiff];try rfl,hW.mk5 hlt n26 hcsn hcln (by omega)⟩
  ·change some _=some o at ho
   cases ho
   have n12:up L 12=false:=hC.no nl 12 rfl (by kernel_rfl)
   simp only[Nl1Mk]
   go_simp
   exact hK _ _ ⟨H1,w.heap.size,H3,H4,H5,H6,T,by simp only[Nl1Mk,sld_set hlt,reduceIte,Nat.reduceEqDiff];try rfl,hW.lit hlt⟩
  ·change some _=some o at ho
   cases ho
   simp only[Nl1Mk]
   go_simp
   exact hK _ _ ⟨H1,H2,H3,H4,H5,H6,T,by simp only[Nl1Mk,sld_set hlt,reduceIte,Nat.reduceEqDiff];try rfl,(hW.keep hlt (by decide) (by decide) (by decide) (by decide) (by decide) (by decide))⟩
  ·change some _=some o at ho
   cases ho
   have q7:up L 7=true:=hd { on:=7,ground:=.data } (by simp) rfl
   simp only[Nl1Mk,sld_yes q7]
   go_simp
   exact hK _ _ ⟨H1,H2,H3,H4,H5,H6,T,by simp only[Nl1Mk,sld_set hlt,sld_yes q7,reduceIte,Nat.reduceEqDiff];try rfl,(hW.keep hlt (by decide) (by decide) (by decide) (by decide) (by decide) (by decide))⟩
  ·change some _=some o at ho
   cases ho
   have q8:up L 8=true:=hd { on:=8,ground:=.data } (by simp) rfl
   simp only[Nl1Mk,sld_yes q8]
   go_simp
   exact hK _ _ ⟨H1,H2,H3,H4,H5,H6,T,by simp only[Nl1Mk,sld_set hlt,sld_yes q8,reduceIte,Nat.reduceEqDiff];try rfl,(hW.keep hlt (by decide) (by decide) (by decide) (by decide) (by decide) (by decide))⟩
  ·change some _=some o at ho
   cases ho
   have q9:up L 9=true:=hd { on:=9,ground:=.data } (by simp) rfl
   have cx:=(hW.bel.cell (p:=⟨gr,5,none⟩) hgr).trans d5
   simp only[Nl1Mk,sld_yes q9]
   go_simp
   exact hK _ _ ⟨H1,H2,H3,H4,H5,H6,T,by simp only[Nl1Mk,sld_set hlt,sld_yes q9,reduceIte,Nat.reduceEqDiff];try rfl,(hW.keep hlt (by decide) (by decide) (by decide) (by decide) (by decide) (by decide))⟩
  ·change some _=some o at ho
   cases ho
   have q10:up L 10=true:=hd { on:=10,ground:=.data } (by simp) rfl
   simp only[Nl1Mk,sld_yes q10]
   go_simp
   exact hK _ _ ⟨H1,H2,H3,H4,H5,H6,T,by simp only[Nl1Mk,sld_set hlt,sld_yes q10,reduceIte,Nat.reduceEqDiff];try rfl,(hW.keep hlt (by decide) (by decide) (by decide) (by decide) (by decide) (by decide))⟩
  ·change some _=some o at ho
   cases ho
   have q6:up L 6=true:=hd { on:=6,ground:=.data } (by simp) rfl
   have q11:up L 11=true:=hd { on:=11,ground:=.data } (by simp) rfl
   have n25:up L 25=false:=hC.no nl 25 rfl (by kernel_rfl)
   have n26:up L 26=false:=hC.no n25 26 rfl (by kernel_rfl)
   have n27:up L 27=false:=hC.no n26 27 rfl (by kernel_rfl)
   simp only[Nl1Mk,sld_yes q6,sld_yes q11]
   go_simp
   refine (repeat_is _ n hn w (hW.p6 q6)).mono ?_
   rintro e z1 ⟨rfl,ho1,hb1⟩
   go_simp
   exact hK _ _ ⟨H1,H2,w.heap.size,H4,H5,H6,newT T w.heap.size 7,by simp only[Nl1Mk,sld_set hlt,sld_yes q6,sld_yes q11,sld_no n25,sld_no n26,sld_no n27,reduceIte,Nat.reduceEqDiff];try rfl,hW.rep hlt n26 ho1 hb1⟩
  ·change some _=some o at ho
   cases ho
   simp only[Nl1Mk]
   go_simp
   exact hK _ _ ⟨H1,H2,H3,H4,H5,H6,T,by simp only[Nl1Mk,sld_set hlt,reduceIte,Nat.reduceEqDiff];try rfl,(hW.keep hlt (by decide) (by decide) (by decide) (by decide) (by decide) (by decide))⟩
  ·change some _=some o at ho
   cases ho
   have q13:up L 13=true:=hd { on:=13,ground:=.data } (by simp) rfl
   simp only[Nl1Mk,sld_yes q13]
   go_simp
   exact hK _ _ ⟨H1,H2,H3,H4,H5,H6,T,by simp only[Nl1Mk,sld_set hlt,sld_yes q13,reduceIte,Nat.reduceEqDiff];try rfl,(hW.keep hlt (by decide) (by decide) (by decide) (by decide) (by decide) (by decide))⟩
  ·change some _=some o at ho
   cases ho
   have q14:up L 14=true:=hd { on:=14,ground:=.data } (by simp) rfl
   simp only[Nl1Mk,sld_yes q14]
   go_simp
   exact hK _ _ ⟨H1,H2,H3,H4,H5,H6,T,by simp only[Nl1Mk,sld_set hlt,sld_yes q14,reduceIte,Nat.reduceEqDiff];try rfl,(hW.keep hlt (by decide) (by decide) (by decide) (by decide) (by decide) (by decide))⟩
  ·change some _=some o at ho
   cases ho
   have q15:up L 15=true:=hd { on:=15,ground:=.data } (by simp) rfl
   simp only[Nl1Mk,sld_yes q15]
   go_simp
   exact hK _ _ ⟨H1,H2,H3,H4,H5,H6,T,by simp only[Nl1Mk,sld_set hlt,sld_yes q15,reduceIte,Nat.reduceEqDiff];try rfl,(hW.keep hlt (by decide) (by decide) (by decide) (by decide) (by decide) (by decide))⟩
  ·change some _=some o at ho
   cases ho
   have q16:up L 16=true:=hd { on:=16,ground:=.data } (by simp) rfl
   have cx:=(hW.bel.cell (p:=⟨gr,2,none⟩) hgr).trans d2
   simp only[Nl1Mk,sld_yes q16]
   go_simp
   exact hK _ _ ⟨H1,H2,H3,H4,H5,H6,T,by simp only[Nl1Mk,sld_set hlt,sld_yes q16,reduceIte,Nat.reduceEqDiff];try rfl,(hW.keep hlt (by decide) (by decide) (by decide) (by decide) (by decide) (by decide))⟩
  ·change some _=some o at ho
   cases ho
   have q17:up L 17=true:=hd { on:=17,ground:=.data } (by simp) rfl
   have n25:up L 25=false:=hC.no nl 25 rfl (by kernel_rfl)
   have n26:up L 26=false:=hC.no n25 26 rfl (by kernel_rfl)
   have n27:up L 27=false:=hC.no n26 27 rfl (by kernel_rfl)
   simp only[Nl1Mk,sld_yes q17]
   go_simp
   exact hK _ _ ⟨H1,H2,H3,w.heap.size,H5,H6,newT T w.heap.size 3,by simp only[Nl1Mk,sld_set hlt,sld_yes q17,sld_no n25,sld_no n26,sld_no n27,reduceIte,Nat.reduceEqDiff];try rfl,hW.mk18 hlt n26 hcsR hclR (by omega)⟩
  ·change some _=some o at ho
   cases ho
   simp only[Nl1Mk]
   go_simp
   exact hK _ _ ⟨H1,H2,H3,H4,H5,H6,T,by simp only[Nl1Mk,sld_set hlt,reduceIte,Nat.reduceEqDiff];try rfl,(hW.keep hlt (by decide) (by decide) (by decide) (by decide) (by decide) (by decide))⟩
  ·change some _=some o at ho
   cases ho
   have q19:up L 19=true:=hd { on:=19,ground:=.data } (by simp) rfl
   simp only[Nl1Mk,sld_yes q19]
   go_simp
   exact hK _ _ ⟨H1,H2,H3,H4,H5,H6,T,by simp only[Nl1Mk,sld_set hlt,sld_yes q19,reduceIte,Nat.reduceEqDiff];try rfl,(hW.keep hlt (by decide) (by decide) (by decide) (by decide) (by decide) (by decide))⟩
  ·change some _=some o at ho
   cases ho
   have q20:up L 20=true:=hd { on:=20,ground:=.data } (by simp) rfl
   simp only[Nl1Mk,sld_yes q20]
   go_simp
   exact hK _ _ ⟨H1,H2,H3,H4,H5,H6,T,by simp only[Nl1Mk,sld_set hlt,sld_yes q20,reduceIte,Nat.reduceEqDiff];try rfl,(hW.keep hlt (by decide) (by decide) (by decide) (by decide) (by decide) (by decide))⟩
  ·change some _=some o at ho
   cases ho
   have q21:up L 21=true:=hd { on:=21,ground:=.data } (by simp) rfl
   simp only[Nl1Mk,sld_yes q21]
   go_simp
   exact hK _ _ ⟨H1,H2,H3,H4,H5,H6,T,by simp only[Nl1Mk,sld_set hlt,sld_yes q21,reduceIte,Nat.reduceEqDiff];try rfl,(hW.keep hlt (by decide) (by decide) (by decide) (by decide) (by decide) (by decide))⟩
  ·change some _=some o at ho
   cases ho
   have q22:up L 22=true:=hd { on:=22,ground:=.data } (by simp) rfl
   have cx:=(hW.bel.cell (p:=⟨gr,2,none⟩) hgr).trans d2
   simp only[Nl1Mk,sld_yes q22]
   go_simp
   exact hK _ _ ⟨H1,H2,H3,H4,H5,H6,T,by simp only[Nl1Mk,sld_set hlt,sld_yes q22,reduceIte,Nat.reduceEqDiff];try rfl,(hW.keep hlt (by decide) (by decide) (by decide) (by decide) (by decide) (by decide))⟩
  ·change some _=some o at ho
   cases ho
   have q23:up L 23=true:=hd { on:=23,ground:=.data } (by simp) rfl
   have n25:up L 25=false:=hC.no nl 25 rfl (by kernel_rfl)
   have n26:up L 26=false:=hC.no n25 26 rfl (by kernel_rfl)
   have n27:up L 27=false:=hC.no n26 27 rfl (by kernel_rfl)
   simp only[Nl1Mk,sld_yes q23]
   go_simp
   exact hK _ _ ⟨H1,H2,H3,H4,w.heap.size,H6,newT T w.heap.size 5,by simp only[Nl1Mk,sld_set hlt,sld_yes q23,sld_no n25,sld_no n26,sld_no n27,reduceIte,Nat.reduceEqDiff];try rfl,hW.mk24 hlt n26 hcsR hclR (by omega)⟩
  ·change some _=some o at ho
   cases ho
   have q5:up L 5=true:=hd { on:=5,ground:=.data } (by simp) rfl
   have q12:up L 12=true:=hd { on:=12,ground:=.data } (by simp) rfl
   have q18:up L 18=true:=hd { on:=18,ground:=.data } (by simp) rfl
   have q24:up L 24=true:=hd { on:=24,ground:=.data } (by simp) rfl
   simp only[Nl1Mk,sld_yes q5,sld_yes q12,sld_yes q18,sld_yes q24]
   go_simp
   exact hK _ _ ⟨H1,H2,H3,H4,H5,H6,T,by simp only[Nl1Mk,sld_set hlt,sld_yes q5,sld_yes q12,sld_yes q18,sld_yes q24,reduceIte,Nat.reduceEqDiff];try rfl,(hW.keep hlt (by decide) (by decide) (by decide) (by decide) (by decide) (by decide))⟩
  ·change some _=some o at ho
   cases ho
   have q25:up L 25=true:=hd { on:=25,ground:=.data } (by simp) rfl
   have n27:up L 27=false:=hC.no nl 27 rfl (by kernel_rfl)
   simp only[Nl1Mk,sld_yes q25]
   go_simp
   exact hK _ _ ⟨H1,H2,H3,H4,H5,w.heap.size,newT T w.heap.size 0,by simp only[Nl1Mk,sld_set hlt,sld_yes q25,sld_no n27,reduceIte,Nat.reduceEqDiff];try rfl,hW.bx hlt⟩
  ·change some _=some o at ho
   cases ho
   have q26:up L 26=true:=hd { on:=26,ground:=.data } (by simp) rfl
   simp only[Nl1Mk,sld_yes q26]
   go_simp
   exact hK _ _ ⟨H1,H2,H3,H4,H5,H6,T,by simp only[Nl1Mk,sld_set hlt,sld_yes q26,reduceIte,Nat.reduceEqDiff];try rfl,(hW.keep hlt (by decide) (by decide) (by decide) (by decide) (by decide) (by decide))⟩
 case done=>
  rintro L ac w ⟨H1,H2,H3,H4,H5,H6,T,rfl,hW⟩ hall
  obtain⟨q1,q2⟩:=hW.p5 (hall 5 (by decide))
  obtain⟨q3,q4⟩:=hW.p12 (hall 12 (by decide))
  obtain⟨q5,q6⟩:=hW.p18 (hall 18 (by decide))
  obtain⟨q7,q8⟩:=hW.p24 (hall 24 (by decide))
  obtain⟨q9,q10,q11⟩:=hW.p26 (hall 26 (by decide))
  simp only[Nl1Mk,sld_yes (hall 0 (by decide)),sld_yes (hall 1 (by decide)),sld_yes (hall 2 (by decide)),sld_yes (hall 3 (by decide)),sld_yes (hall 4 (by decide)),sld_yes (hall 5 (by decide)),sld_yes (hall 6 (by decide)),sld_yes (hall 7 (by decide)),sld_yes (hall 8 (by decide)),sld_yes (hall 9 (by decide)),sld_yes (hall 10 (by decide)),sld_yes (hall 11 (by decide)),sld_yes (hall 12 (by decide)),sld_yes (hall 13 (by decide)),sld_yes (hall 14 (by decide)),sld_yes (hall 15 (by decide)),sld_yes (hall 16 (by decide)),sld_yes (hall 17 (by decide)),sld_yes (hall 18 (by decide)),sld_yes (hall 19 (by decide)),sld_yes (hall 20 (by decide)),sld_yes (hall 21 (by decide)),sld_yes (hall 22 (by decide)),sld_yes (hall 23 (by decide)),sld_yes (hall 24 (by decide)),sld_yes (hall 25 (by decide)),sld_yes (hall 26 (by decide)),sld_yes (hall 27 (by decide))]
  refine HKt.out _ _ _ _ _ _ _ _ _ _ _ _ _ _ _ _ _ _ _ _ _ _ _ _ _ _ _ H6 H1 H3 H4 H5 T w ⟨(Below.drew (Below.refl _ _)).trans hW.bel,q10,q9,q11,Rw.nil q1 q2,Rw.nil q5 q6,Rw.nil q7 q8,?_,q4,by simp⟩
  rw[List.map_replicate];exact q3
def Na14Mk (gl go k i:Nat) (a:Option Addr) (m c:Nat) (x:Int) (c0 c1 c2 c4 c5 c7 c8 c9 c11 c12 c13 c14 c15 c16 c17 c18 c19 c20 c21 c22 c23 c24 c25 c26 c27 c28 c29 c30 c31 c32 c33 c34 c35 c36 c37 c38 c39 c40 c41 c42 c43 c44 c45 c46 c47 c48 c49 c50 c51 c52 c53 c54 c55 c56 c57 c58 c59 c60 c61 c62 c63 c64 c65 c66 c67 c68 c69 c70 c71 c72 c73 c74 c75 c76 c77 c78 c79 c80 c81 c82 c83 c84 c85 c86 c87 c88 c89 c90 c91 c92 c93 c94 c95 c96 c97 c98 c99 c100 c101 c102 c103 c104 c105 c106 c107 c108 c109 c110 c111 c112 c113 c114 c115 c116 c117 c118 c119 c120 c121 c122 c123 c124 c125 c126 c127 c128 c129 c130 c131 c132:Value) (H G cp:Nat) (L:Array Bool):Act:={ tmps:=#[c0,c1,c2,.pointer (some ⟨gl,0,none⟩),c4,c5,.int .i64 x,c7,c8,c9,.int .i64 (i:Int),c11,c12,c13,c14,c15,c16,c17,c18,c19,c20,c21,c22,c23,c24,c25,c26,c27,c28,c29,c30,c31,c32,c33,c34,c35,c36,c37,c38,c39,c40,c41,c42,c43,c44,c45,c46,c47,c48,c49,c50,c51,c52,c53,c54,c55,c56,c57,c58,c59,c60,c61,c62,c63,c64,c65,c66,c67,c68,c69,c70,c71,c72,c73,c74,c75,c76,c77,c78,c79,c80,c81,c82,sld c83 L 0 (.pointer (some ⟨gl,0,none⟩)),sld c84 L 1 (.pointer (some ⟨gl,0,none⟩)),sld c85 L 2 (.pointer (some ⟨gl,2,none⟩)),sld c86 L 3 (.slice (some ⟨go,0,none⟩) k k),sld c87 L 4 (.int .i64 (i:Int)),sld c88 L 5 (.pointer (some ⟨gl,0,none⟩)),sld c89 L 6 (.pointer (some ⟨gl,0,none⟩)),sld c90 L 7 (.pointer (some ⟨gl,2,none⟩)),sld c91 L 8 (.slice (some ⟨go,0,none⟩) k k),sld c92 L 9 (.int .i64 (i:Int)),sld c93 L 10 (.pointer (some ⟨go,i,none⟩)),sld c94 L 11 (.slice a m c),sld c95 L 12 (.int .i64 x),sld c96 L 13 (.slice (some ⟨H,0,none⟩) 1 1),sld c97 L 14 (.slice (some ⟨G,0,none⟩) (m+1) cp),sld c98 L 15 (.pointer (some ⟨go,i,none⟩)),c99,c100,c101,c102,c103,c104,c105,c106,c107,c108,c109,c110,c111,c112,c113,c114,c115,c116,c117,c118,c119,c120,c121,c122,c123,c124,c125,c126,c127,c128,c129,c130,c131,c132],defers:=[] }
set_option maxRecDepth 100000 in
theorem nl14_is {W0 y:World} {gl gb gs gu gt n R:Nat} {B U S:Gd} {ss:List Int} {T:Nat->Nat} (h:Lv W0 y gl gb gs gu gt n R B U S ss T) (i:Nat) (hi:i<R) (hk8:R<=8000) (x:Int) (hlen:(U.L i).length<=1000000) (c0 c1 c2 c4 c5 c7 c8 c9 c11 c12 c13 c14 c15 c16 c17 c18 c19 c20 c21 c22 c23 c24 c25 c26 c27 c28 c29 c30 c31 c32 c33 c34 c35 c36 c37 c38 c39 c40 c41 c42 c43 c44 c45 c46 c47 c48 c49 c50 c51 c52 c53 c54 c55 c56 c57 c58 c59 c60 c61 c62 c63 c64 c65 c66 c67 c68 c69 c70 c71 c72 c73 c74 c75 c76 c77 c78 c79 c80 c81 c82 c83 c84 c85 c86 c87 c88 c89 c90 c91 c92 c93 c94 c95 c96 c97 c98 c99 c100 c101 c102 c103 c104 c105 c106 c107 c108 c109 c110 c111 c112 c113 c114 c115 c116 c117 c118 c119 c120 c121 c122 c123 c124 c125 c126 c127 c128 c129 c130 c131 c132:Value) (Q:Exit->Act->World->Prop)
  (hK:∀ (s83 s84 s85 s86 s87 s88 s89 s90 s91 s92 s93 s94 s95 s96 s97 s98:Value) (g c:Nat) (T':Nat->Nat) (y':World),Lv W0 y' gl gb gs gu gt n R B (U.put i g c x) S ss T'->Kp T T' y y'->Q .normal { tmps:=#[c0,c1,c2,.pointer (some ⟨gl,0,none⟩),c4,c5,.int .i64 x,c7,c8,c9,.int .i64 (i:Int),c11,c12,c13,c14,c15,c16,c17,c18,c19,c20,c21,c22,c23,c24,c25,c26,c27,c28,c29,c30,c31,c32,c33,c34,c35,c36,c37,c38,c39,c40,c41,c42,c43,c44,c45,c46,c47,c48,c49,c50,c51,c52,c53,c54,c55,c56,c57,c58,c59,c60,c61,c62,c63,c64,c65,c66,c67,c68,c69,c70,c71,c72,c73,c74,c75,c76,c77,c78,c79,c80,c81,c82,s83,s84,s85,s86,s87,s88,s89,s90,s91,s92,s93,s94,s95,s96,s97,s98,c99,c100,c101,c102,c103,c104,c105,c106,c107,c108,c109,c110,c111,c112,c113,c114,c115,c116,c117,c118,c119,c120,c121,c122,c123,c124,c125,c126,c127,c128,c129,c130,c131,c132],defers:=[] } y') :
  (nlC 14).wp Tryz.prog Q { tmps:=#[c0,c1,c2,.pointer (some ⟨gl,0,none⟩),c4,c5,.int .i64 x,c7,c8,c9,.int .i64 (i:Int),c11,c12,c13,c14,c15,c16,c17,c18,c19,c20,c21,c22,c23,c24,c25,c26,c27,c28,c29,c30,c31,c32,c33,c34,c35,c36,c37,c38,c39,c40,c41,c42,c43,c44,c45,c46,c47,c48,c49,c50,c51,c52,c53,c54,c55,c56,c57,c58,c59,c60,c61,c62,c63,c64,c65,c66,c67,c68,c69,c70,c71,c72,c73,c74,c75,c76,c77,c78,c79,c80,c81,c82,c83,c84,c85,c86,c87,c88,c89,c90,c91,c92,c93,c94,c95,c96,c97,c98,c99,c100,c101,c102,c103,c104,c105,c106,c107,c108,c109,c110,c111,c112,c113,c114,c115,c116,c117,c118,c119,c120,c121,c122,c123,c124,c125,c126,c127,c128,c129,c130,c131,c132],defers:=[] } y:=by
 have HKt:Hid _:=hK
 clear hK
 conv=>arg 2;whnf
 dsimp only
 obtain⟨i0,hi0,hz0,hz1,hz2⟩:=info_parts Tryz.infostL
 have hd:=h.later (Below.drew (Below.refl y.heap.size y))
 have HL:Hid (Lv W0 y.drew gl gb gs gu gt n R B U S ss T):=hd
 obtain⟨k,hkk⟩:∃ k,k=R:=⟨_,rfl⟩
 obtain⟨go,hgo⟩:∃ go,go=gu:=⟨_,rfl⟩
 have dF:y.drew.cell? ⟨gl,2,none⟩=some (.slice (some ⟨go,0,none⟩) k k):=by rw[hkk,hgo];exact hd.cell 2
 have hrc:y.drew.cell? ⟨go,i,none⟩=some (U.V i):=by rw[hgo];exact hd.ru.cell hi
 obtain⟨a,ha⟩:∃ a,a=U.A i:=⟨_,rfl⟩
 obtain⟨m,hm⟩:∃ m,m=(U.L i).length:=⟨_,rfl⟩
 obtain⟨c,hc⟩:∃ c,c=U.C i:=⟨_,rfl⟩
 have hV:U.V i=.slice a m c:=by rw[ha,hm,hc];rfl
 have HVV:Hid (U.V i=.slice a m c/\m=(U.L i).length/\go=gu/\k=R):=⟨hV,hm,hgo,hkk⟩
 have dR:y.drew.cell? ⟨go,i,none⟩=some (.slice a m c):=by rw[<- hV];exact hrc
 have dO:=dR
 obtain⟨xs,hxs⟩:∃ xs,xs=U.L i:=⟨_,rfl⟩
 have HXS:Hid (xs=U.L i):=hxs
 have HO:Hid (y.drew.ownsRow W0.heap.size 108 1 (.slice a m c) m xs):=by rw[ha,hm,hc,hxs];exact hd.ru.nr i hi
 have HBL:Hid (Below W0.heap.size W0 y.drew):=hd.bel
 have HNO:Hid ((Value.slice a m c).ownBlock≠some go):=by rw[<- hV,hgo];exact hd.ru.ne hi
 have HNE:Hid ((Value.slice a m c).ownBlock≠some gl):=by
  rw[<- hV]
  intro e
  have e1:=hd.ru.tn i hi gl e
  rw[hd.tb]at e1
  omega
 have HFZ:Hid (∀ w:World,(y.drew.alloc (.cells #[.int .i64 x] 108)).grownBy w (Value.slice a m c).ownBlock->w.frozen? ⟨go,i,none⟩=false):=fun w hg=>by
  have o1:=(hd.ru.oo)
  rw[<- hgo]at o1
  have hgl:=(o1.lt go rfl).2
  have o2:=own_eqL o1 (w':=w) fun g hq=>by
   simp only[Value.ownBlock,Option.some.injEq]at hq
   subst hq
   rw[hg.block go (by simp;exact Nat.lt_succ_of_lt hgl) (fun q=>HNO.out q.symm)]
   exact (below_alloc _ _).block go hgl
  exact o2.frozenAt i
 have him:m<=1000000:=by rw[hm];exact hlen
 have hik:(i:Int)<(k:Int):=by rw[hkk];omega
 have hi8:(i:Int)<=8000:=by omega
 clear hd h hrc hV ha hc hm hxs hgo hkk hlen
 refine wp_region_any (by kernel_rfl) ?_
 change wpAny _ _ _ _ _ _ _ (World.drew _)
 refine wpAny_inw (fun L ac w=>∃ H G cp,ac=Na14Mk gl go k i a m c x c0 c1 c2 c4 c5 c7 c8 c9 c11 c12 c13 c14 c15 c16 c17 c18 c19 c20 c21 c22 c23 c24 c25 c26 c27 c28 c29 c30 c31 c32 c33 c34 c35 c36 c37 c38 c39 c40 c41 c42 c43 c44 c45 c46 c47 c48 c49 c50 c51 c52 c53 c54 c55 c56 c57 c58 c59 c60 c61 c62 c63 c64 c65 c66 c67 c68 c69 c70 c71 c72 c73 c74 c75 c76 c77 c78 c79 c80 c81 c82 c83 c84 c85 c86 c87 c88 c89 c90 c91 c92 c93 c94 c95 c96 c97 c98 c99 c100 c101 c102 c103 c104 c105 c106 c107 c108 c109 c110 c111 c112 c113 c114 c115 c116 c117 c118 c119 c120 c121 c122 c123 c124 c125 c126 c127 c128 c129 c130 c131 c132 H G cp L/\NapW y.drew go i a m c x W0.heap.size xs H G cp L w) ?done (by kernel_rfl) ?step _ 17 _ _ (by kernel_rfl) ?init (by decide)
 case init=>exact⟨0,0,0,by simp only[Na14Mk,sld_no (up_init _ _)],fun _=>rfl,fun z=>absurd (z.symm.trans (up_init _ _)) (by decide),fun z=>absurd (z.symm.trans (up_init _ _)) (by decide)⟩
 case step=>
  intro L act w i o hI hlt hs nl hC hd ho K hK
  obtain⟨H,G,cp,rfl,hW⟩:=hI
  have hi_lt:i<17:=(Array.getElem?_eq_some_iff.1 ho).1
  rcases (show i=0\/i=1\/i=2\/i=3\/i=4\/i=5\/i=6\/i=7\/i=8\/i=9\/i=10\/i=11\/i=12\/i=13\/i=14\/i=15\/i=16 by omega) with rfl | rfl | rfl | rfl | rfl | rfl | rfl | rfl | rfl | rfl | rfl | rfl | rfl | rfl | rfl | rfl | rfl
  ·change some _=some o at ho
   cases ho
   simp only[Na14Mk]
   go_simp
   exact hK _ _ ⟨H,G,cp,by simp only[Na14Mk,sld_set hlt,reduceIte,Nat.reduceEqDiff];try rfl,(hW.keep hlt (by decide) (by decide) (by decide))⟩
  ·change some _=some o at ho
   cases ho
   have q0:up L 0=true:=hd { on:=0,ground:=.data } (by simp) rfl
   simp only[Na14Mk,sld_yes q0]
   go_simp
   exact hK _ _ ⟨H,G,cp,by simp only[Na14Mk,sld_set hlt,sld_yes q0,reduceIte,Nat.reduceEqDiff];try rfl,(hW.keep hlt (by decide) (by decide) (by decide))⟩
  ·change some _=some o at ho
   cases ho
   have q1:up L 1=true:=hd { on:=1,ground:=.data } (by simp) rfl
   simp only[Na14Mk,sld_yes q1]
   go_simp
   exact hK _ _ ⟨H,G,cp,by simp only[Na14Mk,sld_set hlt,sld_yes q1,reduceIte,Nat.reduceEqDiff];try rfl,(hW.keep hlt (by decide) (by decide) (by decide))⟩
  ·change some _=some o at ho
   cases ho
   have q2:up L 2=true:=hd { on:=2,ground:=.data } (by simp) rfl
   have n16:up L 16=false:=hC.no (hC.no nl 15 rfl (by kernel_rfl)) 16 rfl (by kernel_rfl)
   have cx:=hW.any n16 HNE.out dF
   simp only[Na14Mk,sld_yes q2]
   go_simp
   exact hK _ _ ⟨H,G,cp,by simp only[Na14Mk,sld_set hlt,sld_yes q2,reduceIte,Nat.reduceEqDiff];try rfl,(hW.keep hlt (by decide) (by decide) (by decide))⟩
  ·change some _=some o at ho
   cases ho
   simp only[Na14Mk]
   go_simp
   exact hK _ _ ⟨H,G,cp,by simp only[Na14Mk,sld_set hlt,reduceIte,Nat.reduceEqDiff];try rfl,(hW.keep hlt (by decide) (by decide) (by decide))⟩
  ·change some _=some o at ho
   cases ho
   simp only[Na14Mk]
   go_simp
   exact hK _ _ ⟨H,G,cp,by simp only[Na14Mk,sld_set hlt,reduceIte,Nat.reduceEqDiff];try rfl,(hW.keep hlt (by decide) (by decide) (by decide))⟩
  ·change some _=some o at ho
   cases ho
   have q5:up L 5=true:=hd { on:=5,ground:=.data } (by simp) rfl
   simp only[Na14Mk,sld_yes q5]
   go_simp
   exact hK _ _ ⟨H,G,cp,by simp only[Na14Mk,sld_set hlt,sld_yes q5,reduceIte,Nat.reduceEqDiff];try rfl,(hW.keep hlt (by decide) (by decide) (by decide))⟩
  ·change some _=some o at ho
   cases ho
   have q6:up L 6=true:=hd { on:=6,ground:=.data } (by simp) rfl
   simp only[Na14Mk,sld_yes q6]
   go_simp
   exact hK _ _ ⟨H,G,cp,by simp only[Na14Mk,sld_set hlt,sld_yes q6,reduceIte,Nat.reduceEqDiff];try rfl,(hW.keep hlt (by decide) (by decide) (by decide))⟩
  ·change some _=some o at ho
   cases ho
   have q7:up L 7=true:=hd { on:=7,ground:=.data } (by simp) rfl
   have n10:up L 10=false:=hC.no nl 10 rfl (by kernel_rfl)
   have n11:up L 11=false:=hC.no n10 11 rfl (by kernel_rfl)
   have n14:up L 14=false:=hC.no n11 14 rfl (by kernel_rfl)
   have cx:=hW.early n14 dF
   simp only[Na14Mk,sld_yes q7]
   go_simp
   exact hK _ _ ⟨H,G,cp,by simp only[Na14Mk,sld_set hlt,sld_yes q7,reduceIte,Nat.reduceEqDiff];try rfl,(hW.keep hlt (by decide) (by decide) (by decide))⟩
  ·change some _=some o at ho
   cases ho
   simp only[Na14Mk]
   go_simp
   exact hK _ _ ⟨H,G,cp,by simp only[Na14Mk,sld_set hlt,reduceIte,Nat.reduceEqDiff];try rfl,(hW.keep hlt (by decide) (by decide) (by decide))⟩
  ·change some _=some o at ho
   cases ho
   have q8:up L 8=true:=hd { on:=8,ground:=.data } (by simp) rfl
   have q9:up L 9=true:=hd { on:=9,ground:=.data } (by simp) rfl
   simp only[Na14Mk,sld_yes q8,sld_yes q9]
   go_simp
   exact hK _ _ ⟨H,G,cp,by simp only[Na14Mk,sld_set hlt,sld_yes q8,sld_yes q9,reduceIte,Nat.reduceEqDiff];try rfl,(hW.keep hlt (by decide) (by decide) (by decide))⟩
  ·change some _=some o at ho
   cases ho
   have q10:up L 10=true:=hd { on:=10,ground:=.data } (by simp) rfl
   have n14:up L 14=false:=hC.no nl 14 rfl (by kernel_rfl)
   have cx:=hW.early n14 dR
   simp only[Na14Mk,sld_yes q10]
   go_simp
   exact hK _ _ ⟨H,G,cp,by simp only[Na14Mk,sld_set hlt,sld_yes q10,reduceIte,Nat.reduceEqDiff];try rfl,(hW.keep hlt (by decide) (by decide) (by decide))⟩
  ·change some _=some o at ho
   cases ho
   simp only[Na14Mk]
   go_simp
   exact hK _ _ ⟨H,G,cp,by simp only[Na14Mk,sld_set hlt,reduceIte,Nat.reduceEqDiff];try rfl,(hW.keep hlt (by decide) (by decide) (by decide))⟩
  ·change some _=some o at ho
   cases ho
   have q12:up L 12=true:=hd { on:=12,ground:=.data } (by simp) rfl
   have n14:up L 14=false:=hC.no nl 14 rfl (by kernel_rfl)
   obtain rfl:=hW.1 nl
   simp only[Na14Mk,sld_yes q12]
   go_simp
   exact hK _ _ ⟨y.drew.heap.size,G,cp,by simp only[Na14Mk,sld_set hlt,sld_yes q12,reduceIte,Nat.reduceEqDiff];try rfl,⟨fun z=>absurd (z.symm.trans ((up_set hlt _).trans (if_pos rfl))) (by decide),fun _ _=>⟨rfl,rfl⟩,fun z=>absurd (z.symm.trans ((up_set hlt 14).trans n14)) (by decide)⟩⟩
  ·change some _=some o at ho
   cases ho
   have q11:up L 11=true:=hd { on:=11,ground:=.data } (by simp) rfl
   have q13:up L 13=true:=hd { on:=13,ground:=.data } (by simp) rfl
   have n16:up L 16=false:=hC.no nl 16 rfl (by kernel_rfl)
   obtain⟨rfl,rfl⟩:=hW.2.1 q13 nl
   have hown0:=own_keepI HO.out (below_alloc y.drew (.cells #[.int .i64 x] 108))
   simp only[Na14Mk,sld_yes q11,sld_yes q13]
   rw[if_pos (by rfl)]
   refine wp_append_lies _ (.tmp 94) (.tmp 96) 119 (by rfl) W0.heap.size 108 i0 (.int .i64 0) 1 8 Tryz.underlying119 hi0 hz0 hz1 hz2 rfl (by decide) (.slice a m c) m xs (by rfl) hown0 ⟨y.drew.heap.size,0,none⟩ 1 1 [.int .i64 x] (by rfl) rfl (World.news_of_block (heap_alloc_new y.drew (.cells #[.int .i64 x] 108))) (by intro z hz;simp at hz;subst hz;rfl) (by decide) (by unfold maxLen;omega) (by omega) (Nat.le_trans HBL.out.size (below_alloc y.drew _).size) _ rfl ?_
   intro G' cp' w2 hown1 hgrow hat hlt1
   exact hK _ _ ⟨y.drew.heap.size,G',cp',by simp only[Na14Mk,sld_set hlt,sld_yes q11,sld_yes q13,reduceIte,Nat.reduceEqDiff];try rfl,⟨fun z=>absurd (z.symm.trans ((up_set hlt 13).trans q13)) (by decide),fun _ z=>absurd (z.symm.trans ((up_set hlt _).trans (if_pos rfl))) (by decide),fun _=>⟨w2,hown1,hgrow,by (rcases hat with e | e;exact .inl e;exact .inr (by rw[e];simp)),fun _=>rfl,fun z=>absurd (z.symm.trans ((up_set hlt 16).trans n16)) (by decide)⟩⟩⟩
  ·change some _=some o at ho
   cases ho
   have q3:up L 3=true:=hd { on:=3,ground:=.data } (by simp) rfl
   have q4:up L 4=true:=hd { on:=4,ground:=.data } (by simp) rfl
   simp only[Na14Mk,sld_yes q3,sld_yes q4]
   go_simp
   exact hK _ _ ⟨H,G,cp,by simp only[Na14Mk,sld_set hlt,sld_yes q3,sld_yes q4,reduceIte,Nat.reduceEqDiff];try rfl,(hW.keep hlt (by decide) (by decide) (by decide))⟩
  ·change some _=some o at ho
   cases ho
   have q14:up L 14=true:=hd { on:=14,ground:=.data } (by simp) rfl
   have q15:up L 15=true:=hd { on:=15,ground:=.data } (by simp) rfl
   have q13:up L 13=true:=hC 14 _ rfl q14 { on:=13,ground:=.data } (by simp) rfl
   have cx:=hW.any nl HNO.out dO
   obtain⟨w2,y1,y2,y3,y5,_⟩:=hW.2.2 q14
   obtain rfl:=y5 nl
   have fx:=HFZ.out w y2
   simp only[Na14Mk,sld_yes q14,sld_yes q15]
   go_simp
   exact hK _ _ ⟨H,G,cp,by simp only[Na14Mk,sld_set hlt,sld_yes q14,sld_yes q15,reduceIte,Nat.reduceEqDiff];try rfl,⟨fun z=>absurd (z.symm.trans ((up_set hlt 13).trans q13)) (by decide),fun _ z=>absurd (z.symm.trans ((up_set hlt 14).trans q14)) (by decide),fun _=>⟨w,y1,y2,y3,fun z=>absurd (z.symm.trans ((up_set hlt _).trans (if_pos rfl))) (by decide),fun _=>rfl⟩⟩⟩
 case done=>
  rintro L ac w ⟨H,G,cp,rfl,hW⟩ hall
  obtain⟨w2,y1,y2,y3,_,y5⟩:=hW.2.2 (hall 14 (by decide))
  obtain rfl:=y5 (hall 16 (by decide))
  simp only[Na14Mk,sld_yes (hall 0 (by decide)),sld_yes (hall 1 (by decide)),sld_yes (hall 2 (by decide)),sld_yes (hall 3 (by decide)),sld_yes (hall 4 (by decide)),sld_yes (hall 5 (by decide)),sld_yes (hall 6 (by decide)),sld_yes (hall 7 (by decide)),sld_yes (hall 8 (by decide)),sld_yes (hall 9 (by decide)),sld_yes (hall 10 (by decide)),sld_yes (hall 11 (by decide)),sld_yes (hall 12 (by decide)),sld_yes (hall 13 (by decide)),sld_yes (hall 14 (by decide)),sld_yes (hall 15 (by decide))]
  obtain⟨hV,hm,hgo,hkk⟩:=HVV.out
  have hxs:=HXS.out
  subst hxs hm hgo hkk
  rw[<- hV]at y2 y3
  refine HKt.out _ _ _ _ _ _ _ _ _ _ _ _ _ _ _ _ G cp _ _ (HL.out.app_u hi (below_alloc y.drew _) y1 y2 y3) ⟨?_,fun g hg=>⟨newT_old hg,HL.out.far_u hi (below_alloc y.drew _) y2 hg⟩⟩
  have e:=y2.size
  simp at e ⊢
  omega
end Go.Proofs.YtcgfgmlfbgbkfaaGreatDoor.W
