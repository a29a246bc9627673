import Derived.Test.YtlbomnnldkeocaaGreatI02
set_option maxHeartbeats 16000000
namespace Go.Proofs.YtlbomnnldkeocaaGreat.W
open Go.RowKit
theorem fM (w:World) (o:Obj) (g:Nat) (h:w.heap.size=g):(w.alloc o).heap[g]?=some o:=by subst h;exact heap_alloc_new w o
theorem lI (w:World) (c c':Array Value) (t:TypeId) (g:Nat) (h:w.heap.size=g):(w.alloc (.cells c t)).setRow g c'=w.alloc (.cells c' t):=by subst h;exact World.setRow_alloc_new w c c' t
theorem tK (im:Int) (f:Nat) (w:World):Calls Tryz.prog 116 #[.int .i64 im,.agg (Pl.bJ f)] w fun e w'=>e=.returned (.bool (Pl.vU f im))/\Below w.heap.size w w':=by
 unfold Pl.bJ
 have hst:=Pl.DL f
 have hs0:¬ Pl.st f=0:=by omega
 by_cases h1:Pl.lo f<=im
 ·by_cases h2:im<=Pl.hi f
  ·have e:Pl.vU f im=(im.tmod (Pl.st f) == 0):=by simp[Pl.vU,h1,h2]
   rw[e]
   clear e
   go_enter Tryz.func116,Tryz.ntmps116
   go_wp2
   go_ret
   exact⟨rfl,(Below.refl _ _).alloc (Nat.le_refl _) _⟩
  ·have e:Pl.vU f im=false:=by simp[Pl.vU,h2]
   rw[e]
   clear e
   go_enter Tryz.func116,Tryz.ntmps116
   go_wp2
   go_ret
   exact⟨rfl,(Below.refl _ _).alloc (Nat.le_refl _) _⟩
 ·have e:Pl.vU f im=false:=by simp[Pl.vU,h1]
  rw[e]
  clear e
  have h3:decide (Pl.lo f<=im)=false:=by simpa using h1
  go_enter Tryz.func116,Tryz.ntmps116
  go_wp2
  go_ret
  exact⟨rfl,(Below.refl _ _).alloc (Nat.le_refl _) _⟩
theorem pK (k:Nat) (h1:1<=k) (h2:k<=47) (w:World):Calls Tryz.prog 40 #[.int .i64 k] w fun e w'=>e=.returned (.tuple #[.agg (Pl.rowV k),.bool true])/\w'=(w.alloc (.cells (Pl.rowV k) 78)).alloc (.cells Pl.instTab 122):=by
 have hi:=fun w=>tab_index w k (by omega)
 unfold Pl.rowV at hi
 go_enter Tryz.func40,Tryz.ntmps40
 go_wp2_with (go_at_call 87;refine (instTable_any _).mono ?_;rintro e w' ⟨rfl,rfl⟩)
 exact bodyPost_ret (v:=.tuple #[.agg (Pl.rowV k),.bool true]) (by simp[results,Tryz.results40,go_sem,Pl.rowV]) rfl ⟨rfl,rfl⟩
theorem uX {P:Program} {ops:Array Oper} {rest:List Oper} {o:Oper} {a:Act} {w:World} {Q:Exit->Act->World->Prop} (ty:TypeId) (x:Operand) (ho:o.op=.load ty x) (hw:Region.wanted o (yielded ops a.tmps)=true)
  (g:Nat) (hx:a.eval x=.pointer (some ⟨g,0,none⟩)) (t:TypeId) (cs:Array Value) (fr:Nat × Nat) (d:TypeDesc) (hg:w.heap[g]?=some (.cells cs t fr))
  (hu:P.underlying ty=some d) (hd:(match d with | .struct _ | .array _ _=>true | _=>false)=true) (hi:(P.info? ty).map (·.size)=some cs.size)
  (h:wpList P ops Q rest (a.put o.dst (.agg cs)) w):wpList P ops Q (o :: rest) a w:=by
 unfold wpList
 rw[if_pos hw]
 exact Or.inl (wp_load_row ty x ho g hx t cs fr d hg hu hd hi h)
theorem xY (k:Nat) (h1:1<=k) (h2:k<=47):1<=Pl.dC k/\Pl.dC k<=8/\Pl.fm k=(Pl.dC k:Int):=Pl.qW k (by omega) h1
theorem zK (n:Int) (h:n<1\/47<n) (rd r1 r2 im:Int) (w:World):Calls Tryz.prog 84 #[.agg #[.int .i64 n,.int .i64 rd,.int .i64 r1,.int .i64 r2,.int .i64 im]] w fun e w'=>e=.returned (.bool false)/\Below w.heap.size w w':=by
 go_enter Tryz.func84,Tryz.ntmps84
 go_wp2_with (go_at_call 40;refine (rowOf_no n h _).mono ?_;rintro e u1 ⟨rfl,hb1⟩; unfold rowZ)
 go_ret
 exact⟨rfl,((((Below.refl _ _).alloc (Nat.le_refl _) _)).trans (hb1.mono (by simp))).alloc (by have:=hb1.size;simp at this;omega) _⟩
theorem zL (k f:Nat) (h1:1<=k) (h2:k<=47) (f1:1<=f) (f2:f<=8) (HF:Hid (Pl.fm k=(f:Int))) (rd r1 r2 im:Int) (g0:Pl.rg rd (Pl.us f 0)=false) (w:World):Calls Tryz.prog 84 #[.agg #[.int .i64 k,.int .i64 rd,.int .i64 r1,.int .i64 r2,.int .i64 im]] w fun e w'=>e=.returned (.bool false)/\Below w.heap.size w w':=by
 have q0:(Pl.bJ f)[0]?=some (.bool (Pl.us f 0)):=rfl
 have q1:(Pl.bJ f)[1]?=some (.bool (Pl.us f 1)):=rfl
 have q2:(Pl.bJ f)[2]?=some (.bool (Pl.us f 2)):=rfl
 go_enter Tryz.func84,Tryz.ntmps84
 go_wp2_with (first | (go_at_call 40;refine (pK k h1 h2 _).mono ?_;rintro e u1 ⟨rfl,rfl⟩; unfold Pl.rowV) | (go_at_call 42;refine (lZ _ f HF.out f1 f2 _).mono ?_;rintro e u2 ⟨rfl,rfl⟩) | (refine wpList_store_row rfl 86 _ _ rfl _ (Pl.bJ f) rfl rfl 86 _ (fM _ _ _ (by simp)) (by kernel_rfl) (by kernel_rfl) (by kernel_rfl) ?_;rw[lI _ _ _ _ _ (by simp)]) | (refine wpList_load_row rfl 86 _ rfl _ rfl 86 (Pl.bJ f) (0,0) _ (fM _ _ _ (by simp)) Tryz.underlying86 rfl (by kernel_rfl) ?_) | (go_at_call 112;refine (dF _ _ _).mono ?_;rintro e u3 ⟨rfl,rfl⟩) | (go_at_call 116;refine (tK _ f _).mono ?_;rintro e u4 ⟨rfl,hb4⟩))
 go_ret
 exact⟨rfl,(by repeat (first | exact Below.refl _ _ | refine Below.alloc ?_ (by simp <;> omega) _))⟩
theorem zM (k f:Nat) (h1:1<=k) (h2:k<=47) (f1:1<=f) (f2:f<=8) (HF:Hid (Pl.fm k=(f:Int))) (rd r1 r2 im:Int) (g0:Pl.rg rd (Pl.us f 0)=true) (g1:Pl.rg r1 (Pl.us f 1)=false) (w:World):Calls Tryz.prog 84 #[.agg #[.int .i64 k,.int .i64 rd,.int .i64 r1,.int .i64 r2,.int .i64 im]] w fun e w'=>e=.returned (.bool false)/\Below w.heap.size w w':=by
 have q0:(Pl.bJ f)[0]?=some (.bool (Pl.us f 0)):=rfl
 have q1:(Pl.bJ f)[1]?=some (.bool (Pl.us f 1)):=rfl
 have q2:(Pl.bJ f)[2]?=some (.bool (Pl.us f 2)):=rfl
 go_enter Tryz.func84,Tryz.ntmps84
 go_wp2_with (first | (go_at_call 40;refine (pK k h1 h2 _).mono ?_;rintro e u1 ⟨rfl,rfl⟩; unfold Pl.rowV) | (go_at_call 42;refine (lZ _ f HF.out f1 f2 _).mono ?_;rintro e u2 ⟨rfl,rfl⟩) | (refine wpList_store_row rfl 86 _ _ rfl _ (Pl.bJ f) rfl rfl 86 _ (fM _ _ _ (by simp)) (by kernel_rfl) (by kernel_rfl) (by kernel_rfl) ?_;rw[lI _ _ _ _ _ (by simp)]) | (refine wpList_load_row rfl 86 _ rfl _ rfl 86 (Pl.bJ f) (0,0) _ (fM _ _ _ (by simp)) Tryz.underlying86 rfl (by kernel_rfl) ?_) | (go_at_call 112;refine (dF _ _ _).mono ?_;rintro e u3 ⟨rfl,rfl⟩) | (go_at_call 116;refine (tK _ f _).mono ?_;rintro e u4 ⟨rfl,hb4⟩))
 go_ret
 exact⟨rfl,(by repeat (first | exact Below.refl _ _ | refine Below.alloc ?_ (by simp <;> omega) _))⟩
theorem zN (k f:Nat) (h1:1<=k) (h2:k<=47) (f1:1<=f) (f2:f<=8) (HF:Hid (Pl.fm k=(f:Int))) (rd r1 r2 im:Int) (g0:Pl.rg rd (Pl.us f 0)=true) (g1:Pl.rg r1 (Pl.us f 1)=true) (g2:Pl.rg r2 (Pl.us f 2)=false) (w:World):Calls Tryz.prog 84 #[.agg #[.int .i64 k,.int .i64 rd,.int .i64 r1,.int .i64 r2,.int .i64 im]] w fun e w'=>e=.returned (.bool false)/\Below w.heap.size w w':=by
 have q0:(Pl.bJ f)[0]?=some (.bool (Pl.us f 0)):=rfl
 have q1:(Pl.bJ f)[1]?=some (.bool (Pl.us f 1)):=rfl
 have q2:(Pl.bJ f)[2]?=some (.bool (Pl.us f 2)):=rfl
 go_enter Tryz.func84,Tryz.ntmps84
 go_wp2_with (first | (go_at_call 40;refine (pK k h1 h2 _).mono ?_;rintro e u1 ⟨rfl,rfl⟩; unfold Pl.rowV) | (go_at_call 42;refine (lZ _ f HF.out f1 f2 _).mono ?_;rintro e u2 ⟨rfl,rfl⟩) | (refine wpList_store_row rfl 86 _ _ rfl _ (Pl.bJ f) rfl rfl 86 _ (fM _ _ _ (by simp)) (by kernel_rfl) (by kernel_rfl) (by kernel_rfl) ?_;rw[lI _ _ _ _ _ (by simp)]) | (refine wpList_load_row rfl 86 _ rfl _ rfl 86 (Pl.bJ f) (0,0) _ (fM _ _ _ (by simp)) Tryz.underlying86 rfl (by kernel_rfl) ?_) | (go_at_call 112;refine (dF _ _ _).mono ?_;rintro e u3 ⟨rfl,rfl⟩) | (go_at_call 116;refine (tK _ f _).mono ?_;rintro e u4 ⟨rfl,hb4⟩))
 go_ret
 exact⟨rfl,(by repeat (first | exact Below.refl _ _ | refine Below.alloc ?_ (by simp <;> omega) _))⟩
theorem zO (k f:Nat) (h1:1<=k) (h2:k<=47) (f1:1<=f) (f2:f<=8) (HF:Hid (Pl.fm k=(f:Int))) (rd r1 r2 im:Int) (g0:Pl.rg rd (Pl.us f 0)=true) (g1:Pl.rg r1 (Pl.us f 1)=true) (g2:Pl.rg r2 (Pl.us f 2)=true) (w:World):Calls Tryz.prog 84 #[.agg #[.int .i64 k,.int .i64 rd,.int .i64 r1,.int .i64 r2,.int .i64 im]] w fun e w'=>e=.returned (.bool (Pl.vU f im))/\Below w.heap.size w w':=by
 have q0:(Pl.bJ f)[0]?=some (.bool (Pl.us f 0)):=rfl
 have q1:(Pl.bJ f)[1]?=some (.bool (Pl.us f 1)):=rfl
 have q2:(Pl.bJ f)[2]?=some (.bool (Pl.us f 2)):=rfl
 go_enter Tryz.func84,Tryz.ntmps84
 go_wp2_with (first | (go_at_call 40;refine (pK k h1 h2 _).mono ?_;rintro e u1 ⟨rfl,rfl⟩; unfold Pl.rowV) | (go_at_call 42;refine (lZ _ f HF.out f1 f2 _).mono ?_;rintro e u2 ⟨rfl,rfl⟩) | (refine wpList_store_row rfl 86 _ _ rfl _ (Pl.bJ f) rfl rfl 86 _ (fM _ _ _ (by simp)) (by kernel_rfl) (by kernel_rfl) (by kernel_rfl) ?_;rw[lI _ _ _ _ _ (by simp)]) | (refine uX 86 _ rfl (by kernel_rfl) _ rfl 86 (Pl.bJ f) (0,0) _ (fM _ _ _ (by simp)) Tryz.underlying86 rfl (by kernel_rfl) ?_) | (go_at_call 112;refine (dF _ _ _).mono ?_;rintro e u3 ⟨rfl,rfl⟩) | (go_at_call 116;refine (tK _ f _).mono ?_;rintro e u4 ⟨rfl,hb4⟩))
 go_ret
 exact⟨rfl,Below.trans (by repeat (first | exact Below.refl _ _ | refine Below.alloc ?_ (by simp <;> omega) _)) (hb4.mono (by simp <;> omega))⟩
theorem xZ (k:Nat) (h1:1<=k) (h2:k<=47) (rd r1 r2 im:Int) (w:World):Calls Tryz.prog 84 #[.agg #[.int .i64 k,.int .i64 rd,.int .i64 r1,.int .i64 r2,.int .i64 im]] w fun e w'=>e=.returned (.bool (Pl.okF (Pl.dC k) rd r1 r2 im))/\Below w.heap.size w w':=by
 obtain⟨f1,f2,hf⟩:=xY k h1 h2
 generalize Pl.dC k=f at f1 f2 hf ⊢
 cases g0:Pl.rg rd (Pl.us f 0)
 ·have e:Pl.okF f rd r1 r2 im=false:=by simp[Pl.okF,g0]
  rw[e];exact zL k f h1 h2 f1 f2 hf rd r1 r2 im g0 w
 ·cases g1:Pl.rg r1 (Pl.us f 1)
  ·have e:Pl.okF f rd r1 r2 im=false:=by simp[Pl.okF,g1]
   rw[e];exact zM k f h1 h2 f1 f2 hf rd r1 r2 im g0 g1 w
  ·cases g2:Pl.rg r2 (Pl.us f 2)
   ·have e:Pl.okF f rd r1 r2 im=false:=by simp[Pl.okF,g2]
    rw[e];exact zN k f h1 h2 f1 f2 hf rd r1 r2 im g0 g1 g2 w
   ·have e:Pl.okF f rd r1 r2 im=Pl.vU f im:=by simp[Pl.okF,g0,g1,g2]
    rw[e];exact zO k f h1 h2 f1 f2 hf rd r1 r2 im g0 g1 g2 w
end Go.Proofs.YtlbomnnldkeocaaGreat.W
