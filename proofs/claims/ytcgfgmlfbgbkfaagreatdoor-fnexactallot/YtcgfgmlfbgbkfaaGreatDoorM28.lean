import Derived.Test.YtcgfgmlfbgbkfaaGreatDoorM01
import Derived.Test.YtcgfgmlfbgbkfaaGreatDoorM27
import Derived.WalkKit
import Derived.ProofKit
import Derived.OpenShut
import Derived.ChangeSlices
import Derived.Below
import Derived.Test.YtcgfgmlfbgbkfaaGreatDoorChecked
import Derived.ShutString
import Derived.ChangeMaps5
import Derived.Test.YtcgfgmlfbgbkfaaGreatDoorM02
import Derived.Deep.Slices
import Derived.Lib.LaidTab
set_option linter.unusedVariables false
set_option maxHeartbeats 16000000
namespace Go.Proofs.YtcgfgmlfbgbkfaaGreatDoor.Kit
open Go Go.ChangeShapes Go.WideShapes Go.ChangeAt Go.RowKit
section
variable {P:Program} {H:Type} {enc:TypeId × Value->H} {w:World} {base:Nat} {spare:Nat->Bool} {held:Bool}
theorem slice_row {t e:TypeId} {k:IntKind} {fuel:Nat} {c:Value} {x:DataW H × List MemPlace} (ht:P.underlying t=some (.slice e)) (he:P.underlying e=some (.int k)) (hc:P.cellsOf e=1)
  (h:DataW.trod enc P w base spare held fuel t [c]=some x):∃ (a:Option Addr) (len cap:Nat) (zs:List Int),c=.slice a len cap/\W.Row k 0 w a len cap zs:=by
 rcases open_ints ht he hc h with ⟨hcs,_⟩ | ⟨a,len,cap,zs,hcs,_,hl,hm,hz,_,hcell,hwz⟩
 ·have hc0:c=.slice none 0 0:=by simpa using hcs
  exact⟨none,0,0,[],hc0,rfl,Nat.le_refl _,Nat.zero_le _,fun n hn=>(by cases hn),.inl rfl⟩
 ·have hc0:c=.slice (some a) len cap:=by simpa using hcs
  have hlen:len<=zs.length:=by rw[hz];split <;> omega
  refine⟨some a,len,cap,zs.take len,hc0,by rw[List.length_take];omega,hl,hm,fun n hn=>hwz n (List.mem_of_mem_take hn),?_⟩
  by_cases h0:len=0
  ·exact .inl h0
  ·obtain⟨b,off,spot⟩:=a
   have hspot:spot=none:=by simpa [Addr.add] using World.cell?_spot (hcell 0 (by omega))
   subst hspot
   have hc1:=hcell 0 (by omega)
   refine .inr ⟨b,off,rfl,Nat.zero_le _,block_lt_of_cell (by simpa [Addr.add] using hc1),fun i hi=>?_⟩
   have hc2:=hcell i (by omega)
   have hadd:(⟨b,off,none⟩:Addr).add i=⟨b,off+i,none⟩:=by unfold Addr.add;split <;> simp_all
   rw[<- hadd,hc2,List.getD_eq_getElem?_getD,List.getD_eq_getElem?_getD,List.getElem?_take,if_pos hi]
theorem field_slice {t:TypeId} {fs:Array Field} {fuel:Nat} {cs:List Value} {x:DataW H × List MemPlace} (hs:P.underlying t=some (.struct fs)) (hf:DataW.trod enc P w base spare held fuel t cs=some x)
  (i:Nat) (f:Field) (o:Nat) (hfi:fs[i]?=some f) (ho:f.offset=o) {e:TypeId} {k:IntKind} (ht:P.underlying f.type=some (.slice e)) (he:P.underlying e=some (.int k)) (hce:P.cellsOf e=1) (hc:P.cellsOf f.type=1) (c:Value) (hcell:cs[o]?=some c) :
  ∃ (a:Option Addr) (len cap:Nat) (zs:List Int),c=.slice a len cap/\W.Row k 0 w a len cap zs:=by
 obtain⟨xs,n,_,_,_,hlen,hF⟩:=DataW.trod_struct hs hf
 have h:=hF i f hfi
 have hi:i<fs.size:=(Array.getElem?_eq_some_iff.1 hfi).1
 have hx:xs[i]?=some (xs[i]'(by omega)):=List.getElem?_eq_getElem _
 rw[ho,hc,hx]at h
 have ht1:(cs.drop o).take 1=[c]:=by
  have hi':o<cs.length:=(List.getElem?_eq_some_iff.1 hcell).1
  have hv:cs[o]=c:=(List.getElem?_eq_some_iff.1 hcell).2
  rw[List.drop_eq_getElem_cons hi'];simp[hv]
 rw[ht1]at h
 exact slice_row ht he hce h
end
section
variable {H:Type} {enc:TypeId × Value->H} {w:World} {base:Nat} {spare:Nat->Bool} {held:Bool}
end
section
variable {P:Program} {H:Type} {enc:TypeId × Value->H} {w:World} {base:Nat} {spare:Nat->Bool} {held:Bool}
theorem field_cells {t:TypeId} {fs:Array Field} {fuel:Nat} {cs:List Value} {x:DataW H × List MemPlace} (hs:P.underlying t=some (.struct fs)) (hf:DataW.trod enc P w base spare held fuel t cs=some x)
  (i:Nat) (f:Field) (o c:Nat) (hfi:fs[i]?=some f) (ho:f.offset=o) (hc:P.cellsOf f.type=c) :
  ∃ n x',DataW.trod enc P w base spare held n f.type ((cs.drop o).take c)=some x':=by
 obtain⟨xs,n,_,_,_,hlen,hF⟩:=DataW.trod_struct hs hf
 have h:=hF i f hfi
 have hi:i<fs.size:=(Array.getElem?_eq_some_iff.1 hfi).1
 have hx:xs[i]?=some (xs[i]'(by omega)):=List.getElem?_eq_getElem _
 rw[ho,hc,hx]at h
 exact⟨_,_,h⟩
end
section
variable {H:Type} {enc:TypeId × Value->H} {w:World} {base:Nat} {spare:Nat->Bool} {held:Bool}
end
section
variable {H:Type} {enc:TypeId × Value->H} {w:World} {base:Nat} {spare:Nat->Bool} {held:Bool}
set_option maxRecDepth 100000 in
theorem ins_cells9 {fuel:Nat} {cs:List Value} {x:DataW H × List MemPlace} (hf:DataW.trod enc Tryz.prog w base spare held fuel 80 cs=some x):∃ (l:Pl.IrI) (v:W.SV),cs=(l.cells v).toList/\((-9223372036854775808<=l.op/\l.op<=9223372036854775807)/\(-9223372036854775808<=l.d/\l.d<=9223372036854775807)/\(-9223372036854775808<=l.a/\l.a<=9223372036854775807)/\(-9223372036854775808<=l.b/\l.b<=9223372036854775807)/\(-9223372036854775808<=l.n/\l.n<=9223372036854775807))/\l.sym.size<=maxLen/\W.Row .i64 0 w v.a v.len v.cap l.args:=by
 have hC:Tryz.prog.cellsOf 80=7:=by kernel_rfl
 have hsz:cs.length=7:=by
  obtain⟨xs,n,_,_,hl,_⟩:=DataW.trod_struct Tryz.underlying80 hf
  exact hl.trans hC
 obtain⟨c0,c1,c2,c3,c4,c5,c6,rfl⟩:∃ c0 c1 c2 c3 c4 c5 c6,cs=[c0,c1,c2,c3,c4,c5,c6]:=by
  match cs,hsz with
  | [c0,c1,c2,c3,c4,c5,c6],_=>exact⟨c0,c1,c2,c3,c4,c5,c6,rfl⟩
 clear hsz hC
 have h3:Tryz.prog.cellsOf 3=1:=by kernel_rfl
 have h9:Tryz.prog.cellsOf 9=1:=by kernel_rfl
 have hI:Tryz.prog.cellsOf 22=1:=by kernel_rfl
 obtain⟨x0,rfl,w0⟩:=field_int Tryz.underlying80 hf 0 _ rfl rfl (k:=.i64) Tryz.underlying3 h3 c0 rfl
 obtain⟨x1,rfl,w1⟩:=field_int Tryz.underlying80 hf 1 _ rfl rfl (k:=.i64) Tryz.underlying3 h3 c1 rfl
 obtain⟨x2,rfl,w2⟩:=field_int Tryz.underlying80 hf 2 _ rfl rfl (k:=.i64) Tryz.underlying3 h3 c2 rfl
 obtain⟨x3,rfl,w3⟩:=field_int Tryz.underlying80 hf 3 _ rfl rfl (k:=.i64) Tryz.underlying3 h3 c3 rfl
 obtain⟨x4,rfl,w4⟩:=field_int Tryz.underlying80 hf 4 _ rfl rfl (k:=.i64) Tryz.underlying3 h3 c4 rfl
 obtain⟨n5,y5,g5⟩:=field_cells Tryz.underlying80 hf 5 _ 5 1 rfl rfl h9
 have g5':DataW.trod enc Tryz.prog w base spare held n5 9 [c5]=some y5:=g5
 obtain⟨s,e5,_,hs⟩:=DataW.trod_string Tryz.underlying9 g5'
 obtain rfl:c5=.string s:=by simpa using e5
 obtain⟨a6,l6,k6,z6,rfl,r6⟩:=field_slice Tryz.underlying80 hf 6 _ 6 rfl rfl Tryz.underlying22 Tryz.underlying3 h3 hI c6 rfl
 exact⟨⟨x0,x1,x2,x3,x4,s,z6⟩,⟨a6,l6,k6⟩,rfl,⟨bounds_i64 w0,bounds_i64 w1,bounds_i64 w2,bounds_i64 w3,bounds_i64 w4⟩,hs,r6⟩
set_option maxRecDepth 100000 in
theorem ins_row9 {fuel:Nat} {c:Value} {x:DataW H × List MemPlace} (hf:DataW.trod enc Tryz.prog w base spare held fuel 23 [c]=some x) :
  ∃ (a:Option Addr) (len cap:Nat) (xs:List Pl.IrI),c=.slice a len cap/\(∀ x∈xs,-9223372036854775808<=x.n/\x.n<=9223372036854775807)/\W.IRow 0 w a len cap xs:=by
 have hC:Tryz.prog.cellsOf 80=7:=by kernel_rfl
 rcases Deep.open_slice Tryz.underlying23 hf with ⟨h0,_⟩ | ⟨a',len,cap,m,n,D,Q,h0,hb,hl,hm,hmm,_,hx⟩
 ·have hc0:c=.slice none 0 0:=by simpa using h0
  exact⟨none,0,0,[],hc0,fun x hx=>(by cases hx),rfl,Nat.le_refl _,Nat.zero_le _,.inl rfl⟩
 ·have hc0:c=.slice (some a') len cap:=by simpa using h0
  have hlm:len<=m:=by rw[hmm];split <;> omega
  rw[hC]at hx
  have key:∀ i,i<len->∃ (l:Pl.IrI) (v:W.SV),(∀ j,j<7->w.cell? (a'.add (i*7+j))=(l.cells v)[j]?)/\((-9223372036854775808<=l.op/\l.op<=9223372036854775807)/\(-9223372036854775808<=l.d/\l.d<=9223372036854775807)/\(-9223372036854775808<=l.a/\l.a<=9223372036854775807)/\(-9223372036854775808<=l.b/\l.b<=9223372036854775807)/\(-9223372036854775808<=l.n/\l.n<=9223372036854775807))/\l.sym.size<=maxLen/\W.Row .i64 0 w v.a v.len v.cap l.args:=by
   intro i hi
   obtain⟨cs',h1,h2⟩:=hx i (by omega)
   obtain⟨l,v,rfl,hB,hs,hr⟩:=ins_cells9 h2
   refine⟨l,v,fun j hj=>?_,hB,hs,hr⟩
   unfold World.cells? at h1
   split at h1
   ·obtain⟨v',e1,e2⟩:=Lib.mapM_at h1 j j (by simp[hj])
    rw[Deep.add_add]at e2
    rw[e2,<- e1,Array.getElem?_toList]
   ·cases h1
  obtain⟨X,hX⟩:∃ X:Nat->Pl.IrI,∀ i,i<len->∃ v:W.SV,(∀ j,j<7->w.cell? (a'.add (i*7+j))=((X i).cells v)[j]?)/\((-9223372036854775808<=(X i).op/\(X i).op<=9223372036854775807)/\(-9223372036854775808<=(X i).d/\(X i).d<=9223372036854775807)/\(-9223372036854775808<=(X i).a/\(X i).a<=9223372036854775807)/\(-9223372036854775808<=(X i).b/\(X i).b<=9223372036854775807)/\(-9223372036854775808<=(X i).n/\(X i).n<=9223372036854775807))/\(X i).sym.size<=maxLen/\W.Row .i64 0 w v.a v.len v.cap (X i).args:=
   ⟨fun i=>if h:i<len then Classical.choose (key i h) else Pl.IrI.zero,fun i h=>by simp only[dif_pos h];exact Classical.choose_spec (key i h)⟩
  refine⟨some a',len,cap,(List.range len).map X,hc0,fun x hx=>?_,by simp,hl,hm,?_⟩
  ·obtain⟨i,hi,rfl⟩:=List.mem_map.1 hx
   obtain⟨v,_,h2,_,_⟩:=hX i (List.mem_range.1 hi)
   exact h2.2.2.2.2
  ·by_cases h0:len=0
   ·exact .inl h0
   ·obtain⟨b,off,spot⟩:=a'
    obtain⟨v0,hv0,_,_,_⟩:=hX 0 (by omega)
    have hc0:=hv0 0 (by decide)
    have hspot:spot=none:=by
     have:w.cell? ⟨b,off,spot⟩=some (.int .i64 (X 0).op):=by
      have e:(⟨b,off,spot⟩:Addr).add (0*7+0)=⟨b,off,spot⟩:=by simp[Addr.add]
      rw[e]at hc0
      exact hc0
     exact World.cell?_spot this
    subst hspot
    have hadd:∀ q,(⟨b,off,none⟩:Addr).add q=⟨b,off+q,none⟩:=fun q=>by unfold Addr.add;split <;> simp_all
    refine .inr ⟨b,off,rfl,Nat.zero_le _,?_,fun i hi=>?_⟩
    ·rw[hadd]at hc0
     exact block_lt_of_cell hc0
    ·obtain⟨v,h1,_,h4,h3⟩:=hX i hi
     have e:((List.range len).map X).getD i Pl.IrI.zero=X i:=by
      rw[List.getD_eq_getElem?_getD,List.getElem?_map,List.getElem?_range hi]
      rfl
     rw[e]
     refine⟨v,fun j hj=>?_,h3,h4⟩
     have:=h1 j hj
     rw[hadd,<- Nat.add_assoc]at this
     exact this
set_option maxRecDepth 100000 in
theorem open_irfun {r:Reach} {b0:Nat} {val:Value} {d:DataW H} {p:List MemPlace} (hv:Value.okWide Tryz.prog w r b0 25 val) (h:DataW.Trod enc Tryz.prog w base spare held 25 val d p) :
  ∃ (f:Pl.IrF) (v s:W.SV),val=.agg #[.string f.name,.int .i64 f.params,.int .i64 f.regs,.slice v.a v.len v.cap,.slice s.a s.len s.cap]/\(∀ x∈f.code,-9223372036854775808<=x.n/\x.n<=9223372036854775807)/\W.FIs 0 w v s f:=by
 obtain⟨cs,rfl,hsz⟩:=okWide_struct Tryz.underlying25 hv
 have hC:Tryz.prog.cellsOf 25=5:=by kernel_rfl
 obtain⟨c0,c1,c2,c3,c4,rfl⟩:∃ c0 c1 c2 c3 c4,cs=#[c0,c1,c2,c3,c4]:=by
  have h1:=hsz.trans hC
  obtain⟨l⟩:=cs
  match l,h1 with
  | [c0,c1,c2,c3,c4],_=>exact⟨c0,c1,c2,c3,c4,rfl⟩
 have h3:Tryz.prog.cellsOf 3=1:=by kernel_rfl
 have h9:Tryz.prog.cellsOf 9=1:=by kernel_rfl
 have hI:Tryz.prog.cellsOf 22=1:=by kernel_rfl
 have hN:Tryz.prog.cellsOf 23=1:=by kernel_rfl
 obtain⟨fuel,hf⟩:=h
 have hf':DataW.trod enc Tryz.prog w base spare held fuel 25 [c0,c1,c2,c3,c4]=some (d,p):=by simpa [Value.cells] using hf
 obtain⟨n0,y0,g0⟩:=field_cells Tryz.underlying25 hf' 0 _ 0 1 rfl rfl h9
 have g0':DataW.trod enc Tryz.prog w base spare held n0 9 [c0]=some y0:=g0
 obtain⟨s,e0,_,hs⟩:=DataW.trod_string Tryz.underlying9 g0'
 obtain rfl:c0=.string s:=by simpa using e0
 obtain⟨x1,rfl,w1⟩:=field_int Tryz.underlying25 hf' 1 _ rfl rfl (k:=.i64) Tryz.underlying3 h3 c1 rfl
 obtain⟨x2,rfl,w2⟩:=field_int Tryz.underlying25 hf' 2 _ rfl rfl (k:=.i64) Tryz.underlying3 h3 c2 rfl
 obtain⟨a3,l3,k3,z3,rfl,r3⟩:=field_slice Tryz.underlying25 hf' 3 _ 3 rfl rfl Tryz.underlying22 Tryz.underlying3 h3 hI c3 rfl
 obtain⟨n4,y4,g4⟩:=field_cells Tryz.underlying25 hf' 4 _ 4 1 rfl rfl hN
 have g4':DataW.trod enc Tryz.prog w base spare held n4 23 [c4]=some y4:=g4
 obtain⟨a,len,cap,xs,rfl,hw,hr⟩:=ins_row9 g4'
 exact⟨⟨s,x1,x2,z3,xs⟩,⟨a3,l3,k3⟩,⟨a,len,cap⟩,rfl,hw,r3,hr,hs⟩
end
end Go.Proofs.YtcgfgmlfbgbkfaaGreatDoor.Kit
