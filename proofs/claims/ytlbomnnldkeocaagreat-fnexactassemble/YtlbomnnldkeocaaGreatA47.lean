import Derived.Test.YtlbomnnldkeocaaGreatChecked
import Derived.Test.YtlbomnnldkeocaaGreatA06
import Derived.WalkKit
import Derived.ProofKit
import Derived.OpenShut
import Derived.ShutString
import Derived.ChangeMaps5
import Derived.Below
import Derived.Test.YtlbomnnldkeocaaGreatA00
import Derived.Deep.Slices
import Derived.Lib.LaidTab
set_option linter.unusedVariables false
set_option maxHeartbeats 16000000
namespace Go.Proofs.YtlbomnnldkeocaaGreat.Kit
open Go Go.ChangeShapes Go.WideShapes Go.ChangeAt Go.RowKit
section
variable {P:Program} {H:Type} {enc:TypeId × Value->H} {w:World} {base:Nat} {spare:Nat->Bool} {held:Bool}
theorem field_cells {t:TypeId} {fs:Array Field} {fuel:Nat} {cs:List Value} {x:DataW H × List MemPlace} (hs:P.underlying t=some (.struct fs)) (hf:DataW.trod enc P w base spare held fuel t cs=some x)
  (i:Nat) (f:Field) (o c:Nat) (hfi:fs[i]?=some f) (ho:f.offset=o) (hc:P.cellsOf f.type=c) :
  ∃ n x',DataW.trod enc P w base spare held n f.type ((cs.drop o).take c)=some x':=by
 obtain⟨xs,n,_,_,_,hlen,hF⟩:=DataW.trod_struct hs hf
 have h:=hF i f hfi
 have hi:i<fs.size:=(Array.getElem?_eq_some_iff.1 hfi).1
 have hx:xs[i]?=some (xs[i]'(by omega)):=List.getElem?_eq_getElem _
 rw[ho,hc,hx]at h
 exact⟨_,_,h⟩
end
section
variable {H:Type} {enc:TypeId × Value->H} {w:World} {base:Nat} {spare:Nat->Bool} {held:Bool}
end
section
variable {H:Type} {enc:TypeId × Value->H} {w:World} {base:Nat} {spare:Nat->Bool} {held:Bool}
set_option maxRecDepth 100000 in
theorem line_cells {fuel:Nat} {cs:List Value} {x:DataW H × List MemPlace} (hf:DataW.trod enc Tryz.prog w base spare held fuel 94 cs=some x):∃ l:Pl.Ln,cs=l.cells.toList/\l.s.size<=maxLen:=by
 have hC:Tryz.prog.cellsOf 94=8:=by kernel_rfl
 have hsz:cs.length=8:=by
  obtain⟨xs,n,_,_,hl,_⟩:=DataW.trod_struct Tryz.underlying94 hf
  exact hl.trans hC
 obtain⟨c0,c1,c2,c3,c4,c5,c6,c7,rfl⟩:∃ c0 c1 c2 c3 c4 c5 c6 c7,cs=[c0,c1,c2,c3,c4,c5,c6,c7]:=by
  match cs,hsz with
  | [c0,c1,c2,c3,c4,c5,c6,c7],_=>exact⟨c0,c1,c2,c3,c4,c5,c6,c7,rfl⟩
 clear hsz hC
 have h3:Tryz.prog.cellsOf 3=1:=by kernel_rfl
 have h5:Tryz.prog.cellsOf 92=5:=by kernel_rfl
 have h9:Tryz.prog.cellsOf 9=1:=by kernel_rfl
 obtain⟨x0,rfl,w0⟩:=field_int Tryz.underlying94 hf 0 _ rfl rfl (k:=.i64) Tryz.underlying3 h3 c0 rfl
 obtain⟨n1,y1,g1⟩:=field_cells Tryz.underlying94 hf 1 _ 1 5 rfl rfl h5
 obtain⟨n2,y2,g2⟩:=field_cells Tryz.underlying94 hf 2 _ 6 1 rfl rfl h9
 obtain⟨n3,y3,g3⟩:=field_cells Tryz.underlying94 hf 3 _ 7 1 rfl rfl h3
 have g1':DataW.trod enc Tryz.prog w base spare held n1 92 [c1,c2,c3,c4,c5]=some y1:=g1
 have g2':DataW.trod enc Tryz.prog w base spare held n2 9 [c6]=some y2:=g2
 have g3':DataW.trod enc Tryz.prog w base spare held n3 3 [c7]=some y3:=g3
 obtain⟨x1,rfl,_⟩:=field_int Tryz.underlying92 g1' 0 _ rfl rfl (k:=.i64) Tryz.underlying3 h3 c1 rfl
 obtain⟨x2,rfl,_⟩:=field_int Tryz.underlying92 g1' 1 _ rfl rfl (k:=.i64) Tryz.underlying3 h3 c2 rfl
 obtain⟨x3,rfl,_⟩:=field_int Tryz.underlying92 g1' 2 _ rfl rfl (k:=.i64) Tryz.underlying3 h3 c3 rfl
 obtain⟨x4,rfl,_⟩:=field_int Tryz.underlying92 g1' 3 _ rfl rfl (k:=.i64) Tryz.underlying3 h3 c4 rfl
 obtain⟨x5,rfl,_⟩:=field_int Tryz.underlying92 g1' 4 _ rfl rfl (k:=.i64) Tryz.underlying3 h3 c5 rfl
 obtain⟨x7,e7,_,_⟩:=DataW.trod_int Tryz.underlying3 g3'
 obtain rfl:c7=.int .i64 x7:=by simpa using e7
 obtain⟨s,e6,_,hs⟩:=DataW.trod_string Tryz.underlying9 g2'
 obtain rfl:c6=.string s:=by simpa using e6
 exact⟨⟨x0,x1,x2,x3,x4,x5,s,x7⟩,rfl,hs⟩
set_option maxRecDepth 100000 in
theorem open_lines {r:Reach} {b0:Nat} {val:Value} {d:DataW H} {p:List MemPlace} (hv:Value.okWide Tryz.prog w r b0 37 val) (h:DataW.Trod enc Tryz.prog w base spare held 37 val d p) :
  ∃ (a:Option Addr) (len cap:Nat) (xs:List Pl.Ln),val=.slice a len cap/\W.LRow 0 w a len cap xs:=by
 obtain⟨a,len,cap,rfl⟩:=okWide_slice Tryz.underlying37 hv
 have hC:Tryz.prog.cellsOf 94=8:=by kernel_rfl
 obtain⟨fuel,hf⟩:=h
 have hf':DataW.trod enc Tryz.prog w base spare held fuel 37 [.slice a len cap]=some (d,p):=by simpa [Value.cells] using hf
 rcases Deep.open_slice Tryz.underlying37 hf' with ⟨h0,_⟩ | ⟨a',len',cap',m,n,D,Q,h0,hb,hl,hm,hmm,_,hx⟩
 ·simp at h0
  obtain⟨rfl,rfl,rfl⟩:=h0
  exact⟨none,0,0,[],rfl,⟨rfl,fun x hx=>(by cases hx)⟩,Nat.le_refl _,Nat.zero_le _,.inl rfl⟩
 ·simp at h0
  obtain⟨rfl,rfl,rfl⟩:=h0
  have hlm:len<=m:=by rw[hmm];split <;> omega
  rw[hC]at hx
  have key:∀ i,i<len->∃ l:Pl.Ln,(∀ j,j<8->w.cell? (a'.add (i*8+j))=l.cells[j]?)/\l.s.size<=maxLen:=by
   intro i hi
   obtain⟨cs',h1,h2⟩:=hx i (by omega)
   obtain⟨l,rfl,hs⟩:=line_cells h2
   refine⟨l,fun j hj=>?_,hs⟩
   unfold World.cells? at h1
   split at h1
   ·obtain⟨v,e1,e2⟩:=Lib.mapM_at h1 j j (by simp[hj])
    rw[Deep.add_add]at e2
    rw[e2,<- e1,Array.getElem?_toList]
   ·cases h1
  obtain⟨X,hX⟩:∃ X:Nat->Pl.Ln,∀ i,i<len->(∀ j,j<8->w.cell? (a'.add (i*8+j))=(X i).cells[j]?)/\(X i).s.size<=maxLen:=
   ⟨fun i=>if h:i<len then Classical.choose (key i h) else Pl.Ln.zero,fun i h=>by simp only[dif_pos h];exact Classical.choose_spec (key i h)⟩
  refine⟨some a',len,cap,(List.range len).map X,rfl,⟨by simp,fun x hx=>?_⟩,hl,hm,?_⟩
  ·obtain⟨i,hi,rfl⟩:=List.mem_map.1 hx
   exact (hX i (List.mem_range.1 hi)).2
  ·by_cases h0:len=0
   ·exact .inl h0
   ·obtain⟨b,off,spot⟩:=a'
    have hc0:=(hX 0 (by omega)).1 0 (by decide)
    have hspot:spot=none:=by
     have:w.cell? ⟨b,off,spot⟩=some (.int .i64 (X 0).k):=by
      have e:(⟨b,off,spot⟩:Addr).add (0*8+0)=⟨b,off,spot⟩:=by simp[Addr.add]
      rw[e]at hc0
      exact hc0
     exact World.cell?_spot this
    subst hspot
    have hadd:∀ q,(⟨b,off,none⟩:Addr).add q=⟨b,off+q,none⟩:=fun q=>by unfold Addr.add;split <;> simp_all
    refine .inr ⟨b,off,rfl,Nat.zero_le _,?_,fun i hi j hj=>?_⟩
    ·rw[hadd]at hc0
     exact block_lt_of_cell hc0
    ·have:=(hX i hi).1 j hj
     rw[hadd]at this
     rw[List.getD_eq_getElem?_getD,List.getElem?_map,List.getElem?_range hi]
     rw[<- Nat.add_assoc]at this
     exact this
end
end Go.Proofs.YtlbomnnldkeocaaGreat.Kit
