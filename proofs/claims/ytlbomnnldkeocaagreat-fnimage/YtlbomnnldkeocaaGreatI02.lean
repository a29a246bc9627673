import Derived.WalkKit
import Derived.Below
import Derived.Laws.ResultCell
import Derived.Laws.Tables
import Derived.Deep.WholeRow
import Derived.Great.Walk
import Derived.Test.YtlbomnnldkeocaaGreatI00
set_option maxHeartbeats 16000000
namespace Go.Proofs.YtlbomnnldkeocaaGreat.Kit
open Go
def oU (P:Program):List Oper->Act->Option Act
 | [],a=>some a
 | o :: os,a=>match o.guard,o.op with
  | none,.build t parts=>(P.built t (parts.map fun (i,x)=>(i,a.eval x)).toList).bind fun cs=>oU P os (a.put o.dst (.agg cs))
  | _,_=>none
theorem xA {P:Program} {ops:Array Oper} {rest:List Oper} {o:Oper} {a:Act} {w:World} {Q:Exit->Act->World->Prop} (t:TypeId) (_ho:o.op=.alloc t) (hg:o.guard=none) (cells:Array Value)
  (hrun:(execOp a.eval o).run P w=.ok (.value (.pointer (some ⟨w.heap.size,0,none⟩))) (w.alloc (.cells cells t)))
  (h:wpList P ops Q rest (a.put o.dst (.pointer (some ⟨w.heap.size,0,none⟩))) (w.alloc (.cells cells t))):wpList P ops Q (o :: rest) a w:=
 Great.wpList_allocTo hg _ rfl _ _ hrun h
theorem zF {P:Program} {ops:Array Oper} {Q:Exit->Act->World->Prop} {w:World} {rest:List Oper} (bs:List Oper) :
  ∀ a a',oU P bs a=some a'->wpList P ops Q rest a' w->wpList P ops Q (bs ++ rest) a w:=by
 induction bs with
 | nil=>intro a a' h hk;simp[oU]at h;subst h;exact hk
 | cons o os ih=>
  intro a a' h hk
  unfold oU at h
  split at h
  ·rename_i t parts hg ho
   cases hb:P.built t (parts.map fun (i,x)=>(i,a.eval x)).toList with
   | none=>rw[hb]at h;cases h
   | some cs=>
    rw[hb]at h
    refine wpList_build hg t parts ho (by rw[hb];rfl) ?_
    rw[hb]
    exact ih _ _ h hk
  ·cases h
theorem bY {P:Program} {ops:Array Oper} {Q:Exit->Act->World->Prop} {w:World} {rest:List Oper} {o:Oper} {a:Act} (n:Nat) (t:TypeId) (parts:Array (Nat × Operand)) (_ho:o.op=.build t parts)
  (so:Oper) (rest':List Oper) (hd:(o :: rest).drop n=so :: rest') (hsg:so.guard=none) (ty:TypeId) (p:Tmp) (y:Operand) (hso:so.op=.store ty (.tmp p) y) (hdst:so.dst=none)
  (g:Nat) (cells:Array Value) (hrun:((oU P ((o :: rest).take n) a).map fun a'=>(a'.tmps.getD p undef,a'.eval y,a'.defers.isEmpty))=some (.pointer (some ⟨g,0,none⟩),.agg cells,true))
  (tt:TypeId) (old:Array Value) (hg:w.heap[g]?=some (.cells old tt (0,0))) (hi:(P.info? ty).map (·.size)=some cells.size) (hold:old.size=cells.size) (h1:cells.all (·.oneCell')=true)
  (h:∀ a':Act,a'.tmps.getD p undef=.pointer (some ⟨g,0,none⟩)->a'.defers=[]->wpList P ops Q rest' a' (w.setRow g cells)):wpList P ops Q (o :: rest) a w:=by
 cases hr:oU P ((o :: rest).take n) a with
 | none=>rw[hr]at hrun;cases hrun
 | some a'=>
  rw[hr]at hrun
  simp only[Option.map_some,Option.some.injEq,Prod.mk.injEq]at hrun
  obtain⟨hp,hy,hdf⟩:=hrun
  have e:o :: rest=(o :: rest).take n ++ so :: rest':=by rw[<- hd,List.take_append_drop]
  rw[e]
  refine zF _ _ _ hr ?_
  refine wpList_store_row hsg ty (.tmp p) y hso g cells hp hy tt old hg hi hold h1 ?_
  have hput:a'.put so.dst undef=a':=by rw[hdst];rfl
  rw[hput]
  exact h a' hp (by simpa using hdf)
end Go.Proofs.YtlbomnnldkeocaaGreat.Kit
namespace Go.Proofs.YtlbomnnldkeocaaGreat.Pl
def rows:List (List UInt8 × Int × List Int):=[
 ([],0,[0,0,0,0]),
 ([97,100,100],1,[51,0,0,0]),
 ([115,117,98],1,[51,0,32,0]),
 ([115,108,108],1,[51,1,0,0]),
 ([115,108,116],1,[51,2,0,0]),
 ([115,108,116,117],1,[51,3,0,0]),
 ([120,111,114],1,[51,4,0,0]),
 ([115,114,108],1,[51,5,0,0]),
 ([115,114,97],1,[51,5,32,0]),
 ([111,114],1,[51,6,0,0]),
 ([97,110,100],1,[51,7,0,0]),
 ([109,117,108],1,[51,0,1,0]),
 ([109,117,108,104],1,[51,1,1,0]),
 ([109,117,108,104,115,117],1,[51,2,1,0]),
 ([109,117,108,104,117],1,[51,3,1,0]),
 ([100,105,118],1,[51,4,1,0]),
 ([100,105,118,117],1,[51,5,1,0]),
 ([114,101,109],1,[51,6,1,0]),
 ([114,101,109,117],1,[51,7,1,0]),
 ([97,100,100,105],2,[19,0,0,0]),
 ([115,108,116,105],2,[19,2,0,0]),
 ([115,108,116,105,117],2,[19,3,0,0]),
 ([120,111,114,105],2,[19,4,0,0]),
 ([111,114,105],2,[19,6,0,0]),
 ([97,110,100,105],2,[19,7,0,0]),
 ([115,108,108,105],3,[19,1,0,0]),
 ([115,114,108,105],3,[19,5,0,0]),
 ([115,114,97,105],3,[19,5,32,0]),
 ([108,98],2,[3,0,0,0]),
 ([108,104],2,[3,1,0,0]),
 ([108,119],2,[3,2,0,0]),
 ([108,98,117],2,[3,4,0,0]),
 ([108,104,117],2,[3,5,0,0]),
 ([106,97,108,114],2,[103,0,0,0]),
 ([115,98],4,[35,0,0,0]),
 ([115,104],4,[35,1,0,0]),
 ([115,119],4,[35,2,0,0]),
 ([98,101,113],5,[99,0,0,0]),
 ([98,110,101],5,[99,1,0,0]),
 ([98,108,116],5,[99,4,0,0]),
 ([98,103,101],5,[99,5,0,0]),
 ([98,108,116,117],5,[99,6,0,0]),
 ([98,103,101,117],5,[99,7,0,0]),
 ([108,117,105],6,[55,0,0,0]),
 ([97,117,105,112,99],6,[23,0,0,0]),
 ([106,97,108],7,[111,0,0,0]),
 ([101,99,97,108,108],8,[115,0,0,0]),
 ([101,98,114,101,97,107],8,[115,0,0,1])]

def QH (r:List UInt8 × Int × List Int):List Value:=.string ⟨r.1.toArray⟩ :: .int .i64 r.2.1 :: r.2.2.map (Value.int .u8 ·)
def instTab:Array Value:=(rows.flatMap QH).toArray
def VM:List Value:=[.string ⟨#[]⟩,.int .i64 0,.int .u8 0,.int .u8 0,.int .u8 0,.int .u8 0]
def VN:Array Value:=(List.replicate 48 VM).flatten.toArray
end Go.Proofs.YtlbomnnldkeocaaGreat.Pl
namespace Go.Proofs.YtlbomnnldkeocaaGreat.W
open Go.RowKit
theorem instTable_any (w:World):Calls Tryz.prog 87 #[] w fun e w'=>e=.returned (.agg Pl.instTab)/\w'=w.alloc (.cells Pl.instTab 122):=by
 go_enter Tryz.func87,Tryz.ntmps87
 iterate 3 go_step
 refine Kit.xA 122 rfl rfl Pl.VN (by kernel_rfl) ?_
 iterate 4 go_step
 refine wp_region_lit ?_
 refine Kit.bY 95 _ _ rfl _ _ rfl rfl 122 0 _ rfl rfl w.heap.size Pl.instTab (by kernel_rfl) 122 _ (heap_alloc_new w _) (by kernel_rfl) (by kernel_rfl) (by kernel_rfl) ?_
 intro a' hp hdf
 rw[World.setRow_alloc_new]
 go_wp2
 exact bodyPost_ret (v:=.agg Pl.instTab) (results_cell_row Tryz.results87 _ _ w.heap.size 122 Pl.instTab (0,0) _ hp (heap_alloc_new w _) Tryz.underlying122 rfl (by kernel_rfl)) hdf ⟨rfl,rfl⟩
end Go.Proofs.YtlbomnnldkeocaaGreat.W
namespace Go.Proofs.YtlbomnnldkeocaaGreat.Pl
def nm (k:Nat):ByteArray:=⟨(rows.getD k ([],0,[])).1.toArray⟩
def fm (k:Nat):Int:=(rows.getD k ([],0,[])).2.1
def cc (k i:Nat):Int:=(rows.getD k ([],0,[])).2.2.getD i 0
def rowV (k:Nat):Array Value:=#[.string (nm k),.int .i64 (fm k),.int .u8 (cc k 0),.int .u8 (cc k 1),.int .u8 (cc k 2),.int .u8 (cc k 3)]
def names:Array Value:=(rows.map fun r=>Value.string ⟨r.1.toArray⟩).toArray
end Go.Proofs.YtlbomnnldkeocaaGreat.Pl
namespace Go.Proofs.YtlbomnnldkeocaaGreat.W
open Go.RowKit
theorem tab_index (w:World):∀ k:Nat,k<48->(Instr.index 122 (.agg Pl.instTab) (.int .i64 (k:Int))).run Tryz.prog w=.ok (.agg (Pl.rowV k)) w
 | 0,_=>by kernel_rfl
 | 1,_=>by kernel_rfl
 | 2,_=>by kernel_rfl
 | 3,_=>by kernel_rfl
 | 4,_=>by kernel_rfl
 | 5,_=>by kernel_rfl
 | 6,_=>by kernel_rfl
 | 7,_=>by kernel_rfl
 | 8,_=>by kernel_rfl
 | 9,_=>by kernel_rfl
 | 10,_=>by kernel_rfl
 | 11,_=>by kernel_rfl
 | 12,_=>by kernel_rfl
 | 13,_=>by kernel_rfl
 | 14,_=>by kernel_rfl
 | 15,_=>by kernel_rfl
 | 16,_=>by kernel_rfl
 | 17,_=>by kernel_rfl
 | 18,_=>by kernel_rfl
 | 19,_=>by kernel_rfl
 | 20,_=>by kernel_rfl
 | 21,_=>by kernel_rfl
 | 22,_=>by kernel_rfl
 | 23,_=>by kernel_rfl
 | 24,_=>by kernel_rfl
 | 25,_=>by kernel_rfl
 | 26,_=>by kernel_rfl
 | 27,_=>by kernel_rfl
 | 28,_=>by kernel_rfl
 | 29,_=>by kernel_rfl
 | 30,_=>by kernel_rfl
 | 31,_=>by kernel_rfl
 | 32,_=>by kernel_rfl
 | 33,_=>by kernel_rfl
 | 34,_=>by kernel_rfl
 | 35,_=>by kernel_rfl
 | 36,_=>by kernel_rfl
 | 37,_=>by kernel_rfl
 | 38,_=>by kernel_rfl
 | 39,_=>by kernel_rfl
 | 40,_=>by kernel_rfl
 | 41,_=>by kernel_rfl
 | 42,_=>by kernel_rfl
 | 43,_=>by kernel_rfl
 | 44,_=>by kernel_rfl
 | 45,_=>by kernel_rfl
 | 46,_=>by kernel_rfl
 | 47,_=>by kernel_rfl
 | n+48,h=>absurd h (by omega)
def rowZ:Array Value:=#[.string ⟨#[]⟩,.int .i64 0,.int .u8 0,.int .u8 0,.int .u8 0,.int .u8 0]
theorem rowOf_no (n:Int) (h:n<1\/47<n) (w:World):Calls Tryz.prog 40 #[.int .i64 n] w fun e w'=>e=.returned (.tuple #[.agg rowZ,.bool false])/\Below w.heap.size w w':=by
 rcases h with h | h
 ·go_enter Tryz.func40,Tryz.ntmps40
  go_wp2
  exact bodyPost_ret (v:=.tuple #[.agg rowZ,.bool false]) (by simp[results,Tryz.results40,go_sem,rowZ]) rfl ⟨rfl,(Below.refl _ _).alloc (Nat.le_refl _) _⟩
 ·have h':¬ n<1:=by omega
  go_enter Tryz.func40,Tryz.ntmps40
  go_wp2
  exact bodyPost_ret (v:=.tuple #[.agg rowZ,.bool false]) (by simp[results,Tryz.results40,go_sem,rowZ]) rfl ⟨rfl,(Below.refl _ _).alloc (Nat.le_refl _) _⟩
end Go.Proofs.YtlbomnnldkeocaaGreat.W
namespace Go.Proofs.YtlbomnnldkeocaaGreat.Pl
def us:Nat->Nat->Bool
 | 1,0=>true
 | 1,1=>true
 | 1,2=>true
 | 2,0=>true
 | 2,1=>true
 | 3,0=>true
 | 3,1=>true
 | 4,1=>true
 | 4,2=>true
 | 5,1=>true
 | 5,2=>true
 | 6,0=>true
 | 7,0=>true
 | _,_=>false
def lo:Nat->Int
 | 2=>-2048
 | 4=>-2048
 | 5=>-4096
 | 7=>-1048576
 | _=>0
def hi:Nat->Int
 | 2=>2047
 | 3=>31
 | 4=>2047
 | 5=>4094
 | 6=>1048575
 | 7=>1048574
 | _=>0
def st:Nat->Int
 | 5=>2
 | 7=>2
 | _=>1
def pt:Nat->List Int
 | 2=>[0,12,20,0,0,0,0,0,0,0,0,0]
 | 3=>[0,5,20,0,0,0,0,0,0,0,0,0]
 | 4=>[5,7,25,0,5,7,0,0,0,0,0,0]
 | 5=>[12,1,31,5,6,25,1,4,8,11,1,7]
 | 6=>[0,20,12,0,0,0,0,0,0,0,0,0]
 | 7=>[20,1,31,1,10,21,11,1,20,12,8,12]
 | _=>[0,0,0,0,0,0,0,0,0,0,0,0]
def pts:Nat->Int
 | 1=>7
 | 2=>11
 | 3=>11
 | 4=>14
 | 5=>14
 | 6=>9
 | 7=>9
 | _=>0
def pa (f i:Nat):Int:=(pt f).getD i 0
def bJ (f:Nat):Array Value:=#[.bool (us f 0),.bool (us f 1),.bool (us f 2),.int .i64 (lo f),.int .i64 (hi f),.int .i64 (st f),.int .i64 (pa f 0),.int .i64 (pa f 1),.int .i64 (pa f 2),.int .i64 (pa f 3),.int .i64 (pa f 4),.int .i64 (pa f 5),.int .i64 (pa f 6),.int .i64 (pa f 7),.int .i64 (pa f 8),.int .i64 (pa f 9),.int .i64 (pa f 10),.int .i64 (pa f 11)]
def dC (k:Nat):Nat:=(fm k).toNat
def rg (r:Int) (u:Bool):Bool:=decide (0<=r/\r<=31/\(u=true\/r=0))
def vU (f:Nat) (im:Int):Bool:=decide (lo f<=im) && decide (im<=hi f) && im.tmod (st f) == 0
def okF (f:Nat) (rd r1 r2 im:Int):Bool:=rg rd (us f 0) && rg r1 (us f 1) && rg r2 (us f 2) && vU f im
theorem qW:∀ k:Nat,k<48->1<=k->1<=dC k/\dC k<=8/\fm k=(dC k:Int):=by decide +kernel
theorem DL (f:Nat):st f=1\/st f=2:=by
 unfold st;split <;> simp
theorem jH (f:Nat) (h1:1<=f) (h2:f<=8):f=1\/f=2\/f=3\/f=4\/f=5\/f=6\/f=7\/f=8:=by omega
theorem BD:∀ f:Nat,f<9->∀ j:Nat,j<3->pts f / pw j % 2=if us f j then 1 else 0:=by decide +kernel
theorem QI:∀ f:Nat,f<9->0<=pts f/\pts f<=14:=by decide +kernel
theorem vV:∀ k:Nat,k<48->(1<=k/\k<=18->dC k=1)/\(25<=k/\k<=27->dC k=3)/\(19<=k/\k<=24->dC k=2)/\(28<=k/\k<=33->dC k=2)/\(34<=k/\k<=36->dC k=4)/\(37<=k/\k<=42->dC k=5)/\(k=43\/k=44->dC k=6)/\(k=45->dC k=7)/\(k=46\/k=47->dC k=8):=by decide +kernel
end Go.Proofs.YtlbomnnldkeocaaGreat.Pl
namespace Go.Proofs.YtlbomnnldkeocaaGreat.W
open Go.RowKit
theorem Cu (n:Int) (h1:1<=n) (h2:n<=18) (w:World):Calls Tryz.prog 60 #[.int .i64 n] w fun e w'=>e=.returned (.int .i64 1)/\w'=w:=by
 go_enter Tryz.func60,Tryz.ntmps60
 go_wp2
 go_ret
 exact⟨rfl,rfl⟩
theorem Cv (n:Int) (h1:19<=n) (h2:n<=24) (w:World):Calls Tryz.prog 60 #[.int .i64 n] w fun e w'=>e=.returned (.int .i64 2)/\w'=w:=by
 go_enter Tryz.func60,Tryz.ntmps60
 go_wp2
 go_ret
 exact⟨rfl,rfl⟩
theorem Cw (n:Int) (h1:25<=n) (h2:n<=27) (w:World):Calls Tryz.prog 60 #[.int .i64 n] w fun e w'=>e=.returned (.int .i64 3)/\w'=w:=by
 go_enter Tryz.func60,Tryz.ntmps60
 go_wp2
 go_ret
 exact⟨rfl,rfl⟩
theorem Cx (n:Int) (h1:28<=n) (h2:n<=33) (w:World):Calls Tryz.prog 60 #[.int .i64 n] w fun e w'=>e=.returned (.int .i64 2)/\w'=w:=by
 go_enter Tryz.func60,Tryz.ntmps60
 go_wp2
 go_ret
 exact⟨rfl,rfl⟩
theorem Cy (n:Int) (h1:34<=n) (h2:n<=36) (w:World):Calls Tryz.prog 60 #[.int .i64 n] w fun e w'=>e=.returned (.int .i64 4)/\w'=w:=by
 go_enter Tryz.func60,Tryz.ntmps60
 go_wp2
 go_ret
 exact⟨rfl,rfl⟩
theorem Cz (n:Int) (h1:37<=n) (h2:n<=42) (w:World):Calls Tryz.prog 60 #[.int .i64 n] w fun e w'=>e=.returned (.int .i64 5)/\w'=w:=by
 go_enter Tryz.func60,Tryz.ntmps60
 go_wp2
 go_ret
 exact⟨rfl,rfl⟩
theorem VO (n:Int) (h1:n<1) (w:World):Calls Tryz.prog 60 #[.int .i64 n] w fun e w'=>e=.returned (.int .i64 0)/\w'=w:=by
 have e43:(n == 43)=false:=by simp;omega
 have e44:(n == 44)=false:=by simp;omega
 have e45:(n == 45)=false:=by simp;omega
 have e46:(n == 46)=false:=by simp;omega
 have e47:(n == 47)=false:=by simp;omega
 go_enter Tryz.func60,Tryz.ntmps60
 go_wp2
 go_ret
 exact⟨rfl,rfl⟩
theorem VP (n:Int) (h1:47<n) (w:World):Calls Tryz.prog 60 #[.int .i64 n] w fun e w'=>e=.returned (.int .i64 0)/\w'=w:=by
 have e43:(n == 43)=false:=by simp;omega
 have e44:(n == 44)=false:=by simp;omega
 have e45:(n == 45)=false:=by simp;omega
 have e46:(n == 46)=false:=by simp;omega
 have e47:(n == 47)=false:=by simp;omega
 go_enter Tryz.func60,Tryz.ntmps60
 go_wp2
 go_ret
 exact⟨rfl,rfl⟩
theorem LP (w:World):Calls Tryz.prog 60 #[.int .i64 43] w fun e w'=>e=.returned (.int .i64 6)/\w'=w:=by
 go_enter Tryz.func60,Tryz.ntmps60
 go_wp2
 go_ret
 exact⟨rfl,rfl⟩
theorem LQ (w:World):Calls Tryz.prog 60 #[.int .i64 44] w fun e w'=>e=.returned (.int .i64 6)/\w'=w:=by
 go_enter Tryz.func60,Tryz.ntmps60
 go_wp2
 go_ret
 exact⟨rfl,rfl⟩
theorem LU (w:World):Calls Tryz.prog 60 #[.int .i64 45] w fun e w'=>e=.returned (.int .i64 7)/\w'=w:=by
 go_enter Tryz.func60,Tryz.ntmps60
 go_wp2
 go_ret
 exact⟨rfl,rfl⟩
theorem LV (w:World):Calls Tryz.prog 60 #[.int .i64 46] w fun e w'=>e=.returned (.int .i64 8)/\w'=w:=by
 go_enter Tryz.func60,Tryz.ntmps60
 go_wp2
 go_ret
 exact⟨rfl,rfl⟩
theorem LW (w:World):Calls Tryz.prog 60 #[.int .i64 47] w fun e w'=>e=.returned (.int .i64 8)/\w'=w:=by
 go_enter Tryz.func60,Tryz.ntmps60
 go_wp2
 go_ret
 exact⟨rfl,rfl⟩
theorem lN (k:Nat) (h1:1<=k) (h2:k<=47) (w:World):Calls Tryz.prog 60 #[.int .i64 k] w fun e w'=>e=.returned (.int .i64 (Pl.dC k:Int))/\w'=w:=by
 obtain⟨a,c,b,d,e,f,g,i,j⟩:=Pl.vV k (by omega)
 by_cases q:k<=18
 ·rw[a ⟨h1,q⟩];exact Cu k (by omega) (by omega) w
 by_cases q:k<=24
 ·rw[b ⟨by omega,q⟩];exact Cv k (by omega) (by omega) w
 by_cases q:k<=27
 ·rw[c ⟨by omega,q⟩];exact Cw k (by omega) (by omega) w
 by_cases q:k<=33
 ·rw[d ⟨by omega,q⟩];exact Cx k (by omega) (by omega) w
 by_cases q:k<=36
 ·rw[e ⟨by omega,q⟩];exact Cy k (by omega) (by omega) w
 by_cases q:k<=42
 ·rw[f ⟨by omega,q⟩];exact Cz k (by omega) (by omega) w
 have q':k=43\/k=44\/k=45\/k=46\/k=47:=by omega
 rcases q' with rfl | rfl | rfl | rfl | rfl
 ·exact LP w
 ·exact LQ w
 ·exact LU w
 ·exact LV w
 ·exact LW w
theorem BF (n:Int) (h:n<1\/47<n) (w:World):Calls Tryz.prog 60 #[.int .i64 n] w fun e w'=>e=.returned (.int .i64 0)/\w'=w:=by
 rcases h with h | h
 ·exact VO n h w
 ·exact VP n h w
def Da:Array Value:=#[.int .i64 0,.int .i64 7,.int .i64 11,.int .i64 11,.int .i64 14,.int .i64 14,.int .i64 9,.int .i64 9,.int .i64 0]
theorem AB (f:Nat) (h1:1<=f) (h2:f<=8) (w:World):Calls Tryz.prog 97 #[.int .i64 f] w fun e w'=>e=.returned (.int .i64 (Pl.pts f))/\w'=w.alloc (.cells Da 3):=by
 rcases Pl.jH f h1 h2 with rfl | rfl | rfl | rfl | rfl | rfl | rfl | rfl
 all_goals
  go_enter Tryz.func97,Tryz.ntmps97
  go_wp2
  go_ret
  exact⟨rfl,rfl⟩
theorem tH (f:Nat) (h1:1<=f) (h2:f<=8) (w:World):Calls Tryz.prog 99 #[.int .i64 f] w fun e w'=>e=.returned (.tuple #[.int .i64 (Pl.lo f),.int .i64 (Pl.hi f),.int .i64 (Pl.st f)])/\w'=w:=by
 rcases Pl.jH f h1 h2 with rfl | rfl | rfl | rfl | rfl | rfl | rfl | rfl
 all_goals
  go_enter Tryz.func99,Tryz.ntmps99
  go_wp2
  go_ret3
  exact⟨rfl,rfl⟩
theorem dF (r:Int) (u:Bool) (w:World):Calls Tryz.prog 112 #[.int .i64 r,.bool u] w fun e w'=>e=.returned (.bool (Pl.rg r u))/\w'=w:=by
 by_cases h0:r=0
 ·subst h0
  cases u
  all_goals
   go_enter Tryz.func112,Tryz.ntmps112
   go_wp2
   go_ret
   exact⟨aI (by simp[Pl.rg]),rfl⟩
 ·have h1:(r == 0)=false:=by simpa using h0
  cases u
  ·have e:Pl.rg r false=false:=by simp[Pl.rg,h0]
   rw[e]
   go_enter Tryz.func112,Tryz.ntmps112
   go_wp2
   go_ret
   exact⟨rfl,rfl⟩
  ·by_cases h2:0<=r
   ·by_cases h3:r<=31
    ·have e:Pl.rg r true=true:=by simp[Pl.rg,h2,h3]
     rw[e]
     go_enter Tryz.func112,Tryz.ntmps112
     go_wp2
     go_ret
     exact⟨aI (by simp),rfl⟩
    ·have e:Pl.rg r true=false:=by simp[Pl.rg];omega
     rw[e]
     go_enter Tryz.func112,Tryz.ntmps112
     go_wp2
     go_ret
     exact⟨aI (by simp),rfl⟩
   ·have e:Pl.rg r true=false:=by simp[Pl.rg];omega
    rw[e]
    have h3:decide (0<=r)=false:=by simpa using h2
    go_enter Tryz.func112,Tryz.ntmps112
    go_wp2
    go_ret
    exact⟨aI (by simp),rfl⟩
theorem QJ (w:World):Calls Tryz.prog 42 #[.int .i64 1] w fun e w'=>e=.returned (.agg (Pl.bJ 1))/\w'=w.alloc (.cells (Pl.bJ 1) 86):=by
 go_enter Tryz.func42,Tryz.ntmps42
 go_wp2_with (refine Kit.bY 1 _ _ rfl _ _ rfl rfl 86 2 _ rfl rfl w.heap.size (Pl.bJ 1) (by kernel_rfl) 86 _ (heap_alloc_new w _) (by kernel_rfl) (by kernel_rfl) (by kernel_rfl) ?_;intro a' hp hdf)
 rw[World.setRow_alloc_new]
 exact bodyPost_ret (v:=.agg (Pl.bJ 1)) (results_cell_row Tryz.results42 _ _ w.heap.size 86 (Pl.bJ 1) (0,0) _ hp (heap_alloc_new w _) Tryz.underlying86 rfl (by kernel_rfl)) hdf ⟨rfl,rfl⟩
theorem QK (w:World):Calls Tryz.prog 42 #[.int .i64 2] w fun e w'=>e=.returned (.agg (Pl.bJ 2))/\w'=w.alloc (.cells (Pl.bJ 2) 86):=by
 go_enter Tryz.func42,Tryz.ntmps42
 go_wp2_with (refine Kit.bY 3 _ _ rfl _ _ rfl rfl 86 2 _ rfl rfl w.heap.size (Pl.bJ 2) (by kernel_rfl) 86 _ (heap_alloc_new w _) (by kernel_rfl) (by kernel_rfl) (by kernel_rfl) ?_;intro a' hp hdf)
 rw[World.setRow_alloc_new]
 exact bodyPost_ret (v:=.agg (Pl.bJ 2)) (results_cell_row Tryz.results42 _ _ w.heap.size 86 (Pl.bJ 2) (0,0) _ hp (heap_alloc_new w _) Tryz.underlying86 rfl (by kernel_rfl)) hdf ⟨rfl,rfl⟩
theorem QL (w:World):Calls Tryz.prog 42 #[.int .i64 3] w fun e w'=>e=.returned (.agg (Pl.bJ 3))/\w'=w.alloc (.cells (Pl.bJ 3) 86):=by
 go_enter Tryz.func42,Tryz.ntmps42
 go_wp2_with (refine Kit.bY 3 _ _ rfl _ _ rfl rfl 86 2 _ rfl rfl w.heap.size (Pl.bJ 3) (by kernel_rfl) 86 _ (heap_alloc_new w _) (by kernel_rfl) (by kernel_rfl) (by kernel_rfl) ?_;intro a' hp hdf)
 rw[World.setRow_alloc_new]
 exact bodyPost_ret (v:=.agg (Pl.bJ 3)) (results_cell_row Tryz.results42 _ _ w.heap.size 86 (Pl.bJ 3) (0,0) _ hp (heap_alloc_new w _) Tryz.underlying86 rfl (by kernel_rfl)) hdf ⟨rfl,rfl⟩
theorem QM (w:World):Calls Tryz.prog 42 #[.int .i64 4] w fun e w'=>e=.returned (.agg (Pl.bJ 4))/\w'=w.alloc (.cells (Pl.bJ 4) 86):=by
 go_enter Tryz.func42,Tryz.ntmps42
 go_wp2_with (refine Kit.bY 4 _ _ rfl _ _ rfl rfl 86 2 _ rfl rfl w.heap.size (Pl.bJ 4) (by kernel_rfl) 86 _ (heap_alloc_new w _) (by kernel_rfl) (by kernel_rfl) (by kernel_rfl) ?_;intro a' hp hdf)
 rw[World.setRow_alloc_new]
 exact bodyPost_ret (v:=.agg (Pl.bJ 4)) (results_cell_row Tryz.results42 _ _ w.heap.size 86 (Pl.bJ 4) (0,0) _ hp (heap_alloc_new w _) Tryz.underlying86 rfl (by kernel_rfl)) hdf ⟨rfl,rfl⟩
theorem QN (w:World):Calls Tryz.prog 42 #[.int .i64 5] w fun e w'=>e=.returned (.agg (Pl.bJ 5))/\w'=w.alloc (.cells (Pl.bJ 5) 86):=by
 go_enter Tryz.func42,Tryz.ntmps42
 go_wp2_with (refine Kit.bY 6 _ _ rfl _ _ rfl rfl 86 2 _ rfl rfl w.heap.size (Pl.bJ 5) (by kernel_rfl) 86 _ (heap_alloc_new w _) (by kernel_rfl) (by kernel_rfl) (by kernel_rfl) ?_;intro a' hp hdf)
 rw[World.setRow_alloc_new]
 exact bodyPost_ret (v:=.agg (Pl.bJ 5)) (results_cell_row Tryz.results42 _ _ w.heap.size 86 (Pl.bJ 5) (0,0) _ hp (heap_alloc_new w _) Tryz.underlying86 rfl (by kernel_rfl)) hdf ⟨rfl,rfl⟩
theorem QO (w:World):Calls Tryz.prog 42 #[.int .i64 6] w fun e w'=>e=.returned (.agg (Pl.bJ 6))/\w'=w.alloc (.cells (Pl.bJ 6) 86):=by
 go_enter Tryz.func42,Tryz.ntmps42
 go_wp2_with (refine Kit.bY 3 _ _ rfl _ _ rfl rfl 86 2 _ rfl rfl w.heap.size (Pl.bJ 6) (by kernel_rfl) 86 _ (heap_alloc_new w _) (by kernel_rfl) (by kernel_rfl) (by kernel_rfl) ?_;intro a' hp hdf)
 rw[World.setRow_alloc_new]
 exact bodyPost_ret (v:=.agg (Pl.bJ 6)) (results_cell_row Tryz.results42 _ _ w.heap.size 86 (Pl.bJ 6) (0,0) _ hp (heap_alloc_new w _) Tryz.underlying86 rfl (by kernel_rfl)) hdf ⟨rfl,rfl⟩
theorem QP (w:World):Calls Tryz.prog 42 #[.int .i64 7] w fun e w'=>e=.returned (.agg (Pl.bJ 7))/\w'=w.alloc (.cells (Pl.bJ 7) 86):=by
 go_enter Tryz.func42,Tryz.ntmps42
 go_wp2_with (refine Kit.bY 6 _ _ rfl _ _ rfl rfl 86 2 _ rfl rfl w.heap.size (Pl.bJ 7) (by kernel_rfl) 86 _ (heap_alloc_new w _) (by kernel_rfl) (by kernel_rfl) (by kernel_rfl) ?_;intro a' hp hdf)
 rw[World.setRow_alloc_new]
 exact bodyPost_ret (v:=.agg (Pl.bJ 7)) (results_cell_row Tryz.results42 _ _ w.heap.size 86 (Pl.bJ 7) (0,0) _ hp (heap_alloc_new w _) Tryz.underlying86 rfl (by kernel_rfl)) hdf ⟨rfl,rfl⟩
theorem QQ (w:World):Calls Tryz.prog 42 #[.int .i64 8] w fun e w'=>e=.returned (.agg (Pl.bJ 8))/\w'=w.alloc (.cells (Pl.bJ 8) 86):=by
 go_enter Tryz.func42,Tryz.ntmps42
 go_wp2_with (refine Kit.bY 1 _ _ rfl _ _ rfl rfl 86 2 _ rfl rfl w.heap.size (Pl.bJ 8) (by kernel_rfl) 86 _ (heap_alloc_new w _) (by kernel_rfl) (by kernel_rfl) (by kernel_rfl) ?_;intro a' hp hdf)
 rw[World.setRow_alloc_new]
 exact bodyPost_ret (v:=.agg (Pl.bJ 8)) (results_cell_row Tryz.results42 _ _ w.heap.size 86 (Pl.bJ 8) (0,0) _ hp (heap_alloc_new w _) Tryz.underlying86 rfl (by kernel_rfl)) hdf ⟨rfl,rfl⟩
theorem lZ (n:Int) (f:Nat) (hn:n=f) (h1:1<=f) (h2:f<=8) (w:World):Calls Tryz.prog 42 #[.int .i64 n] w fun e w'=>e=.returned (.agg (Pl.bJ f))/\w'=w.alloc (.cells (Pl.bJ f) 86):=by
 subst hn
 rcases Pl.jH f h1 h2 with rfl | rfl | rfl | rfl | rfl | rfl | rfl | rfl
 ·exact QJ w
 ·exact QK w
 ·exact QL w
 ·exact QM w
 ·exact QN w
 ·exact QO w
 ·exact QP w
 ·exact QQ w
end Go.Proofs.YtlbomnnldkeocaaGreat.W
