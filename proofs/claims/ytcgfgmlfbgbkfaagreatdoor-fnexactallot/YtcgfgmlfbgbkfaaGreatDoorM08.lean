import Derived.Test.YtcgfgmlfbgbkfaaGreatDoorM07
import Derived.Test.YtcgfgmlfbgbkfaaGreatDoorM04
import Derived.Test.YtcgfgmlfbgbkfaaGreatDoorM05
set_option linter.unusedVariables false
set_option linter.unusedSimpArgs false
set_option maxHeartbeats 16000000
namespace Go.Proofs.YtcgfgmlfbgbkfaaGreatDoor.W
open Go.RowKit
def LiveM (w:World) (f:Pl.IrF) (R:Nat) (e:Ending) (w':World):Prop:=∃ (go co:Nat) (G:Nat->Nat) (m:Nat->Nat->Bool),e=.returned (.slice (some ⟨go,0,none⟩) f.code.length co)/\w'.ownsRow (w.heap.size+1) 52 1 (.slice (some ⟨go,0,none⟩) f.code.length co) f.code.length (rowsV f.code.length R G)/\(∀ i,i<f.code.length->w'.ownsRow (w.heap.size+1) 4 1 (.slice (some ⟨G i,0,none⟩) R R) R (mkV R (m i)))/\(∀ i r,i<f.code.length->r<R->(m i r=true↔Pl.Live f.code (r:Int) i))/\Below w.heap.size w w'
theorem Tryz.infoboolL:(Tryz.prog.info? 4).map (fun i=>(i.zero,i.size,i.bytes))=some (some (.bool false),1,1):=by kernel_rfl
theorem Tryz.infoboolsL:(Tryz.prog.info? 52).map (fun i=>(i.zero,i.size,i.bytes))=some (some (.slice none 0 0),1,24):=by kernel_rfl
theorem Tryz.infointsL:(Tryz.prog.info? 22).map (fun i=>(i.zero,i.size,i.bytes))=some (some (.slice none 0 0),1,24):=by kernel_rfl
theorem lb_new (w:World) (f:Pl.IrF) (v s:SV) (R b1 b2:Nat) (h1:b1=w.heap.size+1) (h2:b2=w.heap.size+1+1) (m:Nat->Nat->Bool) (o:Obj) (ho:o=.cells #[.string f.name,.int .i64 f.params,.int .i64 f.regs,.slice v.a v.len v.cap,.slice s.a s.len s.cap] 31):Lb w (((w.alloc o).alloc (.cells #[] 52)).alloc (.cells #[] 22)) f v s 0 0 R b1 0 b2 0 (fun _=>0) (fun _=>none) (fun _=>0) (fun _=>[]) m:=by
 subst h1 h2 ho
 have B1:=below_alloc w (.cells #[.string f.name,.int .i64 f.params,.int .i64 f.regs,.slice v.a v.len v.cap,.slice s.a s.len s.cap] 31)
 generalize hu:w.alloc (.cells #[.string f.name,.int .i64 f.params,.int .i64 f.regs,.slice v.a v.len v.cap,.slice s.a s.len s.cap] 31)=u1 at B1 ⊢
 have e1:u1.heap.size=w.heap.size+1:=by rw[<- hu];simp
 have x1:u1.heap[w.heap.size]?=some (.cells #[.string f.name,.int .i64 f.params,.int .i64 f.regs,.slice v.a v.len v.cap,.slice s.a s.len s.cap] 31):=by rw[<- hu];exact heap_alloc_new w _
 have B2:=below_alloc u1 (.cells #[] 52)
 have o1:(u1.alloc (.cells #[] 52)).ownsRow (w.heap.size+1) 52 1 (.slice (some ⟨w.heap.size+1,0,none⟩) 0 0) 0 []:=by
  have:=World.ownsRow_lit u1 #[] 0 (base:=w.heap.size+1) (e:=52) (size:=1) (by omega) (Nat.zero_le _) rfl
  rw[e1]at this;exact this
 generalize hv:u1.alloc (.cells #[] 52)=u2 at B2 o1 ⊢
 have e2:u2.heap.size=w.heap.size+1+1:=by rw[<- hv];simp[e1]
 have B3:=below_alloc u2 (.cells #[] 22)
 have o2:(u2.alloc (.cells #[] 22)).ownsRow (w.heap.size+1) 22 1 (.slice (some ⟨w.heap.size+1+1,0,none⟩) 0 0) 0 []:=by
  have:=World.ownsRow_lit u2 #[] 0 (base:=w.heap.size+1) (e:=22) (size:=1) (by omega) (Nat.zero_le _) rfl
  rw[e2]at this;exact this
 generalize u2.alloc (.cells #[] 22)=u3 at B3 o2 ⊢
 refine⟨B1.trans ((B2.mono (by omega)).trans (B3.mono (by omega))),?_,own_eqL o1 (fun g hg=>B3.block g (o1.lt g hg).2),fun i hi=>absurd hi (Nat.not_lt_zero _),o2,fun i hi=>absurd hi (Nat.not_lt_zero _),fun i hi=>absurd hi (Nat.not_lt_zero _),fun i j hi=>absurd hi (Nat.not_lt_zero _),fun i hi=>absurd hi (Nat.not_lt_zero _),fun i hi=>absurd hi (Nat.not_lt_zero _),by omega⟩
 rw[B3.block _ (by omega),B2.block _ (by omega)];exact x1
theorem us_range {sl:Nat} {regs:Int} {x:Pl.IrI} (h:Pl.insOk sl regs x):∀ r:Int,r∈Pl.usesD x->0<=r/\r<regs:=by
 intro r hr
 obtain⟨_,_,ha,hb,_,_,_,hk⟩:=h
 unfold Pl.usesD at hr
 rcases List.mem_append.1 hr with hr | hr
 ·rcases List.mem_append.1 hr with hr | hr
  ·obtain⟨q,hq,rfl⟩:=List.getElem_of_mem hr
   have:=hk q hq
   rw[List.getD_eq_getElem?_getD,List.getElem?_eq_getElem hq]at this
   simp[Pl.regOk]at this
   omega
  ·split at hr
   ·rename_i c
    simp at hr;subst hr
    unfold Pl.regOk at ha
    rw[if_neg (by omega)]at ha
    have:=of_decide_eq_true ha
    omega
   ·simp at hr
 ·split at hr
  ·rename_i c
   simp at hr;subst hr
   rw[c]at hb
   simp[Pl.regOk]at hb
   omega
  ·simp at hr
theorem one_newsM (w:World) (A:Value) (t:TypeId) (b:Nat) (hb:b=w.heap.size) (j:Nat) (u:Value) (hj:[A][j]?=some u):(w.alloc (.cells #[A] t)).cell? ((⟨b,0,none⟩:Addr).add j)=some u:=by
 subst hb;exact one_newsL w A t j u hj
theorem unW_eq {w0 w:World} {f:Pl.IrF} {v s:SV} {n k R go co gn cn:Nat} {G:Nat->Nat} {A:Nat->Option Addr} {C:Nat->Nat} {NS:Nat->List Int} {m:Nat->Nat->Bool} (h:Lb w0 w f v s n k R go co gn cn G A C NS m):unW n R G w=un n R m:=by
 unfold unW
 refine un_same fun i r hi hr=>?_
 have:w.cell? ⟨G i,r,none⟩=some (.bool (m i r)):=by
  rw[(h.rr i hi).cellAt r (by omega)];unfold mkV;rw[List.getElem?_map,List.getElem?_range hr];rfl
 cases hm:m i r with
 | false=>exact @decide_eq_false _ (Classical.propDecidable _) (by rw[this,hm];simp)
 | true=>exact @decide_eq_true _ (Classical.propDecidable _) (by rw[this,hm])
theorem Lb.cells {w0 w:World} {f:Pl.IrF} {v s:SV} {n k R go co gn cn:Nat} {G:Nat->Nat} {A:Nat->Option Addr} {C:Nat->Nat} {NS:Nat->List Int} {m:Nat->Nat->Bool} (h:Lb w0 w f v s n k R go co gn cn G A C NS m) (hR:f.regs=R):w.cell? ⟨w0.heap.size,0,none⟩=some (.string f.name)/\w.cell? ⟨w0.heap.size,1,none⟩=some (.int .i64 f.params)/\w.cell? ⟨w0.heap.size,2,none⟩=some (.int .i64 (R:Int))/\w.cell? ⟨w0.heap.size,3,none⟩=some (.slice v.a v.len v.cap)/\w.cell? ⟨w0.heap.size,4,none⟩=some (.slice s.a s.len s.cap):=by
 refine⟨?_,?_,?_,?_,?_⟩
 ·rw[cell_of_row w _ 0 _ _ (0,0) h.box];rfl
 ·rw[cell_of_row w _ 1 _ _ (0,0) h.box];rfl
 ·rw[cell_of_row w _ 2 _ _ (0,0) h.box,<- hR];rfl
 ·rw[cell_of_row w _ 3 _ _ (0,0) h.box];rfl
 ·rw[cell_of_row w _ 4 _ _ (0,0) h.box];rfl
set_option maxRecDepth 100000 in
theorem l11Live_any {lo:Nat} (f:Pl.IrF) (v s:SV) (R:Nat) (w:World) (h:FIs lo w v s f) (hf:Pl.funOk f) (hR:f.regs=R):Calls Tryz.prog 28 #[.agg #[.string f.name,.int .i64 f.params,.int .i64 f.regs,.slice v.a v.len v.cap,.slice s.a s.len s.cap]] w fun e w'=>LiveM w f R e w':=by
  obtain⟨_,hS,_⟩:=h
  obtain⟨n,hn⟩:∃ n,n=f.code.length:=⟨_,rfl⟩
  obtain⟨sa,sl,sc⟩:=s
  simp only at hS ⊢
  have hsl:sl=n:=by rw[hn];exact hS.1.symm
  subst hsl
  have hsl1:1<=sl:=by have:=hf.1.2.2.2.1.1;omega
  obtain⟨bb,off,_,rfl,_⟩:=hS.at (show 0<sl by omega)
  have HF:Hid (Pl.funOk f/\sl=f.code.length/\IRow lo w (some ⟨bb,off,none⟩) sl sc f.code):=⟨hf,hn,hS⟩
  have hn8:sl<=8000:=by have:=hf.1.2.2.2.1.2;omega
  have hR2:R<=2000:=by have:=hf.1.2.1.2;omega
  clear hf hn hS
  rw[hR]
  have HRG:Hid (f.regs=R):=hR
  clear hR
  obtain⟨i0,hi0,hz0,hz1,hz2⟩:=info_parts Tryz.infoboolL
  have hmk:∀ u:World,(Instr.makeSlice 52 (.int .i64 (R:Int)) (.int .i64 (R:Int))).run Tryz.prog u=.ok (.slice (some ⟨u.heap.size,0,none⟩) R R) (u.alloc (.cells (madeCells (Value.bool false).cells (R*1)) 4)):=fun u=>by
    have:=run_makeSlice u 52 4 i0 _ Tryz.underlying52 hi0 hz0 .i64 .i64 (R:Int) (R:Int) (by omega) (by omega) (by rw[hz1];simp;omega) (by rw[hz2];omega) (by omega)
    rw[hz1,Int.toNat_natCast]at this
    exact this
  clear hi0 hz0 hz1 hz2
  obtain⟨cs,hcs⟩:∃ cs,cs=madeCells (Value.bool false).cells (R*1):=⟨_,rfl⟩
  rw[<- hcs]at hmk
  have HCS:Hid (∀ (u:World) (base:Nat),base<=u.heap.size->(u.alloc (.cells cs 4)).ownsRow base 4 1 (.slice (some ⟨u.heap.size,0,none⟩) R R) R (List.replicate R (.bool false))):=by
    intro u base hb
    have:=World.ownsRow_lit u cs R (base:=base) (e:=4) (size:=1) hb (by unfold maxLen;omega) (by rw[hcs];simp[madeCells,Value.cells])
    rw[show cs.toList=List.replicate R (.bool false) from by rw[hcs,Nat.mul_one];exact toList_madeCells_one _ _]at this
    exact this
  clear hcs
  obtain⟨j0,hj0,hy0,hy1,hy2⟩:=info_parts Tryz.infoboolsL
  have HJ:Hid (_/\_/\_/\_):=⟨hj0,hy0,hy1,hy2⟩
  clear hj0 hy0 hy1 hy2
  obtain⟨l0,hl0,hy0,hy1,hy2⟩:=info_parts Tryz.infointsL
  have HI:Hid (_/\_/\_/\_):=⟨hl0,hy0,hy1,hy2⟩
  clear hl0 hy0 hy1 hy2
  go_enter Tryz.func28,Tryz.ntmps28
  go_wp2_with fail
  go_loopw [3,4,5] (fun o x t wr=>∃ k:Nat,k<=sl/\t=.int .i64 k/\∃ go co gn cn:Nat,o=.slice (some ⟨go,0,none⟩) k co/\x=.slice (some ⟨gn,0,none⟩) k cn/\Hid (∃ G A C NS m,Lb w wr f v ⟨some ⟨bb,off,none⟩,sl,sc⟩ k k R go co gn cn G A C NS m/\∀ i r,i<k->r<R->(m i r=true↔Pl.Us f.code i (r:Int)))) (fun _ _ t _=>sl-(intOf t).toNat)
  case atStart=>
    exact⟨0,Nat.zero_le _,rfl,_,_,_,_,rfl,rfl,_,_,_,_,fun _ _=>false,lb_new w f v ⟨some ⟨bb,off,none⟩,sl,sc⟩ R _ _ (by simp) (by simp) _ _ (by rw[HRG.out]),fun i r hi=>absurd hi (Nat.not_lt_zero _)⟩
  case round=>
    obtain⟨k,hk,rfl,go,co,gn,cn,rfl,rfl,S⟩:=hrel
    obtain⟨G,A,C,NS,m,L,U⟩:=S.out
    have HL:Hid (Lb w wr f v ⟨some ⟨bb,off,none⟩,sl,sc⟩ k k R go co gn cn G A C NS m/\∀ i r,i<k->r<R->(m i r=true↔Pl.Us f.code i (r:Int))):=⟨L,U⟩
    obtain⟨x0,x1,x2,x3,x4⟩:=L.cells HRG.out
    clear S L U
    by_cases hlt:k<sl
    · have hki:(k:Int)<(sl:Int):=by omega
      have hww:w.heap.size+1<=wr.heap.size:=by have:=HL.out.1.oo.lt go rfl;omega
      go_wp2_with (at_builtin;refine wpList_append_lies _ rfl (.tmp 23) (.tmp 27) 49 rfl (w.heap.size+1) 52 j0 (.slice none 0 0) 1 24 Tryz.underlying49 HJ.out.1 HJ.out.2.1 HJ.out.2.2.1 HJ.out.2.2.2 rfl (by decide) (.slice (some ⟨go,0,none⟩) k co) k (rowsV k R G) rfl (World.ownsRow.alloc (World.ownsRow.alloc HL.out.1.oo _) _) ⟨wr.heap.size+1,0,none⟩ 1 1 [.slice (some ⟨wr.heap.size,0,none⟩) R R] rfl rfl (one_newsM _ _ _ _ (by simp)) (by intro u hu;simp at hu;subst hu;rfl) (by decide) (by unfold maxLen;omega) (by omega) (by simp;omega) (wr.heap.size+1+1) (by simp) ?_;intro g2 c2 y2 hown hgr hli hlt2
                   have HL2:Hid (Lb w y2 f v ⟨some ⟨bb,off,none⟩,sl,sc⟩ (k+1) k R g2 c2 gn cn (upd G k wr.heap.size) A C NS (upd m k fun _=>false)):=HL.out.1.row (below_alloc wr _) (Nat.le_refl _) (HCS.out wr _ hww) (below_alloc _ _) hown hgr (hli.elim (fun q=>.inl (by simpa [Value.ownBlock] using q)) (fun q=>.inr (by simpa using q)))
                   clear hown hgr hli hlt2 x0 x1 x2 x3 x4
                   obtain⟨x0,x1,x2,x3,x4⟩:=HL2.out.cells HRG.out)
      have cnx:=l11Next_any (lo:=lo) f v ⟨some ⟨bb,off,none⟩,sl,sc⟩ k y2 (HF.out.2.2.keep HL2.out.bel) HF.out.1 (by have:=HF.out.2.1;omega)
      rw[HRG.out]at cnx
      refine cnx.mono ?_
      clear cnx
      rintro e u3 ⟨⟨ns,hns,a3,c3,rfl,o3⟩,d3⟩
      have H3:Hid (Below y2.heap.size y2 u3/\Pl.NxL f.code k ns/\u3.ownsRow y2.heap.size 3 1 (.slice a3 ns.length c3) ns.length (ns.map (Value.int .i64))):=⟨d3,hns,o3⟩
      have hw3:w.heap.size+1<=u3.heap.size:=by have:=HL2.out.oo.lt g2 rfl;have:=d3.size;omega
      clear hns o3 d3 x0 x1 x2 x3 x4
      go_wp2_with (at_builtin;refine wpList_append_lies _ rfl (.tmp 29) (.tmp 33) 27 rfl (w.heap.size+1) 22 l0 (.slice none 0 0) 1 24 Tryz.underlying27 HI.out.1 HI.out.2.1 HI.out.2.2.1 HI.out.2.2.2 rfl (by decide) (.slice (some ⟨gn,0,none⟩) k cn) k (listsV k A C NS) rfl (World.ownsRow.alloc (HL2.out.later H3.out.1).nn _) ⟨u3.heap.size,0,none⟩ 1 1 [.slice a3 ns.length c3] rfl rfl (one_newsM _ _ _ _ (by simp)) (by intro u hu;simp at hu;subst hu;rfl) (by decide) (by unfold maxLen;omega) (by omega) (by simp;omega) (u3.heap.size+1) (by simp) ?_;intro g4 c4 y4 hown hgr hli hlt2
                   have HL4:Hid (Lb w y4 f v ⟨some ⟨bb,off,none⟩,sl,sc⟩ (k+1) (k+1) R g2 c2 g4 c4 (upd G k wr.heap.size) (upd A k a3) (upd C k c3) (upd NS k ns) (upd m k fun _=>false)):=HL2.out.next H3.out.1 H3.out.2.1 H3.out.2.2 (below_alloc _ _) hown hgr (hli.elim (fun q=>.inl (by simpa [Value.ownBlock] using q)) (fun q=>.inr (by simpa using q)))
                   clear hown hgr hli hlt2
                   obtain⟨x0,x1,x2,x3,x4⟩:=HL4.out.cells HRG.out
                   obtain⟨bb',off',y,hsa,_,hb4,hc4,hr4,_⟩:=(HF.out.2.2.keep HL4.out.bel).at hlt
                   simp only[Option.some.injEq,Addr.mk.injEq,and_true]at hsa
                   obtain⟨hsa1,hsa2⟩:=hsa
                   rw[<- hsa1,<- hsa2]at hc4
                   obtain⟨x,hx⟩:∃ x,x=f.code.getD k Pl.IrI.zero:=⟨_,rfl⟩
                   rw[<- hx]at hc4 hr4
                   have HX:Hid (f.code.getD k Pl.IrI.zero=x/\Row .i64 lo y4 y.a y.len y.cap x.args):=⟨hx.symm,hr4⟩
                   obtain⟨k0,k1,k2,k3,k4,k5,k6⟩:=iri_cells hc4
                   clear hx hr4 hc4 hsa1 hsa2)
      have hok:Pl.insOk f.slots.length f.regs x:=by have:=(HF.out.1.2.2.1 k (by have:=HF.out.2.1;omega)).1;rw[HX.out.1]at this;exact this
      have HOK:Hid (Pl.insOk f.slots.length f.regs x):=hok
      refine (l11Uses_any x y (by have:=hok.1;omega) (by have:=hok.1;omega) y4 HX.out.2 (by have:=hok.2.2.2.2.2.1;have:=HX.out.2.1;omega)).mono ?_
      clear hok
      rintro e u5 ⟨⟨a5,c5,rfl,o5⟩,d5⟩
      obtain⟨us,hus⟩:∃ us,us=Pl.usesD x:=⟨_,rfl⟩
      rw[<- hus]at o5 ⊢
      have HUS:Hid (∀ r:Int,r∈us↔Pl.Us f.code k r):=by
        intro r
        rw[hus]
        unfold Pl.Us
        rw[HX.out.1]
        exact (Pl.same_us HOK.out).1 r
      have hul:us.length<=100:=by
        rw[hus];unfold Pl.usesD
        have:=HOK.out.2.2.2.2.2.1
        simp only[List.length_append]
        split <;> split <;> simp <;> omega
      have HUR:Hid (∀ r:Int,r∈us->0<=r/\r<R):=by
        intro r hr
        rw[hus]at hr
        have:=us_range HOK.out r hr
        rw[HRG.out]at this;exact this
      obtain⟨G5,hG5⟩:∃ G5,G5=upd G k wr.heap.size:=⟨_,rfl⟩
      obtain⟨A5,hA5⟩:∃ A5,A5=upd A k a3:=⟨_,rfl⟩
      obtain⟨C5,hC5⟩:∃ C5,C5=upd C k c3:=⟨_,rfl⟩
      obtain⟨N5,hN5⟩:∃ N5,N5=upd NS k ns:=⟨_,rfl⟩
      rw[<- hG5,<- hA5,<- hC5,<- hN5]at HL4
      have H5:Hid (Lb w u5 f v ⟨some ⟨bb,off,none⟩,sl,sc⟩ (k+1) (k+1) R g2 c2 g4 c4 G5 A5 C5 N5 (upd m k fun _=>false)/\u5.ownsRow y4.heap.size 3 1 (.slice a5 us.length c5) us.length (us.map (Value.int .i64))/\y4.heap.size<=u5.heap.size/\∀ i,i<k+1->G5 i<y4.heap.size):=⟨HL4.out.later d5,o5,d5.size,fun i hi=>((HL4.out.rr i hi).lt (G5 i) rfl).2⟩
      have HU:Hid (∀ i r,i<k->r<R->((upd m k fun _=>false) i r=true↔Pl.Us f.code i (r:Int))):=fun i r hi hr=>by rw[upd_ne (by omega)];exact HL.out.2 i r hi hr
      clear hus o5 d5 hG5 hA5 hC5 hN5 HL4 HL2 H3 HL x0 x1 x2 x3 x4 k0 k1 k2 k3 k4 k5 k6 HX HOK
      go_wp2_with fail
      go_loopw [7] (fun t wr=>∃ j:Nat,j<=us.length/\t=.int .i64 j/\Hid (∃ m',Lb w wr f v ⟨some ⟨bb,off,none⟩,sl,sc⟩ (k+1) (k+1) R g2 c2 g4 c4 G5 A5 C5 N5 m'/\wr.ownsRow y4.heap.size 3 1 (.slice a5 us.length c5) us.length (us.map (Value.int .i64))/\(∀ i r,i<k->r<R->(m' i r=true↔Pl.Us f.code i (r:Int)))/\∀ r:Nat,r<R->(m' k r=true↔∃ q,q<j/\us.getD q 0=(r:Int)))) (fun t _=>us.length-(intOf t).toNat)
      case atStart=>
        exact⟨0,Nat.zero_le _,rfl,_,H5.out.1,H5.out.2.1,HU.out,fun r hr=>by rw[upd_at];simp⟩
      case round=>
        obtain⟨j,hj,rfl,S⟩:=hrel
        obtain⟨m',L,O,U1,U2⟩:=S.out
        by_cases hjl:j<us.length
        · have hji:(j:Int)<((us.length:Nat):Int):=by omega
          obtain⟨r,hr,hrR⟩:∃ r:Nat,us.getD j 0=(r:Int)/\r<R:=by
            have hmem:us.getD j 0∈us:=by rw[List.getD_eq_getElem?_getD,List.getElem?_eq_getElem hjl];exact List.getElem_mem _
            have:=HUR.out _ hmem
            exact⟨(us.getD j 0).toNat,by omega,by omega⟩
          have hrI:(r:Int)<(R:Int):=by omega
          obtain⟨g5,rfl⟩:∃ g5,a5=some ⟨g5,0,none⟩:=by
            rcases O.2 with ⟨q,q2⟩ | ⟨g,cp,cur,q,_⟩
            · omega
            · simp only[Value.slice.injEq]at q;exact⟨g,q.1⟩
          have q1:wr.cell? ⟨g2,k,none⟩=some (.slice (some ⟨G5 k,0,none⟩) R R):=by
            rw[L.oo.cellAt k (by omega)];unfold rowsV;rw[List.getElem?_map,List.getElem?_range (by omega)];rfl
          have q2:wr.cell? ⟨g5,j,none⟩=some (.int .i64 (r:Int)):=by
            rw[O.cellAt j (by omega),List.getElem?_map,<- hr,List.getD_eq_getElem?_getD,List.getElem?_eq_getElem hjl];rfl
          have q3:wr.frozen? ⟨G5 k,r,none⟩=false:=(L.rr k (by omega)).frozenAt r
          have q4:wr.cell? ⟨G5 k,r,none⟩=some (.bool (m' k r)):=by
            rw[(L.rr k (by omega)).cellAt r (by omega)];unfold mkV;rw[List.getElem?_map,List.getElem?_range hrR];rfl
          have HE:Hid (_/\_/\_/\_/\_):=⟨L,O,U1,U2,hr⟩
          have hk1:(k:Int)<((k+1:Nat):Int):=by omega
          clear S L O U1 U2 hr
          go_wp2_with fail
          go_region
          go_wp2_with fail
          go_roundw
          case rel=>
            refine⟨j+1,by omega,by go_num,setM m' k r,(HE.out.1.mark (by omega) hrR).later (Below.drew (Below.refl _ _)),own_eqL HE.out.2.1 (fun g hg=>?_),fun i r' hi hr'=>?_,fun r' hr'=>?_⟩
            · have:=(HE.out.2.1.lt g hg).1
              have:=H5.out.2.2.2 k (by omega)
              exact heap_setCell_other wr ⟨G5 k,r,none⟩ g _ (fun e=>by simp at e;omega)
            · rw[setM_other (by omega)];exact HE.out.2.2.1 i r' hi hr'
            · by_cases e:r'=r
              · subst e
                exact⟨fun _=>⟨j,by omega,HE.out.2.2.2.2⟩,fun _=>by simp[setM]⟩
              · rw[show setM m' k r k r'=m' k r' from by simp[setM,e],HE.out.2.2.2.1 r' hr']
                constructor
                · rintro⟨q,hq,hq2⟩; exact⟨q,by omega,hq2⟩
                · rintro⟨q,hq,hq2⟩
                  refine⟨q,?_,hq2⟩
                  apply Classical.byContradiction
                  intro hn
                  have:q=j:=by omega
                  rw[this,HE.out.2.2.2.2]at hq2
                  omega
          case measure=>simp[intOf];omega
        · have hji:¬ ((j:Int)<((us.length:Nat):Int)):=by omega
          have HE:Hid (_/\_/\_/\_):=⟨L,O,U1,U2⟩
          clear S L O U1 U2
          go_wp2_with fail
          go_roundw
          case rel=>
            exact⟨k+1,by omega,by go_num,g2,c2,g4,c4,rfl,rfl,G5,A5,C5,N5,_,HE.out.1,fun i r hi hr=>by
              by_cases e:i=k
              · rw[e,HE.out.2.2.2 r hr,<- HUS.out]
                constructor
                · rintro⟨q,hq,hq2⟩
                  rw[<- hq2,List.getD_eq_getElem?_getD,List.getElem?_eq_getElem (by omega)];exact List.getElem_mem _
                · intro hm
                  obtain⟨q,hq,hq2⟩:=List.getElem_of_mem hm
                  exact⟨q,by omega,by rw[List.getD_eq_getElem?_getD,List.getElem?_eq_getElem hq];exact hq2⟩
              · exact HE.out.2.2.1 i r (by omega) hr⟩
          case measure=>simp[intOf];omega
    · have hki:¬ ((k:Int)<(sl:Int)):=by omega
      obtain rfl:k=sl:=by omega
      go_wp2_with fail
      go_loopw [8] (fun t wr=>∃ b:Bool,t=.bool b/\Hid (∃ m',Lb w wr f v ⟨some ⟨bb,off,none⟩,k,sc⟩ k k R go co gn cn G A C NS m'/\(∀ i r,i<k->r<R->m' i r=true->Pl.Live f.code (r:Int) i)/\(∀ i r,i<k->r<R->Pl.Us f.code i (r:Int)->m' i r=true)/\(b=false->∀ i q r (j:Nat),i<k->q<(NS i).length->r<R->(NS i).getD q 0=(j:Int)->m' j r=true->¬ Pl.Se f.code i r->m' i r=true))) (fun t wr=>unW k R G wr+(match t with | .bool true=>1 | _=>0))
      case atStart=>
        refine⟨true,rfl,m,HL.out.1,fun i r hi hr hm=>?_,fun i r hi hr hu=>(HL.out.2 i r hi hr).2 hu,fun c=>(by cases c)⟩
        exact .use (by have:=HF.out.2.1;omega) ((HL.out.2 i r hi hr).1 hm)
      case round=>
        obtain⟨b,rfl,S⟩:=hrel
        obtain⟨m1,L1,V1,V2,V3⟩:=S.out
        have H1:Hid (_/\_/\_/\_):=⟨L1,V1,V2,V3⟩
        clear S V1 V2 V3
        obtain⟨x0,x1,x2,x3,x4⟩:=L1.cells HRG.out
        clear L1
        cases b with
        | false=>
          go_wp2_with fail
          go_ret
          have hl:=HF.out.2.1
          subst hl
          refine⟨go,co,G,m1,rfl,H1.out.1.oo,H1.out.1.rr,?_,H1.out.1.bel⟩
          exact Ps.end_ (m0:=m1) (done:=fun _ _ _=>True) HF.out.1 H1.out.1.nx ⟨fun _=>⟨fun _ _ _ _=>rfl,fun i q r j hi hq hr _=>H1.out.2.2.2 (by first | rfl | trivial) i q r j hi hq hr⟩,(fun c=>(by cases c)),Nat.le_refl _,H1.out.2.1,H1.out.2.2.1⟩ (fun _ _ _ _ _ _=>trivial)
        | true=>
          go_wp2_with fail
          go_loopw [8,9] (fun t i wr=>∃ (p:Nat) (b:Bool),p<=k/\i=.int .i64 ((p:Int)-1)/\t=.bool b/\Hid (∃ m2,Lb w wr f v ⟨some ⟨bb,off,none⟩,k,sc⟩ k k R go co gn cn G A C NS m2/\Ps f k R NS m1 m2 b (fun i _ _=>p<=i))) (fun _ i _=>(intOf i+1).toNat)
          case atStart=>
            exact⟨k,false,Nat.le_refl _,rfl,rfl,m1,H1.out.1,⟨fun _=>⟨fun _ _ _ _=>rfl,fun i q r j hi hq hr d=>absurd d (by omega)⟩,(fun c=>(by cases c)),Nat.le_refl _,H1.out.2.1,H1.out.2.2.1⟩⟩
          case round=>
            obtain⟨p,b,hp,rfl,rfl,S⟩:=hrel
            obtain⟨m2,L2,P2⟩:=S.out
            have H2:Hid (_/\_):=⟨L2,P2⟩
            clear S P2 x0 x1 x2 x3 x4
            obtain⟨x0,x1,x2,x3,x4⟩:=L2.cells HRG.out
            clear L2
            cases p with
            | zero=>
              go_wp2_with fail
              go_roundw
              case rel=>
                exact⟨b,rfl,m2,H2.out.1,H2.out.2.live,H2.out.2.use,fun hb i q r j hi hq hr=>(H2.out.2.no hb).2 i q r j hi hq hr (Nat.zero_le _)⟩
              case measure=>
                have e1:=unW_eq H1.out.1
                have e2:=unW_eq H2.out.1
                have e3:=H2.out.2.le
                have e4:=H2.out.2.yes
                cases b with
                | false=>simp only[e1,e2];omega
                | true=>have:=e4 rfl;simp only[e1,e2];omega
            | succ p=>
              have hpk:p<k:=by omega
              have hp0:((p+1:Nat):Int)-1=(p:Int):=by omega
              have hp1:(0:Int)<=(p:Int):=by omega
              have hp2:(p:Int)<(k:Int):=by omega
              rw[hp0]
              obtain⟨bb',off',y,hsa,_,hb4,hc4,hr4,_⟩:=(HF.out.2.2.keep H2.out.1.bel).at hpk
              simp only[Option.some.injEq,Addr.mk.injEq,and_true]at hsa
              obtain⟨hsa1,hsa2⟩:=hsa
              rw[<- hsa1,<- hsa2]at hc4
              obtain⟨x,hx⟩:∃ x,x=f.code.getD p Pl.IrI.zero:=⟨_,rfl⟩
              rw[<- hx]at hc4
              obtain⟨k0,k1,k2,k3,k4,k5,k6⟩:=iri_cells hc4
              have hok:Pl.insOk f.slots.length f.regs x:=by have:=(HF.out.1.2.2.1 p (by have:=HF.out.2.1;omega)).1;rw[<- hx]at this;exact this
              obtain⟨st,hst⟩:∃ st,st=Pl.setsD x:=⟨_,rfl⟩
              have HST:Hid (∀ r:Nat,(r:Int)=st↔Pl.Se f.code p (r:Int)):=by
                intro r
                unfold Pl.Se
                rw[hst,<- hx]
                exact (Pl.same_us hok).2 r (by omega)
              clear hx hr4 hc4 hsa1 hsa2
              go_wp2_with fail
              refine (l11Sets_any x y (by have:=hok.1;omega) (by have:=hok.1;omega) _).mono ?_
              clear hok
              rintro e u3 ⟨rfl,d3⟩
              rw[<- hst]
              have H3:Hid (Lb w u3 f v ⟨some ⟨bb,off,none⟩,k,sc⟩ k k R go co gn cn G A C NS m2/\Ps f k R NS m1 m2 b (fun i _ _=>p+1<=i)):=⟨H2.out.1.later d3,H2.out.2⟩
              clear d3 hst x0 x1 x2 x3 x4 k0 k1 k2 k3 k4 k5 k6
              go_wp2_with fail
              go_loopw [8,11] (fun t q wr=>∃ (qq:Nat) (b:Bool),qq<=(NS p).length/\q=.int .i64 qq/\t=.bool b/\Hid (∃ m3,Lb w wr f v ⟨some ⟨bb,off,none⟩,k,sc⟩ k k R go co gn cn G A C NS m3/\Ps f k R NS m1 m3 b (fun i q' _=>p+1<=i\/(i=p/\q'<qq)))) (fun _ q _=>(NS p).length-(intOf q).toNat)
              case atStart=>
                exact⟨0,b,Nat.zero_le _,rfl,rfl,m2,H3.out.1,H3.out.2.keep (fun i q r _ _ _ d=>d.elim id (fun c=>absurd c.2 (Nat.not_lt_zero _)))⟩
              case round=>
                obtain⟨qq,b,hqq,rfl,rfl,S⟩:=hrel
                obtain⟨m3,L3,P3⟩:=S.out
                have H4:Hid (_/\_):=⟨L3,P3⟩
                clear S P3
                obtain⟨x0,x1,x2,x3,x4⟩:=L3.cells HRG.out
                have z1:wr.cell? ⟨gn,p,none⟩=some (.slice (A p) (NS p).length (C p)):=by
                  rw[L3.nn.cellAt p (by omega)];unfold listsV;rw[List.getElem?_map,List.getElem?_range (by omega)];rfl
                have hnl:(NS p).length<=2:=(L3.nx p hpk).1
                have hnl2:((NS p).length:Int)<=9223372036854775807:=by omega
                by_cases hql:qq<(NS p).length
                · have hqi:(qq:Int)<((NS p).length:Int):=by omega
                  obtain⟨j,hj,hjn⟩:∃ j:Nat,(NS p).getD qq 0=(j:Int)/\Pl.Nx f.code p j:=by
                    have hm:(NS p).getD qq 0∈NS p:=by rw[List.getD_eq_getElem?_getD,List.getElem?_eq_getElem hql];exact List.getElem_mem _
                    exact ((L3.nx p hpk).2 _).1 hm
                  have hjk:j<k:=by rw[HF.out.2.1];exact Pl.nx_lt HF.out.1 (by have:=HF.out.2.1;omega) hjn
                  have hji:(j:Int)<(k:Int):=by omega
                  obtain⟨ga,hga⟩:∃ ga,A p=some ⟨ga,0,none⟩:=by
                    rcases (L3.nr p hpk).2 with ⟨_,q2⟩ | ⟨g,cp,cur,q,_⟩
                    · omega
                    · simp only[Value.slice.injEq]at q;exact⟨g,q.1⟩
                  have z2:wr.cell? ⟨ga,qq,none⟩=some (.int .i64 (j:Int)):=by
                    have q0:=L3.nr p hpk
                    rw[hga]at q0
                    rw[q0.cellAt qq (by omega),List.getElem?_map,<- hj,List.getD_eq_getElem?_getD,List.getElem?_eq_getElem hql];rfl
                  have z3:wr.cell? ⟨go,j,none⟩=some (.slice (some ⟨G j,0,none⟩) R R):=by
                    rw[L3.oo.cellAt j (by omega)];unfold rowsV;rw[List.getElem?_map,List.getElem?_range (by omega)];rfl
                  rw[hga]at z1
                  have HJ2:Hid ((NS p).getD qq 0=(j:Int)/\Pl.Nx f.code p j):=⟨hj,hjn⟩
                  clear L3 hj hjn
                  go_wp2_with fail
                  clear x0 x1 x2 x3 x4 z1 z2 z3
                  go_loopw [8,13] (fun t rr wr=>∃ (r:Nat) (b:Bool),r<=R/\rr=.int .i64 r/\t=.bool b/\Hid (∃ m4,Lb w wr f v ⟨some ⟨bb,off,none⟩,k,sc⟩ k k R go co gn cn G A C NS m4/\Ps f k R NS m1 m4 b (fun i q' r'=>p+1<=i\/(i=p/\q'<qq)\/(i=p/\q'=qq/\r'<r)))) (fun _ rr _=>R-(intOf rr).toNat)
                  case atStart=>
                    exact⟨0,b,Nat.zero_le _,rfl,rfl,m3,H4.out.1,H4.out.2.keep (fun i q r _ _ _ d=>by
                      rcases d with d | d | d
                      · exact .inl d
                      · exact .inr d
                      · exact absurd d.2.2 (Nat.not_lt_zero _))⟩
                  case round=>
                    obtain⟨r,b,hr,rfl,rfl,S⟩:=hrel
                    obtain⟨m4,L4,P4⟩:=S.out
                    have H5:Hid (_/\_):=⟨L4,P4⟩
                    clear S P4
                    obtain⟨x0,x1,x2,x3,x4⟩:=L4.cells HRG.out
                    by_cases hrR:r<R
                    · have hri:(r:Int)<(R:Int):=by omega
                      have y1:wr.cell? ⟨G j,r,none⟩=some (.bool (m4 j r)):=by
                        rw[(L4.rr j hjk).cellAt r (by omega)];unfold mkV;rw[List.getElem?_map,List.getElem?_range hrR];rfl
                      have y2:wr.cell? ⟨go,p,none⟩=some (.slice (some ⟨G p,0,none⟩) R R):=by
                        rw[L4.oo.cellAt p (by omega)];unfold rowsV;rw[List.getElem?_map,List.getElem?_range (by omega)];rfl
                      have y3:wr.cell? ⟨G p,r,none⟩=some (.bool (m4 p r)):=by
                        rw[(L4.rr p hpk).cellAt r (by omega)];unfold mkV;rw[List.getElem?_map,List.getElem?_range hrR];rfl
                      have y4:wr.frozen? ⟨G p,r,none⟩=false:=(L4.rr p hpk).frozenAt r
                      clear L4
                      have PASS:Hid ((m4 j r=true->¬ Pl.Se f.code p r->m4 p r=true)->Ps f k R NS m1 m4 b (fun i q' r'=>p+1<=i\/(i=p/\q'<qq)\/(i=p/\q'=qq/\r'<r+1))):=fun hn=>H5.out.2.pass HJ2.out.1 (fun i q r' _ _ _ d=>by
                        rcases d with d | d | ⟨d1,d2,d3⟩
                        · exact .inl (.inl d)
                        · exact .inl (.inr (.inl d))
                        · by_cases e:r'=r
                          · exact .inr ⟨d1,d2,e⟩
                          · exact .inl (.inr (.inr ⟨d1,d2,by omega⟩))) hn
                      by_cases c1:m4 j r=true
                      · by_cases c2:(r:Int)=st
                        · have e2:((r:Int) == st)=true:=by simpa using c2
                          have e3:((r:Int) != st)=false:=by simp[bne,e2]
                          have HP:Hid (m4 j r=true->¬ Pl.Se f.code p r->m4 p r=true):=fun _ c=>absurd ((HST.out r).1 c2) c
                          rw[c1]at y1
                          clear c1 c2
                          go_wp2_with fail
                          go_roundw
                          case rel=>exact⟨r+1,b,by omega,by go_num,rfl,m4,H5.out.1,PASS.out HP.out⟩
                          case measure=>simp[intOf] <;> omega
                        · have e2:((r:Int) == st)=false:=by rw[beq_eq_false_iff_ne];exact c2
                          have e3:((r:Int) != st)=true:=by simp[bne,e2]
                          by_cases c3:m4 p r=true
                          · have HP:Hid (m4 j r=true->¬ Pl.Se f.code p r->m4 p r=true):=fun _ _=>c3
                            rw[c1]at y1
                            rw[c3]at y3
                            clear c1 c2 c3
                            go_wp2_with fail
                            go_roundw
                            case rel=>exact⟨r+1,b,by omega,by go_num,rfl,m4,H5.out.1,PASS.out HP.out⟩
                            case measure=>simp[intOf] <;> omega
                          · have c3':m4 p r=false:=by simpa using c3
                            have HP:Hid (Ps f k R NS m1 (setM m4 p r) true (fun i q' r'=>p+1<=i\/(i=p/\q'<qq)\/(i=p/\q'=qq/\r'<r+1))):=H5.out.2.hit hpk hrR c3' (.go (by have:=HF.out.2.1;omega) (by have:=HF.out.2.1;omega) HJ2.out.2 (fun c=>c2 ((HST.out r).2 c)) (H5.out.2.live j r hjk hrR c1))
                            rw[c1]at y1
                            rw[c3']at y3
                            clear c1 c2 c3 c3'
                            go_wp2_with fail
                            go_roundw
                            case rel=>exact⟨r+1,true,by omega,by go_num,rfl,setM m4 p r,H5.out.1.mark hpk hrR,HP.out⟩
                            case measure=>simp[intOf] <;> omega
                      · have c1':m4 j r=false:=by simpa using c1
                        have HP:Hid (m4 j r=true->¬ Pl.Se f.code p r->m4 p r=true):=fun c=>absurd c c1
                        rw[c1']at y1
                        clear c1 c1'
                        go_wp2_with fail
                        go_roundw
                        case rel=>exact⟨r+1,b,by omega,by go_num,rfl,m4,H5.out.1,PASS.out HP.out⟩
                        case measure=>simp[intOf] <;> omega
                    · have hri:¬ ((r:Int)<(R:Int)):=by omega
                      clear L4
                      go_wp2_with fail
                      go_roundw
                      case rel=>
                        exact⟨qq+1,b,by omega,by go_num,rfl,m4,H5.out.1,H5.out.2.keep (fun i q r' _ _ _ d=>by
                          rcases d with d | ⟨d1,d2⟩
                          · exact .inl d
                          · by_cases e:q=qq
                            · exact .inr (.inr ⟨d1,e,by omega⟩)
                            · exact .inr (.inl ⟨d1,by omega⟩))⟩
                      case measure=>simp[intOf] <;> omega
                · have hqi:¬ ((qq:Int)<((NS p).length:Int)):=by omega
                  go_wp2_with fail
                  go_roundw
                  case rel=>
                    exact⟨p,b,by omega,by go_num,rfl,m3,H4.out.1,H4.out.2.keep (fun i q r _ hq _ d=>by
                      rcases Nat.lt_or_ge p i with c | c
                      · exact .inl c
                      · have:i=p:=by omega
                        subst this
                        exact .inr ⟨rfl,by omega⟩)⟩
                  case measure=>simp[intOf] <;> omega
def codeAtF (n:Nat):Code->Option Code
 | .region m ops d=>if m == n then some (.region m ops d) else none
 | .seq a b=>match codeAtF n a with
  | some c=>some c
  | none=>codeAtF n b
 | .block _ c=>codeAtF n c
 | .loop c=>codeAtF n c
 | .scope c=>codeAtF n c
 | _=>none
noncomputable def foC (n:Nat):Code:=((Tryz.f27.body.bind (codeAtF n)).getD .skip)
theorem l10Tests_ir (w:World):Calls Tryz.prog 49 #[] w fun e w'=>e=.returned (.slice (some ⟨w.heap.size,0,none⟩) 6 6)/\SRow w.heap.size w' (some ⟨w.heap.size,0,none⟩) 6 6 Pl.irTests/\Below w.heap.size w w':=by
 go_enter Tryz.func49,Tryz.ntmps49
 go_wp2_with fail
 go_ret
 refine⟨rfl,⟨⟨rfl,fun x hx=>?_⟩,Nat.le_refl _,by unfold maxLen;decide,.inr ⟨w.heap.size,0,rfl,Nat.le_refl _,by simp,fun i hi=>?_⟩⟩,below_alloc _ _⟩
 ·have:x.size<=3:=by simp[Pl.irTests]at hx;rcases hx with rfl | rfl | rfl | rfl | rfl | rfl <;> decide
  unfold maxLen;omega
 ·rw[cell_of_row _ _ _ _ _ (0,0) (heap_alloc_new w _)]
  rcases (show i=0\/i=1\/i=2\/i=3\/i=4\/i=5 by omega) with rfl | rfl | rfl | rfl | rfl | rfl <;> rfl
def FoaMk (g1 g6:Nat) (f:Pl.IrF) (v s:SV) (x:Pl.IrI) (y2:SV) (c0 c2 c3 c4 c5 c7 c8 c9 c10 c11 c12 c13 c14 c15 c16 c17 c18 c19 c20 c21 c22 c23 c24 c25 c26 c27 c28 c29 c30 c31 c32 c33 c34 c35 c36 c37 c38 c39 c40 c41 c42 c43 c44 c45 c46 c47 c48 c49 c50 c51 c52 c53 c54 c55 c56 c57 c58 c59 c60 c61 c62 c63 c64 c65 c66 c67 c68 c69 c70 c71 c72 c73 c74 c75 c76 c77 c78 c79 c80 c81 c82 c83 c84 c85 c86 c87 c88 c89 c90 c91 c92 c93 c94 c95 c96 c97 c98 c99 c100 c101 c102 c103 c104 c105 c106 c107 c108 c109 c110 c111 c112 c113 c114 c115 c116 c117 c118 c119 c120 c121 c122 c123 c124 c125 c126 c127 c128 c129 c130 c131 c132 c133 c134 c135 c136 c137 c138 c139 c140 c141 c142 c143 c144 c145 c146 c147 c148 c149 c150 c151 c152 c153 c154 c155 c156 c157 c158 c159 c160 c161:Value) (gt:Nat) (L:Array Bool):Act:={ tmps:=#[c0,.pointer (some ⟨g1,0,none⟩),c2,c3,c4,c5,.pointer (some ⟨g6,0,none⟩),c7,c8,c9,c10,c11,c12,c13,c14,c15,c16,c17,c18,c19,c20,c21,c22,c23,c24,c25,c26,c27,c28,c29,c30,c31,c32,c33,c34,c35,c36,c37,c38,c39,c40,c41,c42,c43,c44,c45,c46,c47,c48,c49,c50,c51,c52,c53,c54,c55,c56,c57,c58,c59,c60,c61,c62,c63,c64,c65,c66,c67,c68,c69,c70,c71,c72,c73,c74,c75,c76,c77,c78,c79,c80,c81,c82,c83,c84,c85,c86,sld c87 L 0 (.agg #[.string f.name,.int .i64 f.params,.int .i64 f.regs,.slice v.a v.len v.cap,.slice s.a s.len s.cap]),sld c88 L 1 (.agg #[.int .i64 x.op,.int .i64 x.d,.int .i64 x.a,.int .i64 x.b,.int .i64 x.n,.string x.sym,.slice y2.a y2.len y2.cap]),sld c89 L 2 (.bool false),sld c90 L 3 (.bool true),sld c91 L 4 (.bool true),sld c92 L 5 (undef),sld c93 L 6 (undef),sld c94 L 7 (undef),sld c95 L 8 (undef),sld c96 L 9 (undef),sld c97 L 10 (undef),sld c98 L 11 (undef),sld c99 L 12 (undef),sld c100 L 13 (undef),sld c101 L 14 (undef),sld c102 L 15 (.bool true),c103,c104,c105,c106,c107,c108,c109,c110,c111,c112,c113,c114,c115,c116,c117,c118,c119,c120,c121,c122,c123,c124,c125,c126,c127,c128,c129,c130,c131,c132,c133,c134,c135,c136,c137,c138,c139,c140,c141,c142,c143,c144,c145,c146,c147,c148,c149,c150,c151,c152,c153,c154,c155,c156,c157,c158,c159,c160,c161],defers:=[] }
def FoaW (y:World) (gt:Nat) (L:Array Bool) (w:World):Prop:=Below y.heap.size y w/\(up L 9=true->True)
theorem FoaW.keep {y:World} {gt:Nat} {L:Array Bool} {w:World} (h:FoaW y gt L w) {i:Nat} (hi:i<L.size) (n:i≠90) {w':World} (hB:Below w.heap.size w w'):FoaW y gt (L.setIfInBounds i true) w':=
 ⟨h.1.trans (hB.mono h.1.size),fun _=>trivial⟩
set_option maxRecDepth 100000 in
theorem fo13_a {y:World} {g1 g6:Nat} {f:Pl.IrF} {v s:SV} {x:Pl.IrI} {y2:SV} (hbf:y.heap[g1]?=some (.cells #[.string f.name,.int .i64 f.params,.int .i64 f.regs,.slice v.a v.len v.cap,.slice s.a s.len s.cap] 31 (0,0))) (hbx:y.heap[g6]?=some (.cells #[.int .i64 x.op,.int .i64 x.d,.int .i64 x.a,.int .i64 x.b,.int .i64 x.n,.string x.sym,.slice y2.a y2.len y2.cap] 81 (0,0))) (hOK:∀ u:World,Below y.heap.size y u->Calls Tryz.prog 47 #[.agg #[.string f.name,.int .i64 f.params,.int .i64 f.regs,.slice v.a v.len v.cap,.slice s.a s.len s.cap],.agg #[.int .i64 x.op,.int .i64 x.d,.int .i64 x.a,.int .i64 x.b,.int .i64 x.n,.string x.sym,.slice y2.a y2.len y2.cap]] u fun e u'=>e=.returned (.bool false)/\Below u.heap.size u u') (c0 c2 c3 c4 c5 c7 c8 c9 c10 c11 c12 c13 c14 c15 c16 c17 c18 c19 c20 c21 c22 c23 c24 c25 c26 c27 c28 c29 c30 c31 c32 c33 c34 c35 c36 c37 c38 c39 c40 c41 c42 c43 c44 c45 c46 c47 c48 c49 c50 c51 c52 c53 c54 c55 c56 c57 c58 c59 c60 c61 c62 c63 c64 c65 c66 c67 c68 c69 c70 c71 c72 c73 c74 c75 c76 c77 c78 c79 c80 c81 c82 c83 c84 c85 c86 c87 c88 c89 c90 c91 c92 c93 c94 c95 c96 c97 c98 c99 c100 c101 c102 c103 c104 c105 c106 c107 c108 c109 c110 c111 c112 c113 c114 c115 c116 c117 c118 c119 c120 c121 c122 c123 c124 c125 c126 c127 c128 c129 c130 c131 c132 c133 c134 c135 c136 c137 c138 c139 c140 c141 c142 c143 c144 c145 c146 c147 c148 c149 c150 c151 c152 c153 c154 c155 c156 c157 c158 c159 c160 c161:Value) (Q:Exit->Act->World->Prop)
  (hK:∀ (s87 s88 s89 s90 s91 s92 s93 s94 s95 s96 s97 s98 s99 s100 s101:Value) (y':World),Below y.heap.size y y'->Q .normal { tmps:=#[c0,.pointer (some ⟨g1,0,none⟩),c2,c3,c4,c5,.pointer (some ⟨g6,0,none⟩),c7,c8,c9,c10,c11,c12,c13,c14,c15,c16,c17,c18,c19,c20,c21,c22,c23,c24,c25,c26,c27,c28,c29,c30,c31,c32,c33,c34,c35,c36,c37,c38,c39,c40,c41,c42,c43,c44,c45,c46,c47,c48,c49,c50,c51,c52,c53,c54,c55,c56,c57,c58,c59,c60,c61,c62,c63,c64,c65,c66,c67,c68,c69,c70,c71,c72,c73,c74,c75,c76,c77,c78,c79,c80,c81,c82,c83,c84,c85,c86,s87,s88,s89,s90,s91,s92,s93,s94,s95,s96,s97,s98,s99,s100,s101,.bool true,c103,c104,c105,c106,c107,c108,c109,c110,c111,c112,c113,c114,c115,c116,c117,c118,c119,c120,c121,c122,c123,c124,c125,c126,c127,c128,c129,c130,c131,c132,c133,c134,c135,c136,c137,c138,c139,c140,c141,c142,c143,c144,c145,c146,c147,c148,c149,c150,c151,c152,c153,c154,c155,c156,c157,c158,c159,c160,c161],defers:=[] } y') :
  (foC 13).wp Tryz.prog Q { tmps:=#[c0,.pointer (some ⟨g1,0,none⟩),c2,c3,c4,c5,.pointer (some ⟨g6,0,none⟩),c7,c8,c9,c10,c11,c12,c13,c14,c15,c16,c17,c18,c19,c20,c21,c22,c23,c24,c25,c26,c27,c28,c29,c30,c31,c32,c33,c34,c35,c36,c37,c38,c39,c40,c41,c42,c43,c44,c45,c46,c47,c48,c49,c50,c51,c52,c53,c54,c55,c56,c57,c58,c59,c60,c61,c62,c63,c64,c65,c66,c67,c68,c69,c70,c71,c72,c73,c74,c75,c76,c77,c78,c79,c80,c81,c82,c83,c84,c85,c86,c87,c88,c89,c90,c91,c92,c93,c94,c95,c96,c97,c98,c99,c100,c101,c102,c103,c104,c105,c106,c107,c108,c109,c110,c111,c112,c113,c114,c115,c116,c117,c118,c119,c120,c121,c122,c123,c124,c125,c126,c127,c128,c129,c130,c131,c132,c133,c134,c135,c136,c137,c138,c139,c140,c141,c142,c143,c144,c145,c146,c147,c148,c149,c150,c151,c152,c153,c154,c155,c156,c157,c158,c159,c160,c161],defers:=[] } y:=by
 have HKt:Hid _:=hK
 clear hK
 have HOK:Hid _:=hOK
 clear hOK
 conv=>arg 2;whnf
 have e0:=cell_of_row y g1 0 _ 31 (0,0) hbf
 have e1:=cell_of_row y g1 1 _ 31 (0,0) hbf
 have e2:=cell_of_row y g1 2 _ 31 (0,0) hbf
 have e3:=cell_of_row y g1 3 _ 31 (0,0) hbf
 have e4:=cell_of_row y g1 4 _ 31 (0,0) hbf
 have d0:=cell_of_row y g6 0 _ 81 (0,0) hbx
 have d1:=cell_of_row y g6 1 _ 81 (0,0) hbx
 have d2:=cell_of_row y g6 2 _ 81 (0,0) hbx
 have d3:=cell_of_row y g6 3 _ 81 (0,0) hbx
 have d4:=cell_of_row y g6 4 _ 81 (0,0) hbx
 have d5:=cell_of_row y g6 5 _ 81 (0,0) hbx
 have d6:=cell_of_row y g6 6 _ 81 (0,0) hbx
 simp only[List.getElem?_toArray,List.getElem?_cons_zero,List.getElem?_cons_succ]at e0 e1 e2 e3 e4 d0 d1 d2 d3 d4 d5 d6
 clear hbx hbf
 have hund:yielded.match_1 (motive:=fun _=>Option Bool) (some undef) (fun b=>some b) (fun _=>none)=none:=rfl
 refine wp_region_any (by kernel_rfl) ?_
 change wpAny _ _ _ _ _ _ _ (World.drew _)
 refine wpAny_inw (fun L a w=>∃ gt,a=FoaMk g1 g6 f v s x y2 c0 c2 c3 c4 c5 c7 c8 c9 c10 c11 c12 c13 c14 c15 c16 c17 c18 c19 c20 c21 c22 c23 c24 c25 c26 c27 c28 c29 c30 c31 c32 c33 c34 c35 c36 c37 c38 c39 c40 c41 c42 c43 c44 c45 c46 c47 c48 c49 c50 c51 c52 c53 c54 c55 c56 c57 c58 c59 c60 c61 c62 c63 c64 c65 c66 c67 c68 c69 c70 c71 c72 c73 c74 c75 c76 c77 c78 c79 c80 c81 c82 c83 c84 c85 c86 c87 c88 c89 c90 c91 c92 c93 c94 c95 c96 c97 c98 c99 c100 c101 c102 c103 c104 c105 c106 c107 c108 c109 c110 c111 c112 c113 c114 c115 c116 c117 c118 c119 c120 c121 c122 c123 c124 c125 c126 c127 c128 c129 c130 c131 c132 c133 c134 c135 c136 c137 c138 c139 c140 c141 c142 c143 c144 c145 c146 c147 c148 c149 c150 c151 c152 c153 c154 c155 c156 c157 c158 c159 c160 c161 gt L/\FoaW y gt L w) ?done (by kernel_rfl) ?step _ 16 _ _ (by kernel_rfl) ?init (by decide)
 case init=>exact⟨0,by simp only[FoaMk,sld_no (up_init _ _)],Below.drew (Below.refl _ _),fun q=>absurd (q.symm.trans (up_init _ _)) (by decide)⟩
 case step=>
  intro L act w i o hI hlt hs nl hC hd ho K hK
  obtain⟨gt,rfl,hW⟩:=hI
  have hi_lt:i<16:=(Array.getElem?_eq_some_iff.1 ho).1
  rcases (show i=0\/i=1\/i=2\/i=3\/i=4\/i=5\/i=6\/i=7\/i=8\/i=9\/i=10\/i=11\/i=12\/i=13\/i=14\/i=15 by omega) with rfl | rfl | rfl | rfl | rfl | rfl | rfl | rfl | rfl | rfl | rfl | rfl | rfl | rfl | rfl | rfl
  ·change some _=some o at ho
   cases ho
   have k0:=below_cell hW.1 e0
   have k1:=below_cell hW.1 e1
   have k2:=below_cell hW.1 e2
   have k3:=below_cell hW.1 e3
   have k4:=below_cell hW.1 e4
   simp only[FoaMk]
   go_simp
   exact hK _ _ ⟨gt,by simp only[FoaMk,sld_set hlt,reduceIte,Nat.reduceEqDiff];try rfl,(hW.keep hlt (by decide) (Below.refl _ _))⟩
  ·change some _=some o at ho
   cases ho
   have k0:=below_cell hW.1 d0
   have k1:=below_cell hW.1 d1
   have k2:=below_cell hW.1 d2
   have k3:=below_cell hW.1 d3
   have k4:=below_cell hW.1 d4
   have k5:=below_cell hW.1 d5
   have k6:=below_cell hW.1 d6
   simp only[FoaMk]
   go_simp
   exact hK _ _ ⟨gt,by simp only[FoaMk,sld_set hlt,reduceIte,Nat.reduceEqDiff];try rfl,(hW.keep hlt (by decide) (Below.refl _ _))⟩
  ·change some _=some o at ho
   cases ho
   have q0:up L 0=true:=hd { on:=0,ground:=.data } (by simp) rfl
   have q1:up L 1=true:=hd { on:=1,ground:=.data } (by simp) rfl
   simp only[FoaMk,sld_yes q0,sld_yes q1]
   go_simp
   refine (HOK.out w hW.1).mono ?_
   rintro e z ⟨rfl,dz⟩
   go_simp
   exact hK _ _ ⟨gt,by simp only[FoaMk,sld_set hlt,sld_yes q0,sld_yes q1,reduceIte,Nat.reduceEqDiff];try rfl,(hW.keep hlt (by decide) dz)⟩
  ·change some _=some o at ho
   cases ho
   have q2:up L 2=true:=hd { on:=2,ground:=.data } (by simp) rfl
   simp only[FoaMk,sld_yes q2]
   go_simp
   exact hK _ _ ⟨gt,by simp only[FoaMk,sld_set hlt,sld_yes q2,reduceIte,Nat.reduceEqDiff];try rfl,(hW.keep hlt (by decide) (Below.refl _ _))⟩
  ·change some _=some o at ho
   cases ho
   have q3:up L 3=true:=hd { on:=3,ground:=.data } (by simp) rfl
   simp only[FoaMk,sld_yes q3]
   go_simp
   exact hK _ _ ⟨gt,by simp only[FoaMk,sld_set hlt,sld_yes q3,reduceIte,Nat.reduceEqDiff];try rfl,(hW.keep hlt (by decide) (Below.refl _ _))⟩
  ·change some _=some o at ho
   cases ho
   have q4:up L 4=true:=(hd { on:=4,ground:=.guard } (by simp) rfl)
   simp only[FoaMk,sld_yes q4]
   go_simp
   exact hK _ _ ⟨gt,by simp only[FoaMk,sld_set hlt,sld_yes q4,reduceIte,Nat.reduceEqDiff];try rfl,(hW.keep hlt (by decide) (Below.refl _ _))⟩
  ·change some _=some o at ho
   cases ho
   have q4:up L 4=true:=(hd { on:=4,ground:=.guard } (by simp) rfl)
   have q5:up L 5=true:=hd { on:=5,ground:=.data } (by simp) rfl
   simp only[FoaMk,sld_yes q4,sld_yes q5]
   go_simp
   exact hK _ _ ⟨gt,by simp only[FoaMk,sld_set hlt,sld_yes q4,sld_yes q5,reduceIte,Nat.reduceEqDiff];try rfl,(hW.keep hlt (by decide) (Below.refl _ _))⟩
  ·change some _=some o at ho
   cases ho
   have q4:up L 4=true:=(hd { on:=4,ground:=.guard } (by simp) rfl)
   have q6:up L 6=true:=hd { on:=6,ground:=.data } (by simp) rfl
   simp only[FoaMk,sld_yes q4,sld_yes q6]
   go_simp
   exact hK _ _ ⟨gt,by simp only[FoaMk,sld_set hlt,sld_yes q4,sld_yes q6,reduceIte,Nat.reduceEqDiff];try rfl,(hW.keep hlt (by decide) (Below.refl _ _))⟩
  ·change some _=some o at ho
   cases ho
   have q4:up L 4=true:=(hd { on:=4,ground:=.guard } (by simp) rfl)
   have q7:up L 7=true:=hd { on:=7,ground:=.data } (by simp) rfl
   simp only[FoaMk,sld_yes q4,sld_yes q7]
   go_simp
   exact hK _ _ ⟨gt,by simp only[FoaMk,sld_set hlt,sld_yes q4,sld_yes q7,reduceIte,Nat.reduceEqDiff];try rfl,(hW.keep hlt (by decide) (Below.refl _ _))⟩
  ·change some _=some o at ho
   cases ho
   have q8:up L 8=true:=(hd { on:=8,ground:=.guard } (by simp) rfl)
   simp only[FoaMk,sld_yes q8]
   go_simp
   exact hK _ _ ⟨gt,by simp only[FoaMk,sld_set hlt,sld_yes q8,reduceIte,Nat.reduceEqDiff];try rfl,(hW.keep hlt (by decide) (Below.refl _ _))⟩
  ·change some _=some o at ho
   cases ho
   have q8:up L 8=true:=(hd { on:=8,ground:=.guard } (by simp) rfl)
   simp only[FoaMk,sld_yes q8]
   go_simp
   exact hK _ _ ⟨gt,by simp only[FoaMk,sld_set hlt,sld_yes q8,reduceIte,Nat.reduceEqDiff];try rfl,(hW.keep hlt (by decide) (Below.refl _ _))⟩
  ·change some _=some o at ho
   cases ho
   have q8:up L 8=true:=(hd { on:=8,ground:=.guard } (by simp) rfl)
   have q10:up L 10=true:=hd { on:=10,ground:=.data } (by simp) rfl
   simp only[FoaMk,sld_yes q8,sld_yes q10]
   go_simp
   exact hK _ _ ⟨gt,by simp only[FoaMk,sld_set hlt,sld_yes q8,sld_yes q10,reduceIte,Nat.reduceEqDiff];try rfl,(hW.keep hlt (by decide) (Below.refl _ _))⟩
  ·change some _=some o at ho
   cases ho
   have q8:up L 8=true:=(hd { on:=8,ground:=.guard } (by simp) rfl)
   have q9:up L 9=true:=hd { on:=9,ground:=.data } (by simp) rfl
   have q11:up L 11=true:=hd { on:=11,ground:=.data } (by simp) rfl
   simp only[FoaMk,sld_yes q8,sld_yes q9,sld_yes q11]
   go_simp
   exact hK _ _ ⟨gt,by simp only[FoaMk,sld_set hlt,sld_yes q8,sld_yes q9,sld_yes q11,reduceIte,Nat.reduceEqDiff];try rfl,(hW.keep hlt (by decide) (Below.refl _ _))⟩
  ·change some _=some o at ho
   cases ho
   have q8:up L 8=true:=(hd { on:=8,ground:=.guard } (by simp) rfl)
   have q12:up L 12=true:=hd { on:=12,ground:=.data } (by simp) rfl
   simp only[FoaMk,sld_yes q8,sld_yes q12]
   go_simp
   exact hK _ _ ⟨gt,by simp only[FoaMk,sld_set hlt,sld_yes q8,sld_yes q12,reduceIte,Nat.reduceEqDiff];try rfl,(hW.keep hlt (by decide) (Below.refl _ _))⟩
  ·change some _=some o at ho
   cases ho
   have q4:up L 4=true:=(hd { on:=4,ground:=.guard } (by simp) rfl)
   have q8:up L 8=true:=hd { on:=8,ground:=.data } (by simp) rfl
   have q13:up L 13=true:=hd { on:=13,ground:=.data } (by simp) rfl
   simp only[FoaMk,sld_yes q4,sld_yes q8,sld_yes q13]
   go_simp
   exact hK _ _ ⟨gt,by simp only[FoaMk,sld_set hlt,sld_yes q4,sld_yes q8,sld_yes q13,reduceIte,Nat.reduceEqDiff];try rfl,(hW.keep hlt (by decide) (Below.refl _ _))⟩
  ·change some _=some o at ho
   cases ho
   have q4:up L 4=true:=hd { on:=4,ground:=.data } (by simp) rfl
   have q14:up L 14=true:=hd { on:=14,ground:=.data } (by simp) rfl
   simp only[FoaMk,sld_yes q4,sld_yes q14]
   go_simp
   exact hK _ _ ⟨gt,by simp only[FoaMk,sld_set hlt,sld_yes q4,sld_yes q14,reduceIte,Nat.reduceEqDiff];try rfl,(hW.keep hlt (by decide) (Below.refl _ _))⟩
 case done=>
  rintro L a w ⟨gt,rfl,hW⟩ hall
  simp only[FoaMk,sld_yes (hall 0 (by decide)),sld_yes (hall 1 (by decide)),sld_yes (hall 2 (by decide)),sld_yes (hall 3 (by decide)),sld_yes (hall 4 (by decide)),sld_yes (hall 5 (by decide)),sld_yes (hall 6 (by decide)),sld_yes (hall 7 (by decide)),sld_yes (hall 8 (by decide)),sld_yes (hall 9 (by decide)),sld_yes (hall 10 (by decide)),sld_yes (hall 11 (by decide)),sld_yes (hall 12 (by decide)),sld_yes (hall 13 (by decide)),sld_yes (hall 14 (by decide)),sld_yes (hall 15 (by decide))]
  exact HKt.out _ _ _ _ _ _ _ _ _ _ _ _ _ _ _ w hW.1
def FobMk (g1 g6:Nat) (f:Pl.IrF) (v s:SV) (x:Pl.IrI) (y2:SV) (c0 c2 c3 c4 c5 c7 c8 c9 c10 c11 c12 c13 c14 c15 c16 c17 c18 c19 c20 c21 c22 c23 c24 c25 c26 c27 c28 c29 c30 c31 c32 c33 c34 c35 c36 c37 c38 c39 c40 c41 c42 c43 c44 c45 c46 c47 c48 c49 c50 c51 c52 c53 c54 c55 c56 c57 c58 c59 c60 c61 c62 c63 c64 c65 c66 c67 c68 c69 c70 c71 c72 c73 c74 c75 c76 c77 c78 c79 c80 c81 c82 c83 c84 c85 c86 c87 c88 c89 c90 c91 c92 c93 c94 c95 c96 c97 c98 c99 c100 c101 c102 c103 c104 c105 c106 c107 c108 c109 c110 c111 c112 c113 c114 c115 c116 c117 c118 c119 c120 c121 c122 c123 c124 c125 c126 c127 c128 c129 c130 c131 c132 c133 c134 c135 c136 c137 c138 c139 c140 c141 c142 c143 c144 c145 c146 c147 c148 c149 c150 c151 c152 c153 c154 c155 c156 c157 c158 c159 c160 c161:Value) (gt:Nat) (L:Array Bool):Act:={ tmps:=#[c0,.pointer (some ⟨g1,0,none⟩),c2,c3,c4,c5,.pointer (some ⟨g6,0,none⟩),c7,c8,c9,c10,c11,c12,c13,c14,c15,c16,c17,c18,c19,c20,c21,c22,c23,c24,c25,c26,c27,c28,c29,c30,c31,c32,c33,c34,c35,c36,c37,c38,c39,c40,c41,c42,c43,c44,c45,c46,c47,c48,c49,c50,c51,c52,c53,c54,c55,c56,c57,c58,c59,c60,c61,c62,c63,c64,c65,c66,c67,c68,c69,c70,c71,c72,c73,c74,c75,c76,c77,c78,c79,c80,c81,c82,c83,c84,c85,c86,sld c87 L 0 (.agg #[.string f.name,.int .i64 f.params,.int .i64 f.regs,.slice v.a v.len v.cap,.slice s.a s.len s.cap]),sld c88 L 1 (.agg #[.int .i64 x.op,.int .i64 x.d,.int .i64 x.a,.int .i64 x.b,.int .i64 x.n,.string x.sym,.slice y2.a y2.len y2.cap]),sld c89 L 2 (.bool true),sld c90 L 3 (.bool false),sld c91 L 4 (.bool false),sld c92 L 5 (.pointer (some ⟨g6,0,none⟩)),sld c93 L 6 (.int .i64 x.op),sld c94 L 7 (.bool false),sld c95 L 8 (.bool false),sld c96 L 9 (undef),sld c97 L 10 (undef),sld c98 L 11 (undef),sld c99 L 12 (undef),sld c100 L 13 (undef),sld c101 L 14 (.bool false),sld c102 L 15 (.bool false),c103,c104,c105,c106,c107,c108,c109,c110,c111,c112,c113,c114,c115,c116,c117,c118,c119,c120,c121,c122,c123,c124,c125,c126,c127,c128,c129,c130,c131,c132,c133,c134,c135,c136,c137,c138,c139,c140,c141,c142,c143,c144,c145,c146,c147,c148,c149,c150,c151,c152,c153,c154,c155,c156,c157,c158,c159,c160,c161],defers:=[] }
def FobW (y:World) (gt:Nat) (L:Array Bool) (w:World):Prop:=Below y.heap.size y w/\(up L 9=true->True)
theorem FobW.keep {y:World} {gt:Nat} {L:Array Bool} {w:World} (h:FobW y gt L w) {i:Nat} (hi:i<L.size) (n:i≠90) {w':World} (hB:Below w.heap.size w w'):FobW y gt (L.setIfInBounds i true) w':=
 ⟨h.1.trans (hB.mono h.1.size),fun _=>trivial⟩
set_option maxRecDepth 100000 in
theorem fo13_b {y:World} {g1 g6:Nat} {f:Pl.IrF} {v s:SV} {x:Pl.IrI} {y2:SV} (hbf:y.heap[g1]?=some (.cells #[.string f.name,.int .i64 f.params,.int .i64 f.regs,.slice v.a v.len v.cap,.slice s.a s.len s.cap] 31 (0,0))) (hbx:y.heap[g6]?=some (.cells #[.int .i64 x.op,.int .i64 x.d,.int .i64 x.a,.int .i64 x.b,.int .i64 x.n,.string x.sym,.slice y2.a y2.len y2.cap] 81 (0,0))) (hOK:∀ u:World,Below y.heap.size y u->Calls Tryz.prog 47 #[.agg #[.string f.name,.int .i64 f.params,.int .i64 f.regs,.slice v.a v.len v.cap,.slice s.a s.len s.cap],.agg #[.int .i64 x.op,.int .i64 x.d,.int .i64 x.a,.int .i64 x.b,.int .i64 x.n,.string x.sym,.slice y2.a y2.len y2.cap]] u fun e u'=>e=.returned (.bool true)/\Below u.heap.size u u') (h13:(x.op == 13)=false) (c0 c2 c3 c4 c5 c7 c8 c9 c10 c11 c12 c13 c14 c15 c16 c17 c18 c19 c20 c21 c22 c23 c24 c25 c26 c27 c28 c29 c30 c31 c32 c33 c34 c35 c36 c37 c38 c39 c40 c41 c42 c43 c44 c45 c46 c47 c48 c49 c50 c51 c52 c53 c54 c55 c56 c57 c58 c59 c60 c61 c62 c63 c64 c65 c66 c67 c68 c69 c70 c71 c72 c73 c74 c75 c76 c77 c78 c79 c80 c81 c82 c83 c84 c85 c86 c87 c88 c89 c90 c91 c92 c93 c94 c95 c96 c97 c98 c99 c100 c101 c102 c103 c104 c105 c106 c107 c108 c109 c110 c111 c112 c113 c114 c115 c116 c117 c118 c119 c120 c121 c122 c123 c124 c125 c126 c127 c128 c129 c130 c131 c132 c133 c134 c135 c136 c137 c138 c139 c140 c141 c142 c143 c144 c145 c146 c147 c148 c149 c150 c151 c152 c153 c154 c155 c156 c157 c158 c159 c160 c161:Value) (Q:Exit->Act->World->Prop)
  (hK:∀ (s87 s88 s89 s90 s91 s92 s93 s94 s95 s96 s97 s98 s99 s100 s101:Value) (y':World),Below y.heap.size y y'->Q .normal { tmps:=#[c0,.pointer (some ⟨g1,0,none⟩),c2,c3,c4,c5,.pointer (some ⟨g6,0,none⟩),c7,c8,c9,c10,c11,c12,c13,c14,c15,c16,c17,c18,c19,c20,c21,c22,c23,c24,c25,c26,c27,c28,c29,c30,c31,c32,c33,c34,c35,c36,c37,c38,c39,c40,c41,c42,c43,c44,c45,c46,c47,c48,c49,c50,c51,c52,c53,c54,c55,c56,c57,c58,c59,c60,c61,c62,c63,c64,c65,c66,c67,c68,c69,c70,c71,c72,c73,c74,c75,c76,c77,c78,c79,c80,c81,c82,c83,c84,c85,c86,s87,s88,s89,s90,s91,s92,s93,s94,s95,s96,s97,s98,s99,s100,s101,.bool false,c103,c104,c105,c106,c107,c108,c109,c110,c111,c112,c113,c114,c115,c116,c117,c118,c119,c120,c121,c122,c123,c124,c125,c126,c127,c128,c129,c130,c131,c132,c133,c134,c135,c136,c137,c138,c139,c140,c141,c142,c143,c144,c145,c146,c147,c148,c149,c150,c151,c152,c153,c154,c155,c156,c157,c158,c159,c160,c161],defers:=[] } y') :
  (foC 13).wp Tryz.prog Q { tmps:=#[c0,.pointer (some ⟨g1,0,none⟩),c2,c3,c4,c5,.pointer (some ⟨g6,0,none⟩),c7,c8,c9,c10,c11,c12,c13,c14,c15,c16,c17,c18,c19,c20,c21,c22,c23,c24,c25,c26,c27,c28,c29,c30,c31,c32,c33,c34,c35,c36,c37,c38,c39,c40,c41,c42,c43,c44,c45,c46,c47,c48,c49,c50,c51,c52,c53,c54,c55,c56,c57,c58,c59,c60,c61,c62,c63,c64,c65,c66,c67,c68,c69,c70,c71,c72,c73,c74,c75,c76,c77,c78,c79,c80,c81,c82,c83,c84,c85,c86,c87,c88,c89,c90,c91,c92,c93,c94,c95,c96,c97,c98,c99,c100,c101,c102,c103,c104,c105,c106,c107,c108,c109,c110,c111,c112,c113,c114,c115,c116,c117,c118,c119,c120,c121,c122,c123,c124,c125,c126,c127,c128,c129,c130,c131,c132,c133,c134,c135,c136,c137,c138,c139,c140,c141,c142,c143,c144,c145,c146,c147,c148,c149,c150,c151,c152,c153,c154,c155,c156,c157,c158,c159,c160,c161],defers:=[] } y:=by
 have HKt:Hid _:=hK
 clear hK
 have HOK:Hid _:=hOK
 clear hOK
 conv=>arg 2;whnf
 have e0:=cell_of_row y g1 0 _ 31 (0,0) hbf
 have e1:=cell_of_row y g1 1 _ 31 (0,0) hbf
 have e2:=cell_of_row y g1 2 _ 31 (0,0) hbf
 have e3:=cell_of_row y g1 3 _ 31 (0,0) hbf
 have e4:=cell_of_row y g1 4 _ 31 (0,0) hbf
 have d0:=cell_of_row y g6 0 _ 81 (0,0) hbx
 have d1:=cell_of_row y g6 1 _ 81 (0,0) hbx
 have d2:=cell_of_row y g6 2 _ 81 (0,0) hbx
 have d3:=cell_of_row y g6 3 _ 81 (0,0) hbx
 have d4:=cell_of_row y g6 4 _ 81 (0,0) hbx
 have d5:=cell_of_row y g6 5 _ 81 (0,0) hbx
 have d6:=cell_of_row y g6 6 _ 81 (0,0) hbx
 simp only[List.getElem?_toArray,List.getElem?_cons_zero,List.getElem?_cons_succ]at e0 e1 e2 e3 e4 d0 d1 d2 d3 d4 d5 d6
 clear hbx hbf
 have hund:yielded.match_1 (motive:=fun _=>Option Bool) (some undef) (fun b=>some b) (fun _=>none)=none:=rfl
 refine wp_region_any (by kernel_rfl) ?_
 change wpAny _ _ _ _ _ _ _ (World.drew _)
 refine wpAny_inw (fun L a w=>∃ gt,a=FobMk g1 g6 f v s x y2 c0 c2 c3 c4 c5 c7 c8 c9 c10 c11 c12 c13 c14 c15 c16 c17 c18 c19 c20 c21 c22 c23 c24 c25 c26 c27 c28 c29 c30 c31 c32 c33 c34 c35 c36 c37 c38 c39 c40 c41 c42 c43 c44 c45 c46 c47 c48 c49 c50 c51 c52 c53 c54 c55 c56 c57 c58 c59 c60 c61 c62 c63 c64 c65 c66 c67 c68 c69 c70 c71 c72 c73 c74 c75 c76 c77 c78 c79 c80 c81 c82 c83 c84 c85 c86 c87 c88 c89 c90 c91 c92 c93 c94 c95 c96 c97 c98 c99 c100 c101 c102 c103 c104 c105 c106 c107 c108 c109 c110 c111 c112 c113 c114 c115 c116 c117 c118 c119 c120 c121 c122 c123 c124 c125 c126 c127 c128 c129 c130 c131 c132 c133 c134 c135 c136 c137 c138 c139 c140 c141 c142 c143 c144 c145 c146 c147 c148 c149 c150 c151 c152 c153 c154 c155 c156 c157 c158 c159 c160 c161 gt L/\FobW y gt L w) ?done (by kernel_rfl) ?step _ 16 _ _ (by kernel_rfl) ?init (by decide)
 case init=>exact⟨0,by simp only[FobMk,sld_no (up_init _ _)],Below.drew (Below.refl _ _),fun q=>absurd (q.symm.trans (up_init _ _)) (by decide)⟩
 case step=>
  intro L act w i o hI hlt hs nl hC hd ho K hK
  obtain⟨gt,rfl,hW⟩:=hI
  have hi_lt:i<16:=(Array.getElem?_eq_some_iff.1 ho).1
  rcases (show i=0\/i=1\/i=2\/i=3\/i=4\/i=5\/i=6\/i=7\/i=8\/i=9\/i=10\/i=11\/i=12\/i=13\/i=14\/i=15 by omega) with rfl | rfl | rfl | rfl | rfl | rfl | rfl | rfl | rfl | rfl | rfl | rfl | rfl | rfl | rfl | rfl
  ·change some _=some o at ho
   cases ho
   have k0:=below_cell hW.1 e0
   have k1:=below_cell hW.1 e1
   have k2:=below_cell hW.1 e2
   have k3:=below_cell hW.1 e3
   have k4:=below_cell hW.1 e4
   simp only[FobMk]
   go_simp
   exact hK _ _ ⟨gt,by simp only[FobMk,sld_set hlt,reduceIte,Nat.reduceEqDiff];try rfl,(hW.keep hlt (by decide) (Below.refl _ _))⟩
  ·change some _=some o at ho
   cases ho
   have k0:=below_cell hW.1 d0
   have k1:=below_cell hW.1 d1
   have k2:=below_cell hW.1 d2
   have k3:=below_cell hW.1 d3
   have k4:=below_cell hW.1 d4
   have k5:=below_cell hW.1 d5
   have k6:=below_cell hW.1 d6
   simp only[FobMk]
   go_simp
   exact hK _ _ ⟨gt,by simp only[FobMk,sld_set hlt,reduceIte,Nat.reduceEqDiff];try rfl,(hW.keep hlt (by decide) (Below.refl _ _))⟩
  ·change some _=some o at ho
   cases ho
   have q0:up L 0=true:=hd { on:=0,ground:=.data } (by simp) rfl
   have q1:up L 1=true:=hd { on:=1,ground:=.data } (by simp) rfl
   simp only[FobMk,sld_yes q0,sld_yes q1]
   go_simp
   refine (HOK.out w hW.1).mono ?_
   rintro e z ⟨rfl,dz⟩
   go_simp
   exact hK _ _ ⟨gt,by simp only[FobMk,sld_set hlt,sld_yes q0,sld_yes q1,reduceIte,Nat.reduceEqDiff];try rfl,(hW.keep hlt (by decide) dz)⟩
  ·change some _=some o at ho
   cases ho
   have q2:up L 2=true:=hd { on:=2,ground:=.data } (by simp) rfl
   simp only[FobMk,sld_yes q2]
   go_simp
   exact hK _ _ ⟨gt,by simp only[FobMk,sld_set hlt,sld_yes q2,reduceIte,Nat.reduceEqDiff];try rfl,(hW.keep hlt (by decide) (Below.refl _ _))⟩
  ·change some _=some o at ho
   cases ho
   have q3:up L 3=true:=hd { on:=3,ground:=.data } (by simp) rfl
   simp only[FobMk,sld_yes q3]
   go_simp
   exact hK _ _ ⟨gt,by simp only[FobMk,sld_set hlt,sld_yes q3,reduceIte,Nat.reduceEqDiff];try rfl,(hW.keep hlt (by decide) (Below.refl _ _))⟩
  ·change some _=some o at ho
   cases ho
   have q4:up L 4=true:=(hd { on:=4,ground:=.guard } (by simp) rfl)
   simp only[FobMk,sld_yes q4]
   go_simp
   exact hK _ _ ⟨gt,by simp only[FobMk,sld_set hlt,sld_yes q4,reduceIte,Nat.reduceEqDiff];try rfl,(hW.keep hlt (by decide) (Below.refl _ _))⟩
  ·change some _=some o at ho
   cases ho
   have q4:up L 4=true:=(hd { on:=4,ground:=.guard } (by simp) rfl)
   have q5:up L 5=true:=hd { on:=5,ground:=.data } (by simp) rfl
   have k0:=below_cell hW.1 d0
   simp only[FobMk,sld_yes q4,sld_yes q5]
   go_simp
   exact hK _ _ ⟨gt,by simp only[FobMk,sld_set hlt,sld_yes q4,sld_yes q5,reduceIte,Nat.reduceEqDiff];try rfl,(hW.keep hlt (by decide) (Below.refl _ _))⟩
  ·change some _=some o at ho
   cases ho
   have q4:up L 4=true:=(hd { on:=4,ground:=.guard } (by simp) rfl)
   have q6:up L 6=true:=hd { on:=6,ground:=.data } (by simp) rfl
   simp only[FobMk,sld_yes q4,sld_yes q6]
   go_simp
   exact hK _ _ ⟨gt,by simp only[FobMk,sld_set hlt,sld_yes q4,sld_yes q6,reduceIte,Nat.reduceEqDiff];try rfl,(hW.keep hlt (by decide) (Below.refl _ _))⟩
  ·change some _=some o at ho
   cases ho
   have q4:up L 4=true:=(hd { on:=4,ground:=.guard } (by simp) rfl)
   have q7:up L 7=true:=hd { on:=7,ground:=.data } (by simp) rfl
   simp only[FobMk,sld_yes q4,sld_yes q7]
   go_simp
   exact hK _ _ ⟨gt,by simp only[FobMk,sld_set hlt,sld_yes q4,sld_yes q7,reduceIte,Nat.reduceEqDiff];try rfl,(hW.keep hlt (by decide) (Below.refl _ _))⟩
  ·change some _=some o at ho
   cases ho
   have q8:up L 8=true:=(hd { on:=8,ground:=.guard } (by simp) rfl)
   simp only[FobMk,sld_yes q8]
   go_simp
   exact hK _ _ ⟨gt,by simp only[FobMk,sld_set hlt,sld_yes q8,reduceIte,Nat.reduceEqDiff];try rfl,(hW.keep hlt (by decide) (Below.refl _ _))⟩
  ·change some _=some o at ho
   cases ho
   have q8:up L 8=true:=(hd { on:=8,ground:=.guard } (by simp) rfl)
   simp only[FobMk,sld_yes q8]
   go_simp
   exact hK _ _ ⟨gt,by simp only[FobMk,sld_set hlt,sld_yes q8,reduceIte,Nat.reduceEqDiff];try rfl,(hW.keep hlt (by decide) (Below.refl _ _))⟩
  ·change some _=some o at ho
   cases ho
   have q8:up L 8=true:=(hd { on:=8,ground:=.guard } (by simp) rfl)
   have q10:up L 10=true:=hd { on:=10,ground:=.data } (by simp) rfl
   simp only[FobMk,sld_yes q8,sld_yes q10]
   go_simp
   exact hK _ _ ⟨gt,by simp only[FobMk,sld_set hlt,sld_yes q8,sld_yes q10,reduceIte,Nat.reduceEqDiff];try rfl,(hW.keep hlt (by decide) (Below.refl _ _))⟩
  ·change some _=some o at ho
   cases ho
   have q8:up L 8=true:=(hd { on:=8,ground:=.guard } (by simp) rfl)
   have q9:up L 9=true:=hd { on:=9,ground:=.data } (by simp) rfl
   have q11:up L 11=true:=hd { on:=11,ground:=.data } (by simp) rfl
   simp only[FobMk,sld_yes q8,sld_yes q9,sld_yes q11]
   go_simp
   exact hK _ _ ⟨gt,by simp only[FobMk,sld_set hlt,sld_yes q8,sld_yes q9,sld_yes q11,reduceIte,Nat.reduceEqDiff];try rfl,(hW.keep hlt (by decide) (Below.refl _ _))⟩
  ·change some _=some o at ho
   cases ho
   have q8:up L 8=true:=(hd { on:=8,ground:=.guard } (by simp) rfl)
   have q12:up L 12=true:=hd { on:=12,ground:=.data } (by simp) rfl
   simp only[FobMk,sld_yes q8,sld_yes q12]
   go_simp
   exact hK _ _ ⟨gt,by simp only[FobMk,sld_set hlt,sld_yes q8,sld_yes q12,reduceIte,Nat.reduceEqDiff];try rfl,(hW.keep hlt (by decide) (Below.refl _ _))⟩
  ·change some _=some o at ho
   cases ho
   have q4:up L 4=true:=(hd { on:=4,ground:=.guard } (by simp) rfl)
   have q8:up L 8=true:=hd { on:=8,ground:=.data } (by simp) rfl
   have q13:up L 13=true:=hd { on:=13,ground:=.data } (by simp) rfl
   simp only[FobMk,sld_yes q4,sld_yes q8,sld_yes q13]
   go_simp
   exact hK _ _ ⟨gt,by simp only[FobMk,sld_set hlt,sld_yes q4,sld_yes q8,sld_yes q13,reduceIte,Nat.reduceEqDiff];try rfl,(hW.keep hlt (by decide) (Below.refl _ _))⟩
  ·change some _=some o at ho
   cases ho
   have q4:up L 4=true:=hd { on:=4,ground:=.data } (by simp) rfl
   have q14:up L 14=true:=hd { on:=14,ground:=.data } (by simp) rfl
   simp only[FobMk,sld_yes q4,sld_yes q14]
   go_simp
   exact hK _ _ ⟨gt,by simp only[FobMk,sld_set hlt,sld_yes q4,sld_yes q14,reduceIte,Nat.reduceEqDiff];try rfl,(hW.keep hlt (by decide) (Below.refl _ _))⟩
 case done=>
  rintro L a w ⟨gt,rfl,hW⟩ hall
  simp only[FobMk,sld_yes (hall 0 (by decide)),sld_yes (hall 1 (by decide)),sld_yes (hall 2 (by decide)),sld_yes (hall 3 (by decide)),sld_yes (hall 4 (by decide)),sld_yes (hall 5 (by decide)),sld_yes (hall 6 (by decide)),sld_yes (hall 7 (by decide)),sld_yes (hall 8 (by decide)),sld_yes (hall 9 (by decide)),sld_yes (hall 10 (by decide)),sld_yes (hall 11 (by decide)),sld_yes (hall 12 (by decide)),sld_yes (hall 13 (by decide)),sld_yes (hall 14 (by decide)),sld_yes (hall 15 (by decide))]
  exact HKt.out _ _ _ _ _ _ _ _ _ _ _ _ _ _ _ w hW.1
def FocMk (g1 g6:Nat) (f:Pl.IrF) (v s:SV) (x:Pl.IrI) (y2:SV) (c0 c2 c3 c4 c5 c7 c8 c9 c10 c11 c12 c13 c14 c15 c16 c17 c18 c19 c20 c21 c22 c23 c24 c25 c26 c27 c28 c29 c30 c31 c32 c33 c34 c35 c36 c37 c38 c39 c40 c41 c42 c43 c44 c45 c46 c47 c48 c49 c50 c51 c52 c53 c54 c55 c56 c57 c58 c59 c60 c61 c62 c63 c64 c65 c66 c67 c68 c69 c70 c71 c72 c73 c74 c75 c76 c77 c78 c79 c80 c81 c82 c83 c84 c85 c86 c87 c88 c89 c90 c91 c92 c93 c94 c95 c96 c97 c98 c99 c100 c101 c102 c103 c104 c105 c106 c107 c108 c109 c110 c111 c112 c113 c114 c115 c116 c117 c118 c119 c120 c121 c122 c123 c124 c125 c126 c127 c128 c129 c130 c131 c132 c133 c134 c135 c136 c137 c138 c139 c140 c141 c142 c143 c144 c145 c146 c147 c148 c149 c150 c151 c152 c153 c154 c155 c156 c157 c158 c159 c160 c161:Value) (gt:Nat) (L:Array Bool):Act:={ tmps:=#[c0,.pointer (some ⟨g1,0,none⟩),c2,c3,c4,c5,.pointer (some ⟨g6,0,none⟩),c7,c8,c9,c10,c11,c12,c13,c14,c15,c16,c17,c18,c19,c20,c21,c22,c23,c24,c25,c26,c27,c28,c29,c30,c31,c32,c33,c34,c35,c36,c37,c38,c39,c40,c41,c42,c43,c44,c45,c46,c47,c48,c49,c50,c51,c52,c53,c54,c55,c56,c57,c58,c59,c60,c61,c62,c63,c64,c65,c66,c67,c68,c69,c70,c71,c72,c73,c74,c75,c76,c77,c78,c79,c80,c81,c82,c83,c84,c85,c86,sld c87 L 0 (.agg #[.string f.name,.int .i64 f.params,.int .i64 f.regs,.slice v.a v.len v.cap,.slice s.a s.len s.cap]),sld c88 L 1 (.agg #[.int .i64 x.op,.int .i64 x.d,.int .i64 x.a,.int .i64 x.b,.int .i64 x.n,.string x.sym,.slice y2.a y2.len y2.cap]),sld c89 L 2 (.bool true),sld c90 L 3 (.bool false),sld c91 L 4 (.bool false),sld c92 L 5 (.pointer (some ⟨g6,0,none⟩)),sld c93 L 6 (.int .i64 x.op),sld c94 L 7 (.bool true),sld c95 L 8 (.bool true),sld c96 L 9 (.slice (some ⟨gt,0,none⟩) 6 6),sld c97 L 10 (.pointer (some ⟨g6,5,none⟩)),sld c98 L 11 (.string x.sym),sld c99 L 12 (.bool false),sld c100 L 13 (.bool true),sld c101 L 14 (.bool true),sld c102 L 15 (.bool true),c103,c104,c105,c106,c107,c108,c109,c110,c111,c112,c113,c114,c115,c116,c117,c118,c119,c120,c121,c122,c123,c124,c125,c126,c127,c128,c129,c130,c131,c132,c133,c134,c135,c136,c137,c138,c139,c140,c141,c142,c143,c144,c145,c146,c147,c148,c149,c150,c151,c152,c153,c154,c155,c156,c157,c158,c159,c160,c161],defers:=[] }
def FocW (y:World) (gt:Nat) (L:Array Bool) (w:World):Prop:=Below y.heap.size y w/\(up L 9=true->SRow 0 w (some ⟨gt,0,none⟩) 6 6 Pl.irTests)
theorem FocW.keep {y:World} {gt:Nat} {L:Array Bool} {w:World} (h:FocW y gt L w) {i:Nat} (hi:i<L.size) (n:i≠9) {w':World} (hB:Below w.heap.size w w'):FocW y gt (L.setIfInBounds i true) w':=
 ⟨h.1.trans (hB.mono h.1.size),fun q=>by rw[up_set hi,if_neg n]at q;exact (h.2 q).keep hB⟩
set_option maxRecDepth 100000 in
theorem fo13_c {y:World} {g1 g6:Nat} {f:Pl.IrF} {v s:SV} {x:Pl.IrI} {y2:SV} (hbf:y.heap[g1]?=some (.cells #[.string f.name,.int .i64 f.params,.int .i64 f.regs,.slice v.a v.len v.cap,.slice s.a s.len s.cap] 31 (0,0))) (hbx:y.heap[g6]?=some (.cells #[.int .i64 x.op,.int .i64 x.d,.int .i64 x.a,.int .i64 x.b,.int .i64 x.n,.string x.sym,.slice y2.a y2.len y2.cap] 81 (0,0))) (hOK:∀ u:World,Below y.heap.size y u->Calls Tryz.prog 47 #[.agg #[.string f.name,.int .i64 f.params,.int .i64 f.regs,.slice v.a v.len v.cap,.slice s.a s.len s.cap],.agg #[.int .i64 x.op,.int .i64 x.d,.int .i64 x.a,.int .i64 x.b,.int .i64 x.n,.string x.sym,.slice y2.a y2.len y2.cap]] u fun e u'=>e=.returned (.bool true)/\Below u.heap.size u u') (h13:(x.op == 13)=true) (hIN:∀ (u:World) (gt:Nat),SRow 0 u (some ⟨gt,0,none⟩) 6 6 Pl.irTests->Calls Tryz.prog 48 #[.slice (some ⟨gt,0,none⟩) 6 6,.string x.sym] u fun e u'=>e=.returned (.bool false)/\Below u.heap.size u u') (c0 c2 c3 c4 c5 c7 c8 c9 c10 c11 c12 c13 c14 c15 c16 c17 c18 c19 c20 c21 c22 c23 c24 c25 c26 c27 c28 c29 c30 c31 c32 c33 c34 c35 c36 c37 c38 c39 c40 c41 c42 c43 c44 c45 c46 c47 c48 c49 c50 c51 c52 c53 c54 c55 c56 c57 c58 c59 c60 c61 c62 c63 c64 c65 c66 c67 c68 c69 c70 c71 c72 c73 c74 c75 c76 c77 c78 c79 c80 c81 c82 c83 c84 c85 c86 c87 c88 c89 c90 c91 c92 c93 c94 c95 c96 c97 c98 c99 c100 c101 c102 c103 c104 c105 c106 c107 c108 c109 c110 c111 c112 c113 c114 c115 c116 c117 c118 c119 c120 c121 c122 c123 c124 c125 c126 c127 c128 c129 c130 c131 c132 c133 c134 c135 c136 c137 c138 c139 c140 c141 c142 c143 c144 c145 c146 c147 c148 c149 c150 c151 c152 c153 c154 c155 c156 c157 c158 c159 c160 c161:Value) (Q:Exit->Act->World->Prop)
  (hK:∀ (s87 s88 s89 s90 s91 s92 s93 s94 s95 s96 s97 s98 s99 s100 s101:Value) (y':World),Below y.heap.size y y'->Q .normal { tmps:=#[c0,.pointer (some ⟨g1,0,none⟩),c2,c3,c4,c5,.pointer (some ⟨g6,0,none⟩),c7,c8,c9,c10,c11,c12,c13,c14,c15,c16,c17,c18,c19,c20,c21,c22,c23,c24,c25,c26,c27,c28,c29,c30,c31,c32,c33,c34,c35,c36,c37,c38,c39,c40,c41,c42,c43,c44,c45,c46,c47,c48,c49,c50,c51,c52,c53,c54,c55,c56,c57,c58,c59,c60,c61,c62,c63,c64,c65,c66,c67,c68,c69,c70,c71,c72,c73,c74,c75,c76,c77,c78,c79,c80,c81,c82,c83,c84,c85,c86,s87,s88,s89,s90,s91,s92,s93,s94,s95,s96,s97,s98,s99,s100,s101,.bool true,c103,c104,c105,c106,c107,c108,c109,c110,c111,c112,c113,c114,c115,c116,c117,c118,c119,c120,c121,c122,c123,c124,c125,c126,c127,c128,c129,c130,c131,c132,c133,c134,c135,c136,c137,c138,c139,c140,c141,c142,c143,c144,c145,c146,c147,c148,c149,c150,c151,c152,c153,c154,c155,c156,c157,c158,c159,c160,c161],defers:=[] } y') :
  (foC 13).wp Tryz.prog Q { tmps:=#[c0,.pointer (some ⟨g1,0,none⟩),c2,c3,c4,c5,.pointer (some ⟨g6,0,none⟩),c7,c8,c9,c10,c11,c12,c13,c14,c15,c16,c17,c18,c19,c20,c21,c22,c23,c24,c25,c26,c27,c28,c29,c30,c31,c32,c33,c34,c35,c36,c37,c38,c39,c40,c41,c42,c43,c44,c45,c46,c47,c48,c49,c50,c51,c52,c53,c54,c55,c56,c57,c58,c59,c60,c61,c62,c63,c64,c65,c66,c67,c68,c69,c70,c71,c72,c73,c74,c75,c76,c77,c78,c79,c80,c81,c82,c83,c84,c85,c86,c87,c88,c89,c90,c91,c92,c93,c94,c95,c96,c97,c98,c99,c100,c101,c102,c103,c104,c105,c106,c107,c108,c109,c110,c111,c112,c113,c114,c115,c116,c117,c118,c119,c120,c121,c122,c123,c124,c125,c126,c127,c128,c129,c130,c131,c132,c133,c134,c135,c136,c137,c138,c139,c140,c141,c142,c143,c144,c145,c146,c147,c148,c149,c150,c151,c152,c153,c154,c155,c156,c157,c158,c159,c160,c161],defers:=[] } y:=by
 have HKt:Hid _:=hK
 clear hK
 have HOK:Hid _:=hOK
 clear hOK
 have HIN:Hid _:=hIN
 clear hIN
 have HTS:Hid (∀ u:World,Calls Tryz.prog 49 #[] u fun e w'=>e=.returned (.slice (some ⟨u.heap.size,0,none⟩) 6 6)/\SRow 0 w' (some ⟨u.heap.size,0,none⟩) 6 6 Pl.irTests/\Below u.heap.size u w'):=fun u=>(l10Tests_ir u).mono fun e w' ⟨h1,h2,h3⟩=>⟨h1,h2.lower (Nat.zero_le _),h3⟩
 conv=>arg 2;whnf
 have e0:=cell_of_row y g1 0 _ 31 (0,0) hbf
 have e1:=cell_of_row y g1 1 _ 31 (0,0) hbf
 have e2:=cell_of_row y g1 2 _ 31 (0,0) hbf
 have e3:=cell_of_row y g1 3 _ 31 (0,0) hbf
 have e4:=cell_of_row y g1 4 _ 31 (0,0) hbf
 have d0:=cell_of_row y g6 0 _ 81 (0,0) hbx
 have d1:=cell_of_row y g6 1 _ 81 (0,0) hbx
 have d2:=cell_of_row y g6 2 _ 81 (0,0) hbx
 have d3:=cell_of_row y g6 3 _ 81 (0,0) hbx
 have d4:=cell_of_row y g6 4 _ 81 (0,0) hbx
 have d5:=cell_of_row y g6 5 _ 81 (0,0) hbx
 have d6:=cell_of_row y g6 6 _ 81 (0,0) hbx
 simp only[List.getElem?_toArray,List.getElem?_cons_zero,List.getElem?_cons_succ]at e0 e1 e2 e3 e4 d0 d1 d2 d3 d4 d5 d6
 clear hbx hbf
 have hund:yielded.match_1 (motive:=fun _=>Option Bool) (some undef) (fun b=>some b) (fun _=>none)=none:=rfl
 refine wp_region_any (by kernel_rfl) ?_
 change wpAny _ _ _ _ _ _ _ (World.drew _)
 refine wpAny_inw (fun L a w=>∃ gt,a=FocMk g1 g6 f v s x y2 c0 c2 c3 c4 c5 c7 c8 c9 c10 c11 c12 c13 c14 c15 c16 c17 c18 c19 c20 c21 c22 c23 c24 c25 c26 c27 c28 c29 c30 c31 c32 c33 c34 c35 c36 c37 c38 c39 c40 c41 c42 c43 c44 c45 c46 c47 c48 c49 c50 c51 c52 c53 c54 c55 c56 c57 c58 c59 c60 c61 c62 c63 c64 c65 c66 c67 c68 c69 c70 c71 c72 c73 c74 c75 c76 c77 c78 c79 c80 c81 c82 c83 c84 c85 c86 c87 c88 c89 c90 c91 c92 c93 c94 c95 c96 c97 c98 c99 c100 c101 c102 c103 c104 c105 c106 c107 c108 c109 c110 c111 c112 c113 c114 c115 c116 c117 c118 c119 c120 c121 c122 c123 c124 c125 c126 c127 c128 c129 c130 c131 c132 c133 c134 c135 c136 c137 c138 c139 c140 c141 c142 c143 c144 c145 c146 c147 c148 c149 c150 c151 c152 c153 c154 c155 c156 c157 c158 c159 c160 c161 gt L/\FocW y gt L w) ?done (by kernel_rfl) ?step _ 16 _ _ (by kernel_rfl) ?init (by decide)
 case init=>exact⟨0,by simp only[FocMk,sld_no (up_init _ _)],Below.drew (Below.refl _ _),fun q=>absurd (q.symm.trans (up_init _ _)) (by decide)⟩
 case step=>
  intro L act w i o hI hlt hs nl hC hd ho K hK
  obtain⟨gt,rfl,hW⟩:=hI
  have hi_lt:i<16:=(Array.getElem?_eq_some_iff.1 ho).1
  rcases (show i=0\/i=1\/i=2\/i=3\/i=4\/i=5\/i=6\/i=7\/i=8\/i=9\/i=10\/i=11\/i=12\/i=13\/i=14\/i=15 by omega) with rfl | rfl | rfl | rfl | rfl | rfl | rfl | rfl | rfl | rfl | rfl | rfl | rfl | rfl | rfl | rfl
  ·change some _=some o at ho
   cases ho
   have k0:=below_cell hW.1 e0
   have k1:=below_cell hW.1 e1
   have k2:=below_cell hW.1 e2
   have k3:=below_cell hW.1 e3
   have k4:=below_cell hW.1 e4
   simp only[FocMk]
   go_simp
   exact hK _ _ ⟨gt,by simp only[FocMk,sld_set hlt,reduceIte,Nat.reduceEqDiff];try rfl,(hW.keep hlt (by decide) (Below.refl _ _))⟩
  ·change some _=some o at ho
   cases ho
   have k0:=below_cell hW.1 d0
   have k1:=below_cell hW.1 d1
   have k2:=below_cell hW.1 d2
   have k3:=below_cell hW.1 d3
   have k4:=below_cell hW.1 d4
   have k5:=below_cell hW.1 d5
   have k6:=below_cell hW.1 d6
   simp only[FocMk]
   go_simp
   exact hK _ _ ⟨gt,by simp only[FocMk,sld_set hlt,reduceIte,Nat.reduceEqDiff];try rfl,(hW.keep hlt (by decide) (Below.refl _ _))⟩
  ·change some _=some o at ho
   cases ho
   have q0:up L 0=true:=hd { on:=0,ground:=.data } (by simp) rfl
   have q1:up L 1=true:=hd { on:=1,ground:=.data } (by simp) rfl
   simp only[FocMk,sld_yes q0,sld_yes q1]
   go_simp
   refine (HOK.out w hW.1).mono ?_
   rintro e z ⟨rfl,dz⟩
   go_simp
   exact hK _ _ ⟨gt,by simp only[FocMk,sld_set hlt,sld_yes q0,sld_yes q1,reduceIte,Nat.reduceEqDiff];try rfl,(hW.keep hlt (by decide) dz)⟩
  ·change some _=some o at ho
   cases ho
   have q2:up L 2=true:=hd { on:=2,ground:=.data } (by simp) rfl
   simp only[FocMk,sld_yes q2]
   go_simp
   exact hK _ _ ⟨gt,by simp only[FocMk,sld_set hlt,sld_yes q2,reduceIte,Nat.reduceEqDiff];try rfl,(hW.keep hlt (by decide) (Below.refl _ _))⟩
  ·change some _=some o at ho
   cases ho
   have q3:up L 3=true:=hd { on:=3,ground:=.data } (by simp) rfl
   simp only[FocMk,sld_yes q3]
   go_simp
   exact hK _ _ ⟨gt,by simp only[FocMk,sld_set hlt,sld_yes q3,reduceIte,Nat.reduceEqDiff];try rfl,(hW.keep hlt (by decide) (Below.refl _ _))⟩
  ·change some _=some o at ho
   cases ho
   have q4:up L 4=true:=(hd { on:=4,ground:=.guard } (by simp) rfl)
   simp only[FocMk,sld_yes q4]
   go_simp
   exact hK _ _ ⟨gt,by simp only[FocMk,sld_set hlt,sld_yes q4,reduceIte,Nat.reduceEqDiff];try rfl,(hW.keep hlt (by decide) (Below.refl _ _))⟩
  ·change some _=some o at ho
   cases ho
   have q4:up L 4=true:=(hd { on:=4,ground:=.guard } (by simp) rfl)
   have q5:up L 5=true:=hd { on:=5,ground:=.data } (by simp) rfl
   have k0:=below_cell hW.1 d0
   simp only[FocMk,sld_yes q4,sld_yes q5]
   go_simp
   exact hK _ _ ⟨gt,by simp only[FocMk,sld_set hlt,sld_yes q4,sld_yes q5,reduceIte,Nat.reduceEqDiff];try rfl,(hW.keep hlt (by decide) (Below.refl _ _))⟩
  ·change some _=some o at ho
   cases ho
   have q4:up L 4=true:=(hd { on:=4,ground:=.guard } (by simp) rfl)
   have q6:up L 6=true:=hd { on:=6,ground:=.data } (by simp) rfl
   simp only[FocMk,sld_yes q4,sld_yes q6]
   go_simp
   exact hK _ _ ⟨gt,by simp only[FocMk,sld_set hlt,sld_yes q4,sld_yes q6,reduceIte,Nat.reduceEqDiff];try rfl,(hW.keep hlt (by decide) (Below.refl _ _))⟩
  ·change some _=some o at ho
   cases ho
   have q4:up L 4=true:=(hd { on:=4,ground:=.guard } (by simp) rfl)
   have q7:up L 7=true:=hd { on:=7,ground:=.data } (by simp) rfl
   simp only[FocMk,sld_yes q4,sld_yes q7]
   go_simp
   exact hK _ _ ⟨gt,by simp only[FocMk,sld_set hlt,sld_yes q4,sld_yes q7,reduceIte,Nat.reduceEqDiff];try rfl,(hW.keep hlt (by decide) (Below.refl _ _))⟩
  ·change some _=some o at ho
   cases ho
   have q8:up L 8=true:=(hd { on:=8,ground:=.guard } (by simp) rfl)
   have n12:up L 12=false:=hC.no nl 12 rfl (by kernel_rfl)
   simp only[FocMk,sld_yes q8]
   go_simp
   refine (HTS.out w).mono ?_
   rintro e z ⟨rfl,sz,dz⟩
   go_simp
   exact hK _ _ ⟨w.heap.size,by simp only[FocMk,sld_set hlt,sld_yes q8,reduceIte,Nat.reduceEqDiff];try rfl,⟨hW.1.trans (dz.mono hW.1.size),fun _=>sz⟩⟩
  ·change some _=some o at ho
   cases ho
   have q8:up L 8=true:=(hd { on:=8,ground:=.guard } (by simp) rfl)
   simp only[FocMk,sld_yes q8]
   go_simp
   exact hK _ _ ⟨gt,by simp only[FocMk,sld_set hlt,sld_yes q8,reduceIte,Nat.reduceEqDiff];try rfl,(hW.keep hlt (by decide) (Below.refl _ _))⟩
  ·change some _=some o at ho
   cases ho
   have q8:up L 8=true:=(hd { on:=8,ground:=.guard } (by simp) rfl)
   have q10:up L 10=true:=hd { on:=10,ground:=.data } (by simp) rfl
   have k5:=below_cell hW.1 d5
   simp only[FocMk,sld_yes q8,sld_yes q10]
   go_simp
   exact hK _ _ ⟨gt,by simp only[FocMk,sld_set hlt,sld_yes q8,sld_yes q10,reduceIte,Nat.reduceEqDiff];try rfl,(hW.keep hlt (by decide) (Below.refl _ _))⟩
  ·change some _=some o at ho
   cases ho
   have q8:up L 8=true:=(hd { on:=8,ground:=.guard } (by simp) rfl)
   have q9:up L 9=true:=hd { on:=9,ground:=.data } (by simp) rfl
   have q11:up L 11=true:=hd { on:=11,ground:=.data } (by simp) rfl
   simp only[FocMk,sld_yes q8,sld_yes q9,sld_yes q11]
   go_simp
   refine (HIN.out w gt (hW.2 q9)).mono ?_
   rintro e z ⟨rfl,dz⟩
   go_simp
   exact hK _ _ ⟨gt,by simp only[FocMk,sld_set hlt,sld_yes q8,sld_yes q9,sld_yes q11,reduceIte,Nat.reduceEqDiff];try rfl,(hW.keep hlt (by decide) dz)⟩
  ·change some _=some o at ho
   cases ho
   have q8:up L 8=true:=(hd { on:=8,ground:=.guard } (by simp) rfl)
   have q12:up L 12=true:=hd { on:=12,ground:=.data } (by simp) rfl
   simp only[FocMk,sld_yes q8,sld_yes q12]
   go_simp
   exact hK _ _ ⟨gt,by simp only[FocMk,sld_set hlt,sld_yes q8,sld_yes q12,reduceIte,Nat.reduceEqDiff];try rfl,(hW.keep hlt (by decide) (Below.refl _ _))⟩
  ·change some _=some o at ho
   cases ho
   have q4:up L 4=true:=(hd { on:=4,ground:=.guard } (by simp) rfl)
   have q8:up L 8=true:=hd { on:=8,ground:=.data } (by simp) rfl
   have q13:up L 13=true:=hd { on:=13,ground:=.data } (by simp) rfl
   simp only[FocMk,sld_yes q4,sld_yes q8,sld_yes q13]
   go_simp
   exact hK _ _ ⟨gt,by simp only[FocMk,sld_set hlt,sld_yes q4,sld_yes q8,sld_yes q13,reduceIte,Nat.reduceEqDiff];try rfl,(hW.keep hlt (by decide) (Below.refl _ _))⟩
  ·change some _=some o at ho
   cases ho
   have q4:up L 4=true:=hd { on:=4,ground:=.data } (by simp) rfl
   have q14:up L 14=true:=hd { on:=14,ground:=.data } (by simp) rfl
   simp only[FocMk,sld_yes q4,sld_yes q14]
   go_simp
   exact hK _ _ ⟨gt,by simp only[FocMk,sld_set hlt,sld_yes q4,sld_yes q14,reduceIte,Nat.reduceEqDiff];try rfl,(hW.keep hlt (by decide) (Below.refl _ _))⟩
 case done=>
  rintro L a w ⟨gt,rfl,hW⟩ hall
  simp only[FocMk,sld_yes (hall 0 (by decide)),sld_yes (hall 1 (by decide)),sld_yes (hall 2 (by decide)),sld_yes (hall 3 (by decide)),sld_yes (hall 4 (by decide)),sld_yes (hall 5 (by decide)),sld_yes (hall 6 (by decide)),sld_yes (hall 7 (by decide)),sld_yes (hall 8 (by decide)),sld_yes (hall 9 (by decide)),sld_yes (hall 10 (by decide)),sld_yes (hall 11 (by decide)),sld_yes (hall 12 (by decide)),sld_yes (hall 13 (by decide)),sld_yes (hall 14 (by decide)),sld_yes (hall 15 (by decide))]
  exact HKt.out _ _ _ _ _ _ _ _ _ _ _ _ _ _ _ w hW.1
end Go.Proofs.YtcgfgmlfbgbkfaaGreatDoor.W
