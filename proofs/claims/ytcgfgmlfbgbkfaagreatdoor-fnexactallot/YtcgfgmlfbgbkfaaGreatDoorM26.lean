import Derived.Test.YtcgfgmlfbgbkfaaGreatDoorM25
set_option linter.unusedVariables false
set_option linter.unusedSimpArgs false
set_option maxHeartbeats 16000000
namespace Go.Proofs.YtcgfgmlfbgbkfaaGreatDoor.W
open Go.RowKit
set_option maxRecDepth 100000 in
theorem fnExactAllot_walk {lo:Nat} (f:Pl.IrF) (v s:SV) (w:World) (h:FIs lo w v s f) (hwf:∀ i,i<f.code.length->(Lit.int .i64 (f.code.getD i Pl.IrI.zero).n).wf=true) (hT:TabG w):Calls Tryz.prog 5 #[.agg #[.string f.name,.int .i64 f.params,.int .i64 f.regs,.slice v.a v.len v.cap,.slice s.a s.len s.cap]] w fun e w'=>e=.returned (.bool true)/\Below w.heap.size w w':=by
 have HF:Hid (FIs lo w v s f/\(∀ i,i<f.code.length->(Lit.int .i64 (f.code.getD i Pl.IrI.zero).n).wf=true)/\TabG w):=⟨h,hwf,hT⟩
 clear h hwf hT
 go_enter Tryz.func5,Tryz.ntmps5
 go_wp2_with fail
 refine ty_at fun u0 hu0=>?_
 have HBXu0:Hid (Below w.heap.size w u0/\u0.heap[w.heap.size]?=some (.cells #[.string f.name,.int .i64 f.params,.int .i64 f.regs,.slice v.a v.len v.cap,.slice s.a s.len s.cap] 25)):=by rw[hu0];exact⟨below_alloc w _,heap_alloc_new w _⟩
 clear hu0
 refine (szIrFun_any f v s 1048576 (by decide) u0 (HF.out.1.keep HBXu0.out.1)).mono ?_
 rintro e u1 ⟨left,rfl,hleft,d1⟩
 have HBXu1:Hid (Below w.heap.size w u1/\u1.heap[w.heap.size]?=some (.cells #[.string f.name,.int .i64 f.params,.int .i64 f.regs,.slice v.a v.len v.cap,.slice s.a s.len s.cap] 25)):=⟨HBXu0.out.1.trans (d1.mono HBXu0.out.1.size),(d1.block _ (Array.getElem?_eq_some_iff.1 HBXu0.out.2).1).trans HBXu0.out.2⟩
 have HLE:Hid (0<=left->left<=1048576/\f.sized):=hleft
 clear d1 hleft HBXu0
 by_cases hneg:left<0
 ·go_wp2_with fail
  go_ret
  exact⟨rfl,HBXu1.out.1⟩
 have HSZ:Hid (f.sized):=(HLE.out (by omega)).2
 have hsn:s.len<=1048576:=by have:=HSZ.out.2.2.1;have:=HF.out.1.2.1.1;omega
 have u1ah:=HBXu1.out.2
 have u1a0:u1.cell? ⟨w.heap.size,0,none⟩=some (.string f.name):=by rw[cell_of_row u1 _ 0 _ _ (0,0) u1ah];rfl
 have u1a1:u1.cell? ⟨w.heap.size,1,none⟩=some (.int .i64 f.params):=by rw[cell_of_row u1 _ 1 _ _ (0,0) u1ah];rfl
 have u1a2:u1.cell? ⟨w.heap.size,2,none⟩=some (.int .i64 f.regs):=by rw[cell_of_row u1 _ 2 _ _ (0,0) u1ah];rfl
 have u1a3:u1.cell? ⟨w.heap.size,3,none⟩=some (.slice v.a v.len v.cap):=by rw[cell_of_row u1 _ 3 _ _ (0,0) u1ah];rfl
 have u1a4:u1.cell? ⟨w.heap.size,4,none⟩=some (.slice s.a s.len s.cap):=by rw[cell_of_row u1 _ 4 _ _ (0,0) u1ah];rfl
 have hb1:w.heap.size<u1.heap.size:=(Array.getElem?_eq_some_iff.1 u1ah).1
 clear u1ah HLE
 go_wp2_with fail
 refine (toIrFun_own f v s u1 (HF.out.1.keep HBXu1.out.1) HSZ.out).mono ?_
 rintro e u2 ⟨v2,g2,rfl,fo2,d2⟩
 have HBXu2:Hid (Below w.heap.size w u2/\u2.heap[w.heap.size]?=some (.cells #[.string f.name,.int .i64 f.params,.int .i64 f.regs,.slice v.a v.len v.cap,.slice s.a s.len s.cap] 25)):=⟨HBXu1.out.1.trans (d2.mono HBXu1.out.1.size),(d2.block _ (Array.getElem?_eq_some_iff.1 HBXu1.out.2).1).trans HBXu1.out.2⟩
 have HFO2:Hid (FOw u1.heap.size u2 v2 g2 s.len f):=fo2
 clear fo2 d2 u1a0 u1a1 u1a2 u1a3 u1a4 HBXu1
 go_wp2_with fail
 refine (specAl_c f v2 ⟨some ⟨g2,0,none⟩,s.len,s.len⟩ u2 (HFO2.out.is hsn)).mono ?_
 rintro e u3 ⟨⟨aw,cw,rfl,rr3⟩,d3⟩
 have HBXu3:Hid (Below w.heap.size w u3/\u3.heap[w.heap.size]?=some (.cells #[.string f.name,.int .i64 f.params,.int .i64 f.regs,.slice v.a v.len v.cap,.slice s.a s.len s.cap] 25)):=⟨HBXu2.out.1.trans (d3.mono HBXu2.out.1.size),(d3.block _ (Array.getElem?_eq_some_iff.1 HBXu2.out.2).1).trans HBXu2.out.2⟩
 have HRR:Hid (RP u3 aw (Pl.spN f) (Pl.alP f)):=rr3
 have u3ah:=HBXu3.out.2
 have u3a0:u3.cell? ⟨w.heap.size,0,none⟩=some (.string f.name):=by rw[cell_of_row u3 _ 0 _ _ (0,0) u3ah];rfl
 have u3a1:u3.cell? ⟨w.heap.size,1,none⟩=some (.int .i64 f.params):=by rw[cell_of_row u3 _ 1 _ _ (0,0) u3ah];rfl
 have u3a2:u3.cell? ⟨w.heap.size,2,none⟩=some (.int .i64 f.regs):=by rw[cell_of_row u3 _ 2 _ _ (0,0) u3ah];rfl
 have u3a3:u3.cell? ⟨w.heap.size,3,none⟩=some (.slice v.a v.len v.cap):=by rw[cell_of_row u3 _ 3 _ _ (0,0) u3ah];rfl
 have u3a4:u3.cell? ⟨w.heap.size,4,none⟩=some (.slice s.a s.len s.cap):=by rw[cell_of_row u3 _ 4 _ _ (0,0) u3ah];rfl
 have hb3:w.heap.size<u3.heap.size:=(Array.getElem?_eq_some_iff.1 u3ah).1
 clear u3ah rr3 d3 HBXu2 HFO2
 go_wp2_with fail
 refine (toIrFun_own f v s u3 (HF.out.1.keep HBXu3.out.1) HSZ.out).mono ?_
 rintro e u4 ⟨vx,gx,rfl,fo4,d4⟩
 have HFO4:Hid (FOw u3.heap.size u4 vx gx s.len f/\Below u3.heap.size u3 u4):=⟨fo4,d4⟩
 clear fo4 d4 u3a0 u3a1 u3a2 u3a3 u3a4
 go_wp2_with fail
 refine ty_at fun u5 hu5=>?_
 obtain⟨b5,hb5⟩:∃ b5,b5=u4.heap.size:=⟨_,rfl⟩
 have HBXu5:Hid (Below u3.heap.size u3 u5/\u5.heap[w.heap.size]?=some (.cells #[.string f.name,.int .i64 f.params,.int .i64 f.regs,.slice v.a v.len v.cap,.slice s.a s.len s.cap] 25)/\u5.heap[b5]?=some (.cells #[.string f.name,.int .i64 f.params,.int .i64 f.regs,.slice vx.a vx.len vx.cap,.slice (some ⟨gx,0,none⟩) s.len s.len] 31)):=by
  have d4:=HFO4.out.2
  have z3:=(Array.getElem?_eq_some_iff.1 HBXu3.out.2).1
  rw[hu5,hb5]
  exact⟨d4.trans ((below_alloc u4 _).mono d4.size),((below_alloc u4 _).block _ (by have:=d4.size;omega)).trans ((d4.block _ z3).trans HBXu3.out.2),heap_alloc_new u4 _⟩
 have HU5:Hid (FOw u3.heap.size u4 vx gx s.len f/\Below u4.heap.size u4 u5/\b5=u4.heap.size/\u3.heap.size<=u4.heap.size):=⟨HFO4.out.1,by rw[hu5];exact below_alloc u4 _,hb5,HFO4.out.2.size⟩
 rw[<- hb5]
 clear hu5 hb5 HFO4
 refine (implAl_c f vx ⟨some ⟨gx,0,none⟩,s.len,s.len⟩ u5 ((HU5.out.1.is hsn).keep HU5.out.2.1) HSZ.out HF.out.2.1 (HF.out.2.2.keepG (HBXu3.out.1.trans (HBXu5.out.1.mono HBXu3.out.1.size)))).mono ?_
 rintro e u6 ⟨⟨ag,cg,rfl,rw6⟩,d6⟩
 have HBXu6:Hid (Below u3.heap.size u3 u6/\u6.heap[w.heap.size]?=some (.cells #[.string f.name,.int .i64 f.params,.int .i64 f.regs,.slice v.a v.len v.cap,.slice s.a s.len s.cap] 25)/\u6.heap[b5]?=some (.cells #[.string f.name,.int .i64 f.params,.int .i64 f.regs,.slice vx.a vx.len vx.cap,.slice (some ⟨gx,0,none⟩) s.len s.len] 31)/\Below u5.heap.size u5 u6):=⟨HBXu5.out.1.trans (d6.mono HBXu5.out.1.size),(d6.block _ (Array.getElem?_eq_some_iff.1 HBXu5.out.2.1).1).trans HBXu5.out.2.1,(d6.block _ (Array.getElem?_eq_some_iff.1 HBXu5.out.2.2).1).trans HBXu5.out.2.2,d6⟩
 have HG6:Hid (PO u5.heap.size u6 ag (Pl.spN f) (Pl.alP f)):=rw6
 have hlb:=Pl.spN_le f
 clear rw6 d6 HBXu5
 go_wp2_with fail
 refine (eqPlaceS_same ag aw (Pl.spN f) cg cw (Pl.alP f) u6 (HG6.out.rs hlb) (HRR.out.keep HBXu6.out.1)).mono ?_
 rintro e u7 ⟨rfl,d7⟩
 have HBXu7:Hid (Below u3.heap.size u3 u7/\u7.heap[w.heap.size]?=some (.cells #[.string f.name,.int .i64 f.params,.int .i64 f.regs,.slice v.a v.len v.cap,.slice s.a s.len s.cap] 25)/\u7.heap[b5]?=some (.cells #[.string f.name,.int .i64 f.params,.int .i64 f.regs,.slice vx.a vx.len vx.cap,.slice (some ⟨gx,0,none⟩) s.len s.len] 31)/\Below u5.heap.size u5 u7):=⟨HBXu6.out.1.trans (d7.mono HBXu6.out.1.size),(d7.block _ (Array.getElem?_eq_some_iff.1 HBXu6.out.2.1).1).trans HBXu6.out.2.1,(d7.block _ (Array.getElem?_eq_some_iff.1 HBXu6.out.2.2.1).1).trans HBXu6.out.2.2.1,HBXu6.out.2.2.2.trans (d7.mono HBXu6.out.2.2.2.size)⟩
 have HG7:Hid (PO u5.heap.size u7 ag (Pl.spN f) (Pl.alP f)):=HG6.out.later d7
 clear d7 HG6 HBXu6
 have u7ah:=HBXu7.out.2.1
 have u7a0:u7.cell? ⟨w.heap.size,0,none⟩=some (.string f.name):=by rw[cell_of_row u7 _ 0 _ _ (0,0) u7ah];rfl
 have u7a1:u7.cell? ⟨w.heap.size,1,none⟩=some (.int .i64 f.params):=by rw[cell_of_row u7 _ 1 _ _ (0,0) u7ah];rfl
 have u7a2:u7.cell? ⟨w.heap.size,2,none⟩=some (.int .i64 f.regs):=by rw[cell_of_row u7 _ 2 _ _ (0,0) u7ah];rfl
 have u7a3:u7.cell? ⟨w.heap.size,3,none⟩=some (.slice v.a v.len v.cap):=by rw[cell_of_row u7 _ 3 _ _ (0,0) u7ah];rfl
 have u7a4:u7.cell? ⟨w.heap.size,4,none⟩=some (.slice s.a s.len s.cap):=by rw[cell_of_row u7 _ 4 _ _ (0,0) u7ah];rfl
 have u7al:=(Array.getElem?_eq_some_iff.1 u7ah).1
 clear u7ah
 have u7xh:=HBXu7.out.2.2.1
 have u7x0:u7.cell? ⟨b5,0,none⟩=some (.string f.name):=by rw[cell_of_row u7 _ 0 _ _ (0,0) u7xh];rfl
 have u7x1:u7.cell? ⟨b5,1,none⟩=some (.int .i64 f.params):=by rw[cell_of_row u7 _ 1 _ _ (0,0) u7xh];rfl
 have u7x2:u7.cell? ⟨b5,2,none⟩=some (.int .i64 f.regs):=by rw[cell_of_row u7 _ 2 _ _ (0,0) u7xh];rfl
 have u7x3:u7.cell? ⟨b5,3,none⟩=some (.slice vx.a vx.len vx.cap):=by rw[cell_of_row u7 _ 3 _ _ (0,0) u7xh];rfl
 have u7x4:u7.cell? ⟨b5,4,none⟩=some (.slice (some ⟨gx,0,none⟩) s.len s.len):=by rw[cell_of_row u7 _ 4 _ _ (0,0) u7xh];rfl
 have u7xl:=(Array.getElem?_eq_some_iff.1 u7xh).1
 clear u7xh
 go_upto_region 10 with fail
 go_cut [31] from 27 to 31 (fun vc wx=>vc=.bool false/\Below u7.heap.size u7 wx)
 case first=>
  go_region_with (first | (go_at_call 8;refine (toIrFun_own f v s _ (HF.out.1.keep (by repeat (first | exact (HBXu3.out.1.trans (HBXu7.out.1.mono HBXu3.out.1.size)) | refine Below.drew ?_ | refine below_drewN ?_ _))) HSZ.out).mono ?_;rintro e y7 ⟨v8,g8,rfl,fo8,d8⟩; have y0:y7.cell? ⟨b5,0,none⟩=some (.string f.name):=by { rw[cell_of_row y7 _ 0 _ _ (0,0) ((d8.block _ u7xl).trans HBXu7.out.2.2.1)];rfl }; have y1:y7.cell? ⟨b5,1,none⟩=some (.int .i64 f.params):=by { rw[cell_of_row y7 _ 1 _ _ (0,0) ((d8.block _ u7xl).trans HBXu7.out.2.2.1)];rfl }; have y2:y7.cell? ⟨b5,2,none⟩=some (.int .i64 f.regs):=by { rw[cell_of_row y7 _ 2 _ _ (0,0) ((d8.block _ u7xl).trans HBXu7.out.2.2.1)];rfl }; have y3:y7.cell? ⟨b5,3,none⟩=some (.slice vx.a vx.len vx.cap):=by { rw[cell_of_row y7 _ 3 _ _ (0,0) ((d8.block _ u7xl).trans HBXu7.out.2.2.1)];rfl }; have y4:y7.cell? ⟨b5,4,none⟩=some (.slice (some ⟨gx,0,none⟩) s.len s.len):=by { rw[cell_of_row y7 _ 4 _ _ (0,0) ((d8.block _ u7xl).trans HBXu7.out.2.2.1)];rfl }; have O7:Hid (FOw _ y7 v8 g8 s.len f):=fo8;have D7:Hid (Below u7.heap.size u7 y7):=((Below.refl u7.heap.size u7).drew).trans d8;clear fo8 d8) | (go_at_call 11;refine (eqIrFun_same f vx ⟨some ⟨gx,0,none⟩,s.len,s.len⟩ v8 ⟨some ⟨g8,0,none⟩,s.len,s.len⟩ _ ((HU5.out.1.is hsn).keep ((HU5.out.2.1.trans (HBXu7.out.2.2.2.mono HU5.out.2.1.size)).trans (D7.out.mono (Nat.le_trans HU5.out.2.1.size HBXu7.out.2.2.2.size)))) (O7.out.is hsn)).mono ?_;rintro e y8 ⟨rfl,d8⟩; have D8:Hid (Below y7.heap.size y7 y8):=d8;clear d8))
  all_goals
   go_wp2_with fail
   go_meet
   exact⟨rfl,D7.out.trans (D8.out.mono D7.out.size)⟩
 case rest=>
 obtain⟨rfl,d9⟩:=hcut
 obtain⟨u9,hu9⟩:∃ u:World,u=wc:=⟨wc,rfl⟩
 rw[<- hu9]at d9 ⊢
 clear hu9
 have HBXu9:Hid (Below u3.heap.size u3 u9/\u9.heap[w.heap.size]?=some (.cells #[.string f.name,.int .i64 f.params,.int .i64 f.regs,.slice v.a v.len v.cap,.slice s.a s.len s.cap] 25)/\u9.heap[b5]?=some (.cells #[.string f.name,.int .i64 f.params,.int .i64 f.regs,.slice vx.a vx.len vx.cap,.slice (some ⟨gx,0,none⟩) s.len s.len] 31)/\Below u5.heap.size u5 u9):=⟨HBXu7.out.1.trans (d9.mono HBXu7.out.1.size),(d9.block _ (Array.getElem?_eq_some_iff.1 HBXu7.out.2.1).1).trans HBXu7.out.2.1,(d9.block _ (Array.getElem?_eq_some_iff.1 HBXu7.out.2.2.1).1).trans HBXu7.out.2.2.1,HBXu7.out.2.2.2.trans (d9.mono HBXu7.out.2.2.2.size)⟩
 have HG9:Hid (PO u5.heap.size u9 ag (Pl.spN f) (Pl.alP f)):=HG7.out.later d9
 clear d9 HG7 HBXu7
 clear u7a0 u7a1 u7a2 u7a3 u7a4 u7al u7x0 u7x1 u7x2 u7x3 u7x4 u7xl
 have u9xh:=HBXu9.out.2.2.1
 have u9x0:u9.cell? ⟨b5,0,none⟩=some (.string f.name):=by rw[cell_of_row u9 _ 0 _ _ (0,0) u9xh];rfl
 have u9x1:u9.cell? ⟨b5,1,none⟩=some (.int .i64 f.params):=by rw[cell_of_row u9 _ 1 _ _ (0,0) u9xh];rfl
 have u9x2:u9.cell? ⟨b5,2,none⟩=some (.int .i64 f.regs):=by rw[cell_of_row u9 _ 2 _ _ (0,0) u9xh];rfl
 have u9x3:u9.cell? ⟨b5,3,none⟩=some (.slice vx.a vx.len vx.cap):=by rw[cell_of_row u9 _ 3 _ _ (0,0) u9xh];rfl
 have u9x4:u9.cell? ⟨b5,4,none⟩=some (.slice (some ⟨gx,0,none⟩) s.len s.len):=by rw[cell_of_row u9 _ 4 _ _ (0,0) u9xh];rfl
 have u9xl:=(Array.getElem?_eq_some_iff.1 u9xh).1
 clear u9xh
 go_wp2_with fail
 refine (markIrFun_any f vx gx s.len u4 u9 HU5.out.1 HSZ.out (HU5.out.2.1.trans (HBXu9.out.2.2.2.mono HU5.out.2.1.size))).mono ?_
 rintro e u10 ⟨⟨km,hkm,rfl⟩,t10⟩
 have HBXu10:Hid (Below u3.heap.size u3 u10/\u10.heap[w.heap.size]?=some (.cells #[.string f.name,.int .i64 f.params,.int .i64 f.regs,.slice v.a v.len v.cap,.slice s.a s.len s.cap] 25)/\PO u5.heap.size u10 ag (Pl.spN f) (Pl.alP f)):=by
  have z3:=(Array.getElem?_eq_some_iff.1 HBXu3.out.2).1
  have z9:=HBXu9.out.1.size
  refine⟨t10.belowS HBXu9.out.1 (Nat.le_refl _) (Nat.le_refl _),(t10.block _ (by omega) (.inl z3)).trans HBXu9.out.2.1,HG9.out.tr t10 HU5.out.2.1.size⟩
 have HZ5:Hid (u3.heap.size<=u5.heap.size/\u5.heap.size<=u10.heap.size):=⟨Nat.le_trans HU5.out.2.2.2 HU5.out.2.1.size,Nat.le_trans HBXu9.out.2.2.2.size t10.size⟩
 have hkn:¬ (km<0):=by omega
 have hkb:decide (km<0)=false:=decide_eq_false hkn
 clear t10 HG9 HBXu9
 clear u9x0 u9x1 u9x2 u9x3 u9x4 u9xl
 go_wp2_with fail
 refine (eqPlaceS_same ag aw (Pl.spN f) cg cw (Pl.alP f) u10 (HBXu10.out.2.2.rs hlb) (HRR.out.keep HBXu10.out.1)).mono ?_
 rintro e u11 ⟨rfl,d11⟩
 have HBXu11:Hid (Below u3.heap.size u3 u11/\u11.heap[w.heap.size]?=some (.cells #[.string f.name,.int .i64 f.params,.int .i64 f.regs,.slice v.a v.len v.cap,.slice s.a s.len s.cap] 25)/\PO u5.heap.size u11 ag (Pl.spN f) (Pl.alP f)):=⟨HBXu10.out.1.trans (d11.mono HBXu10.out.1.size),(d11.block _ (Array.getElem?_eq_some_iff.1 HBXu10.out.2.1).1).trans HBXu10.out.2.1,HBXu10.out.2.2.later d11⟩
 clear d11 HBXu10
 obtain⟨K,hK⟩:∃ K,K=2*(Pl.spN f:Int)+1:=⟨_,rfl⟩
 have hK1:1<=K:=by rw[hK];omega
 have hKn:¬ (K<0):=by omega
 have HKE:Hid (K=2*(Pl.spN f:Int)+1):=hK
 clear hK
 go_wp2_with fail
 refine (markPlaceS_any ag (Pl.spN f) cg (Pl.alP f) u11 HBXu11.out.2.2 hlb).mono ?_
 rintro e u12 ⟨rfl,rw12,t12⟩
 have HBXu12:Hid (Below u3.heap.size u3 u12/\u12.heap[w.heap.size]?=some (.cells #[.string f.name,.int .i64 f.params,.int .i64 f.regs,.slice v.a v.len v.cap,.slice s.a s.len s.cap] 25)/\PO u5.heap.size u12 ag (Pl.spN f) Pl.mkP):=by
  have z3:=(Array.getElem?_eq_some_iff.1 HBXu3.out.2).1
  have z11:=HBXu11.out.1.size
  refine⟨t12.belowS HBXu11.out.1 HZ5.out.1 (Nat.le_refl _),(t12.block _ (by omega) (.inl (by have:=HZ5.out.1;omega))).trans HBXu11.out.2.1,rw12⟩
 rw[<- HKE.out]
 clear t12 rw12 HBXu11
 go_wp2_with fail
 refine (heldPlaceS_any ag (Pl.spN f) cg u12 HBXu12.out.2.2 hlb).mono ?_
 rintro e u13 ⟨rfl,d13⟩
 have HBXu13:Hid (Below u3.heap.size u3 u13/\u13.heap[w.heap.size]?=some (.cells #[.string f.name,.int .i64 f.params,.int .i64 f.regs,.slice v.a v.len v.cap,.slice s.a s.len s.cap] 25)):=⟨HBXu12.out.1.trans (d13.mono HBXu12.out.1.size),(d13.block _ (Array.getElem?_eq_some_iff.1 HBXu12.out.2.1).1).trans HBXu12.out.2.1⟩
 rw[<- HKE.out]
 clear d13 HBXu12
 have u13ah:=HBXu13.out.2
 have u13a0:u13.cell? ⟨w.heap.size,0,none⟩=some (.string f.name):=by rw[cell_of_row u13 _ 0 _ _ (0,0) u13ah];rfl
 have u13a1:u13.cell? ⟨w.heap.size,1,none⟩=some (.int .i64 f.params):=by rw[cell_of_row u13 _ 1 _ _ (0,0) u13ah];rfl
 have u13a2:u13.cell? ⟨w.heap.size,2,none⟩=some (.int .i64 f.regs):=by rw[cell_of_row u13 _ 2 _ _ (0,0) u13ah];rfl
 have u13a3:u13.cell? ⟨w.heap.size,3,none⟩=some (.slice v.a v.len v.cap):=by rw[cell_of_row u13 _ 3 _ _ (0,0) u13ah];rfl
 have u13a4:u13.cell? ⟨w.heap.size,4,none⟩=some (.slice s.a s.len s.cap):=by rw[cell_of_row u13 _ 4 _ _ (0,0) u13ah];rfl
 have u13al:=(Array.getElem?_eq_some_iff.1 u13ah).1
 clear u13ah
 go_wp2_with fail
 refine (toIrFun_own f v s u13 (HF.out.1.keep (HBXu3.out.1.trans (HBXu13.out.1.mono HBXu3.out.1.size))) HSZ.out).mono ?_
 rintro e u14 ⟨v14,g14,rfl,fo14,d14⟩
 have HBXu14:Hid (Below u3.heap.size u3 u14/\FOw u13.heap.size u14 v14 g14 s.len f):=⟨HBXu13.out.1.trans (d14.mono HBXu13.out.1.size),fo14⟩
 clear d14 fo14 HBXu13
 clear u13a0 u13a1 u13a2 u13a3 u13a4 u13al
 go_wp2_with fail
 refine (implAl_c f v14 ⟨some ⟨g14,0,none⟩,s.len,s.len⟩ u14 (HBXu14.out.2.is hsn) HSZ.out HF.out.2.1 (HF.out.2.2.keepG (HBXu3.out.1.trans (HBXu14.out.1.mono HBXu3.out.1.size)))).mono ?_
 rintro e u15 ⟨⟨ah,ch,rfl,rw15⟩,d15⟩
 have HBXu15:Hid (Below u3.heap.size u3 u15/\PO u14.heap.size u15 ah (Pl.spN f) (Pl.alP f)):=⟨HBXu14.out.1.trans (d15.mono HBXu14.out.1.size),rw15⟩
 clear d15 rw15 HBXu14
 go_wp2_with fail
 refine (eqPlaceS_same ah aw (Pl.spN f) ch cw (Pl.alP f) u15 (HBXu15.out.2.rs hlb) (HRR.out.keep HBXu15.out.1)).mono ?_
 rintro e u16 ⟨rfl,d16⟩
 have HE:Hid (Below w.heap.size w u16):=HBXu3.out.1.trans ((HBXu15.out.1.trans (d16.mono HBXu15.out.1.size)).mono HBXu3.out.1.size)
 clear d16 HBXu15
 go_wp2_with fail
 go_ret
 exact⟨rfl,HE.out⟩
end Go.Proofs.YtcgfgmlfbgbkfaaGreatDoor.W
