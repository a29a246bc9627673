import Derived.Test.YtlbomnnldkeocaaGreatA44
import Derived.Deep.RegionWith
import Derived.Deep.Cut
set_option linter.unusedVariables false
set_option linter.unusedSimpArgs false
set_option maxHeartbeats 16000000
namespace Go.Proofs.YtlbomnnldkeocaaGreat.W
open Go.RowKit
theorem LOwn.keep {lo:Nat} {w w':World} {a:Option Addr} {len:Nat} {xs:List Pl.Ln} (h:LOwn lo w a len xs) (d:Below w.heap.size w w'):LOwn lo w' a len xs:=by
 obtain⟨h1,h2,b,ha,hlo,hlt,hf,hc⟩:=h
 exact⟨h1,h2,b,ha,hlo,Nat.lt_of_lt_of_le hlt d.size,fun i=>(d.frozen (p:=⟨b,i,none⟩) hlt).trans (hf i),fun i hi j hj=>(d.cell (p:=⟨b,i*8+j,none⟩) hlt).trans (hc i hi j hj)⟩
theorem LOwn.lt {lo g:Nat} {w:World} {len:Nat} {xs:List Pl.Ln} (h:LOwn lo w (some ⟨g,0,none⟩) len xs):g<w.heap.size:=by
 obtain⟨_,_,b,hb,_,hlt,_⟩:=h
 cases hb
 exact hlt
theorem xfree {lo g:Nat} {w:World} {len:Nat} {xs:List Pl.Ln} (h:LOwn lo w (some ⟨g,0,none⟩) len xs):Free g (len*8) w:=by
 obtain⟨g',e,_,hf⟩:=h.free
 cases e
 exact hf
theorem below_besides {B g:Nat} {w u v:World} (h:Below B w u) (d:Besides g u v) (hg:B<=g) (hB:B<=u.heap.size):Below B w v:=
 ⟨d.os.trans h.os,d.tape.trans h.tape,d.output.trans h.output,Nat.le_trans h.size d.size,fun k hk=>(d.block k (Nat.lt_of_lt_of_le hk hB) (by omega)).trans (h.block k hk)⟩
set_option maxRecDepth 8000 in
theorem fnExactAssemble_walk {lo:Nat} (a:Option Addr) (len cap:Nat) (xs:List Pl.Ln) (stack:Int) (w:World) (h:LRow lo w a len cap xs) :
  Calls Tryz.prog 4 #[.slice a len cap,.int .i64 stack] w fun e w'=>e=.returned (.bool true)/\Below w.heap.size w w':=by
 have HRow:Hid (LRow lo w a len cap xs):=h
 have SP:Hid (∀ (l0:Nat) (b:Option Addr) (c:Nat) (u:World),LRow l0 u b len c xs->Calls Tryz.prog 6 #[.slice b len c,.int .i64 stack] u (AsmSaid xs stack u)):=fun l0 b c u q=>specAsm_is b len c xs stack u q
 have IM:Hid (∀ (l0:Nat) (b:Option Addr) (c:Nat) (u:World),LRow l0 u b len c xs->Calls Tryz.prog 7 #[.slice b len c,.int .i64 stack] u (AsmSaid xs stack u)):=fun l0 b c u q=>implAsm_is b len c xs stack u q
 have GO:=fun (u u':World) (e:Ending) (q:AsmSaid xs stack u e u')=>AsmSaid.got q
 generalize aC xs stack=kc at GO
 generalize aP xs stack=kp at GO
 generalize imgA xs stack=m at GO
 have HGO:Hid _:=GO
 clear h GO
 go_enter Tryz.func4,Tryz.ntmps4
 go_wp2_with fail
 refine (szLineS_any a len cap xs w HRow.out).mono ?_
 rintro e y1 ⟨r,rfl,hr0,d1⟩
 have B1:Hid (Below w.heap.size w y1):=d1
 have s1:Hid (w.heap.size<=y1.heap.size):=d1.size
 clear d1
 by_cases hr:r<0
 ·clear hr0
  go_wp2
  go_ret
  exact⟨rfl,B1.out⟩
 have hln:Hid (len<=1048576):=(hr0 (by omega)).1
 clear hr0
 go_wp2_with fail
 refine (toLineS_any a len cap xs y1 (HRow.out.keep B1.out) hln.out).mono ?_
 rintro e y2 ⟨rfl,l2,d2⟩
 have L2:Hid (LOwn y1.heap.size y2 (some ⟨y1.heap.size,0,none⟩) len xs):=l2
 clear l2
 have B2:Hid (Below w.heap.size w y2):=B1.out.trans (d2.mono B1.out.size)
 have s2:Hid (y1.heap.size<=y2.heap.size):=d2.size
 clear d2 B1
 go_wp2_with fail
 refine (SP.out _ _ len y2 L2.out.row).mono ?_
 intro e y3 h3
 obtain⟨vw,rfl,gw,d3⟩:=HGO.out y2 y3 e h3
 have OW3:Hid (AGot y2.heap.size y3.heap.size y3 vw m):=gw
 clear h3 gw L2 SP
 have B3:Hid (Below w.heap.size w y3):=B2.out.trans (d3.mono B2.out.size)
 have s3:Hid (y2.heap.size<=y3.heap.size):=d3.size
 clear d3 B2
 go_wp2_with (refine wpList_store_row rfl 28 _ _ rfl (y3.heap.size) #[.slice vw.code.a vw.code.len vw.code.cap,.slice vw.data.a vw.data.len vw.data.cap,.int .i64 m.entry,.int .i64 m.size] ?hx ?hy 28 #[.slice none 0 0,.slice none 0 0,.int .i64 0,.int .i64 0] ?hg ?hi ?ho ?h1 ?_; (case hx=>rfl); (case hy=>rfl); (case hg=>exact heap_alloc_new y3 _); (case hi=>kernel_rfl); (case ho=>kernel_rfl); (case h1=>kernel_rfl);refine Hid.out ?_)
 unfold Hid
 rw[World.setRow_alloc_new]
 refine wpList_at fun y4 hy4=>?_
 have d4:Below y3.heap.size y3 y4:=by rw[hy4];exact below_alloc y3 _
 have RW4:Hid (y4.heap[y3.heap.size]?=some (.cells #[.slice vw.code.a vw.code.len vw.code.cap,.slice vw.data.a vw.data.len vw.data.cap,.int .i64 m.entry,.int .i64 m.size] 28)):=by show y4.heap[y3.heap.size]?=_;rw[hy4];exact heap_alloc_new y3 _
 have ZW4:Hid (y3.heap.size<y4.heap.size):=by show y3.heap.size<y4.heap.size;rw[hy4];simp
 have t4:Hid (y3.heap.size<y4.heap.size):=ZW4.out
 clear hy4
 have OW4:Hid (AGot y2.heap.size y3.heap.size y4 vw m):=OW3.out.keep (by have:=s1.out;have:=s2.out;have:=s3.out;omega) d4
 have B4:Hid (Below w.heap.size w y4):=B3.out.trans (d4.mono B3.out.size)
 have s4:Hid (y3.heap.size<=y4.heap.size):=d4.size
 clear d4 OW3 B3
 obtain⟨gW,hgW⟩:∃ g,g=y3.heap.size:=⟨_,rfl⟩
 rw[<- hgW]at RW4 ZW4 ⊢
 have HGW:Hid (gW=y3.heap.size):=hgW
 clear hgW
 go_wp2_with fail
 refine (toLineS_any a len cap xs y4 (HRow.out.keep B4.out) hln.out).mono ?_
 rintro e y5 ⟨rfl,l5,d5⟩
 obtain⟨nx,hnx⟩:∃ n,n=y4.heap.size:=⟨_,rfl⟩
 rw[<- hnx]at l5 ⊢
 have OX5:Hid (LOwn nx y5 (some ⟨nx,0,none⟩) len xs):=l5
 have HNX:Hid (nx=y4.heap.size/\nx<y5.heap.size):=⟨hnx,l5.lt⟩
 clear l5 hnx
 have RW5:Hid (y5.heap[gW]?=some (.cells #[.slice vw.code.a vw.code.len vw.code.cap,.slice vw.data.a vw.data.len vw.data.cap,.int .i64 m.entry,.int .i64 m.size] 28)):=(d5.block _ ZW4.out).trans RW4.out
 have ZW5:Hid (gW<y5.heap.size):=Nat.lt_of_lt_of_le ZW4.out d5.size
 have OW5:Hid (AGot y2.heap.size y3.heap.size y5 vw m):=OW4.out.keep (by have:=s1.out;have:=s2.out;have:=s3.out;have:=s4.out;have:=t4.out;have:=HGW.out;omega) d5
 have B5:Hid (Below w.heap.size w y5):=B4.out.trans (d5.mono B4.out.size)
 have s5:Hid (y4.heap.size<=y5.heap.size):=d5.size
 clear d5 RW4 ZW4 OW4 B4
 go_wp2_with fail
 refine (IM.out _ _ len y5 OX5.out.row).mono ?_
 intro e y6 h6
 obtain⟨vg,rfl,gg,d6⟩:=HGO.out y5 y6 e h6
 have OG6:Hid (AGot y5.heap.size y6.heap.size y6 vg m):=gg
 clear h6 gg
 have RW6:Hid (y6.heap[gW]?=some (.cells #[.slice vw.code.a vw.code.len vw.code.cap,.slice vw.data.a vw.data.len vw.data.cap,.int .i64 m.entry,.int .i64 m.size] 28)):=(d6.block _ ZW5.out).trans RW5.out
 have ZW6:Hid (gW<y6.heap.size):=Nat.lt_of_lt_of_le ZW5.out d6.size
 have OW6:Hid (AGot y2.heap.size y3.heap.size y6 vw m):=OW5.out.keep (by have:=s1.out;have:=s2.out;have:=s3.out;have:=s4.out;have:=t4.out;have:=HGW.out;have:=s5.out;have:=HNX.out;omega) d6
 have OX6:Hid (LOwn nx y6 (some ⟨nx,0,none⟩) len xs):=OX5.out.keep d6
 have B6:Hid (Below w.heap.size w y6):=B5.out.trans (d6.mono B5.out.size)
 have s6:Hid (y5.heap.size<=y6.heap.size):=d6.size
 clear d6 RW5 ZW5 OW5 OX5 B5
 go_wp2_with (refine wpList_store_row rfl 28 _ _ rfl (y6.heap.size) #[.slice vg.code.a vg.code.len vg.code.cap,.slice vg.data.a vg.data.len vg.data.cap,.int .i64 m.entry,.int .i64 m.size] ?hx ?hy 28 #[.slice none 0 0,.slice none 0 0,.int .i64 0,.int .i64 0] ?hg ?hi ?ho ?h1 ?_; (case hx=>rfl); (case hy=>rfl); (case hg=>exact heap_alloc_new y6 _); (case hi=>kernel_rfl); (case ho=>kernel_rfl); (case h1=>kernel_rfl);refine Hid.out ?_)
 unfold Hid
 rw[World.setRow_alloc_new]
 refine wpList_at fun y7 hy7=>?_
 have d7:Below y6.heap.size y6 y7:=by rw[hy7];exact below_alloc y6 _
 have RG7:Hid (y7.heap[y6.heap.size]?=some (.cells #[.slice vg.code.a vg.code.len vg.code.cap,.slice vg.data.a vg.data.len vg.data.cap,.int .i64 m.entry,.int .i64 m.size] 28)):=by show y7.heap[y6.heap.size]?=_;rw[hy7];exact heap_alloc_new y6 _
 have ZG7:Hid (y6.heap.size<y7.heap.size):=by show y6.heap.size<y7.heap.size;rw[hy7];simp
 have t7:Hid (y6.heap.size<y7.heap.size):=ZG7.out
 clear hy7
 have RW7:Hid (y7.heap[gW]?=some (.cells #[.slice vw.code.a vw.code.len vw.code.cap,.slice vw.data.a vw.data.len vw.data.cap,.int .i64 m.entry,.int .i64 m.size] 28)):=(d7.block _ ZW6.out).trans RW6.out
 have ZW7:Hid (gW<y7.heap.size):=Nat.lt_of_lt_of_le ZW6.out d7.size
 have OW7:Hid (AGot y2.heap.size y3.heap.size y7 vw m):=OW6.out.keep (by have:=s1.out;have:=s2.out;have:=s3.out;have:=s4.out;have:=t4.out;have:=HGW.out;have:=s5.out;have:=HNX.out;have:=s6.out;omega) d7
 have OX7:Hid (LOwn nx y7 (some ⟨nx,0,none⟩) len xs):=OX6.out.keep d7
 have OG7:Hid (AGot y5.heap.size y6.heap.size y7 vg m):=OG6.out.keep (by have:=s1.out;have:=s2.out;have:=s3.out;have:=s4.out;have:=t4.out;have:=HGW.out;have:=s5.out;have:=HNX.out;have:=s6.out;omega) d7
 have B7:Hid (Below w.heap.size w y7):=B6.out.trans (d7.mono B6.out.size)
 have s7:Hid (y6.heap.size<=y7.heap.size):=d7.size
 clear d7 RW6 ZW6 OW6 OX6 OG6 B6
 obtain⟨gG,hgG⟩:∃ g,g=y6.heap.size:=⟨_,rfl⟩
 rw[<- hgG]at RG7 ZG7 ⊢
 have HGG:Hid (gG=y6.heap.size):=hgG
 clear hgG
 go_wp2_with (first | (refine wpList_load_row rfl 28 _ rfl (gG) ?hx 28 #[.slice vg.code.a vg.code.len vg.code.cap,.slice vg.data.a vg.data.len vg.data.cap,.int .i64 m.entry,.int .i64 m.size] (0,0) _ ?hg Tryz.underlying28 ?hd ?hi ?_; (case hx=>rfl); (case hg=>exact RG7.out); (case hd=>rfl); (case hi=>kernel_rfl)) | (refine wpList_load_row rfl 28 _ rfl (gW) ?hx 28 #[.slice vw.code.a vw.code.len vw.code.cap,.slice vw.data.a vw.data.len vw.data.cap,.int .i64 m.entry,.int .i64 m.size] (0,0) _ ?hg Tryz.underlying28 ?hd ?hi ?_; (case hx=>rfl); (case hg=>exact RW7.out); (case hd=>rfl); (case hi=>kernel_rfl)))
 refine (eqImage_same vg vw m y7 OG7.out.is OW7.out.is).mono ?_
 rintro e y8 ⟨rfl,d8⟩
 have RW8:Hid (y8.heap[gW]?=some (.cells #[.slice vw.code.a vw.code.len vw.code.cap,.slice vw.data.a vw.data.len vw.data.cap,.int .i64 m.entry,.int .i64 m.size] 28)):=(d8.block _ ZW7.out).trans RW7.out
 have ZW8:Hid (gW<y8.heap.size):=Nat.lt_of_lt_of_le ZW7.out d8.size
 have RG8:Hid (y8.heap[gG]?=some (.cells #[.slice vg.code.a vg.code.len vg.code.cap,.slice vg.data.a vg.data.len vg.data.cap,.int .i64 m.entry,.int .i64 m.size] 28)):=(d8.block _ ZG7.out).trans RG7.out
 have ZG8:Hid (gG<y8.heap.size):=Nat.lt_of_lt_of_le ZG7.out d8.size
 have OW8:Hid (AGot y2.heap.size y3.heap.size y8 vw m):=OW7.out.keep (by have:=s1.out;have:=s2.out;have:=s3.out;have:=s4.out;have:=t4.out;have:=HGW.out;have:=s5.out;have:=HNX.out;have:=s6.out;have:=s7.out;have:=t7.out;have:=HGG.out;omega) d8
 have OX8:Hid (LOwn nx y8 (some ⟨nx,0,none⟩) len xs):=OX7.out.keep d8
 have OG8:Hid (AGot y5.heap.size y6.heap.size y8 vg m):=OG7.out.keep (by have:=s1.out;have:=s2.out;have:=s3.out;have:=s4.out;have:=t4.out;have:=HGW.out;have:=s5.out;have:=HNX.out;have:=s6.out;have:=s7.out;have:=t7.out;have:=HGG.out;omega) d8
 have B8:Hid (Below w.heap.size w y8):=B7.out.trans (d8.mono B7.out.size)
 have s8:Hid (y7.heap.size<=y8.heap.size):=d8.size
 clear d8 RW7 ZW7 RG7 ZG7 OW7 OX7 OG7 B7
 go_wp2_with fail
 refine (toLineS_any a len cap xs y8 (HRow.out.keep B8.out) hln.out).mono ?_
 rintro e y9 ⟨rfl,l9,d9⟩
 have L9:Hid (LOwn y8.heap.size y9 (some ⟨y8.heap.size,0,none⟩) len xs):=l9
 clear l9
 have RW9:Hid (y9.heap[gW]?=some (.cells #[.slice vw.code.a vw.code.len vw.code.cap,.slice vw.data.a vw.data.len vw.data.cap,.int .i64 m.entry,.int .i64 m.size] 28)):=(d9.block _ ZW8.out).trans RW8.out
 have ZW9:Hid (gW<y9.heap.size):=Nat.lt_of_lt_of_le ZW8.out d9.size
 have RG9:Hid (y9.heap[gG]?=some (.cells #[.slice vg.code.a vg.code.len vg.code.cap,.slice vg.data.a vg.data.len vg.data.cap,.int .i64 m.entry,.int .i64 m.size] 28)):=(d9.block _ ZG8.out).trans RG8.out
 have ZG9:Hid (gG<y9.heap.size):=Nat.lt_of_lt_of_le ZG8.out d9.size
 have OW9:Hid (AGot y2.heap.size y3.heap.size y9 vw m):=OW8.out.keep (by have:=s1.out;have:=s2.out;have:=s3.out;have:=s4.out;have:=t4.out;have:=HGW.out;have:=s5.out;have:=HNX.out;have:=s6.out;have:=s7.out;have:=t7.out;have:=HGG.out;have:=s8.out;omega) d9
 have OX9:Hid (LOwn nx y9 (some ⟨nx,0,none⟩) len xs):=OX8.out.keep d9
 have OG9:Hid (AGot y5.heap.size y6.heap.size y9 vg m):=OG8.out.keep (by have:=s1.out;have:=s2.out;have:=s3.out;have:=s4.out;have:=t4.out;have:=HGW.out;have:=s5.out;have:=HNX.out;have:=s6.out;have:=s7.out;have:=t7.out;have:=HGG.out;have:=s8.out;omega) d9
 have B9:Hid (Below w.heap.size w y9):=B8.out.trans (d9.mono B8.out.size)
 have s9:Hid (y8.heap.size<=y9.heap.size):=d9.size
 clear d9 RW8 ZW8 RG8 ZG8 OW8 OX8 OG8 B8
 go_wp2_with fail
 refine (eqLineS_same _ _ len len len xs y9 OX9.out.row L9.out.row).mono ?_
 rintro e y10 ⟨rfl,d10⟩
 clear L9
 have RW10:Hid (y10.heap[gW]?=some (.cells #[.slice vw.code.a vw.code.len vw.code.cap,.slice vw.data.a vw.data.len vw.data.cap,.int .i64 m.entry,.int .i64 m.size] 28)):=(d10.block _ ZW9.out).trans RW9.out
 have ZW10:Hid (gW<y10.heap.size):=Nat.lt_of_lt_of_le ZW9.out d10.size
 have RG10:Hid (y10.heap[gG]?=some (.cells #[.slice vg.code.a vg.code.len vg.code.cap,.slice vg.data.a vg.data.len vg.data.cap,.int .i64 m.entry,.int .i64 m.size] 28)):=(d10.block _ ZG9.out).trans RG9.out
 have ZG10:Hid (gG<y10.heap.size):=Nat.lt_of_lt_of_le ZG9.out d10.size
 have OW10:Hid (AGot y2.heap.size y3.heap.size y10 vw m):=OW9.out.keep (by have:=s1.out;have:=s2.out;have:=s3.out;have:=s4.out;have:=t4.out;have:=HGW.out;have:=s5.out;have:=HNX.out;have:=s6.out;have:=s7.out;have:=t7.out;have:=HGG.out;have:=s8.out;have:=s9.out;omega) d10
 have OX10:Hid (LOwn nx y10 (some ⟨nx,0,none⟩) len xs):=OX9.out.keep d10
 have OG10:Hid (AGot y5.heap.size y6.heap.size y10 vg m):=OG9.out.keep (by have:=s1.out;have:=s2.out;have:=s3.out;have:=s4.out;have:=t4.out;have:=HGW.out;have:=s5.out;have:=HNX.out;have:=s6.out;have:=s7.out;have:=t7.out;have:=HGG.out;have:=s8.out;have:=s9.out;omega) d10
 have B10:Hid (Below w.heap.size w y10):=B9.out.trans (d10.mono B9.out.size)
 have s10:Hid (y9.heap.size<=y10.heap.size):=d10.size
 clear d10 RW9 ZW9 RG9 ZG9 OW9 OX9 OG9 B9
 go_wp2_with fail
 refine (markLineS_any nx len 1 y10 (xfree OX10.out) hln.out (by decide)).mono ?_
 rintro e y11 ⟨q,rfl,hq0,hq1,_,d11⟩
 have T11:=d11
 have RW11:Hid (y11.heap[gW]?=some (.cells #[.slice vw.code.a vw.code.len vw.code.cap,.slice vw.data.a vw.data.len vw.data.cap,.int .i64 m.entry,.int .i64 m.size] 28)):=(T11.block _ ZW10.out (by have:=s1.out;have:=s2.out;have:=s3.out;have:=s4.out;have:=t4.out;have:=HGW.out;have:=s5.out;have:=HNX.out;have:=s6.out;have:=s7.out;have:=t7.out;have:=HGG.out;have:=s8.out;have:=s9.out;have:=s10.out;omega)).trans RW10.out
 have ZW11:Hid (gW<y11.heap.size):=Nat.lt_of_lt_of_le ZW10.out T11.size
 have RG11:Hid (y11.heap[gG]?=some (.cells #[.slice vg.code.a vg.code.len vg.code.cap,.slice vg.data.a vg.data.len vg.data.cap,.int .i64 m.entry,.int .i64 m.size] 28)):=(T11.block _ ZG10.out (by have:=s1.out;have:=s2.out;have:=s3.out;have:=s4.out;have:=t4.out;have:=HGW.out;have:=s5.out;have:=HNX.out;have:=s6.out;have:=s7.out;have:=t7.out;have:=HGG.out;have:=s8.out;have:=s9.out;have:=s10.out;omega)).trans RG10.out
 have ZG11:Hid (gG<y11.heap.size):=Nat.lt_of_lt_of_le ZG10.out T11.size
 have OW11:Hid (AGot y2.heap.size y3.heap.size y11 vw m):=OW10.out.besides (by have:=s1.out;have:=s2.out;have:=s3.out;have:=s4.out;have:=t4.out;have:=HGW.out;have:=s5.out;have:=HNX.out;have:=s6.out;have:=s7.out;have:=t7.out;have:=HGG.out;have:=s8.out;have:=s9.out;have:=s10.out;omega) T11 (by have:=s1.out;have:=s2.out;have:=s3.out;have:=s4.out;have:=t4.out;have:=HGW.out;have:=s5.out;have:=HNX.out;have:=s6.out;have:=s7.out;have:=t7.out;have:=HGG.out;have:=s8.out;have:=s9.out;have:=s10.out;omega)
 have OG11:Hid (AGot y5.heap.size y6.heap.size y11 vg m):=OG10.out.besides (by have:=s1.out;have:=s2.out;have:=s3.out;have:=s4.out;have:=t4.out;have:=HGW.out;have:=s5.out;have:=HNX.out;have:=s6.out;have:=s7.out;have:=t7.out;have:=HGG.out;have:=s8.out;have:=s9.out;have:=s10.out;omega) T11 (by have:=s1.out;have:=s2.out;have:=s3.out;have:=s4.out;have:=t4.out;have:=HGW.out;have:=s5.out;have:=HNX.out;have:=s6.out;have:=s7.out;have:=t7.out;have:=HGG.out;have:=s8.out;have:=s9.out;have:=s10.out;omega)
 have B11:Hid (Below w.heap.size w y11):=below_besides B10.out T11 (by have:=B10.out.size;have:=s1.out;have:=s2.out;have:=s3.out;have:=s4.out;have:=t4.out;have:=HGW.out;have:=s5.out;have:=HNX.out;have:=s6.out;have:=s7.out;have:=t7.out;have:=HGG.out;have:=s8.out;have:=s9.out;have:=s10.out;omega) (by have:=B10.out.size;omega)
 have s11:Hid (y10.heap.size<=y11.heap.size):=T11.size
 clear T11 RW10 ZW10 RG10 ZG10 OW10 OX10 OG10 B10
 clear d11 hq1
 have kg:∀ j,y11.cell? ⟨gG,j,none⟩=(#[.slice vg.code.a vg.code.len vg.code.cap,.slice vg.data.a vg.data.len vg.data.cap,.int .i64 m.entry,.int .i64 m.size]:Array Value)[j]?:=fun j=>cell_of_row y11 gG j _ 28 (0,0) RG11.out
 have kw:∀ j,y11.cell? ⟨gW,j,none⟩=(#[.slice vw.code.a vw.code.len vw.code.cap,.slice vw.data.a vw.data.len vw.data.cap,.int .i64 m.entry,.int .i64 m.size]:Array Value)[j]?:=fun j=>cell_of_row y11 gW j _ 28 (0,0) RW11.out
 have hq:¬ q<0:=by omega
 go_wp2_with fail
 clear kg kw hq
 refine (eqImage_same vg vw m y11 OG11.out.is OW11.out.is).mono ?_
 rintro e y12 ⟨rfl,d12⟩
 have RW12:Hid (y12.heap[gW]?=some (.cells #[.slice vw.code.a vw.code.len vw.code.cap,.slice vw.data.a vw.data.len vw.data.cap,.int .i64 m.entry,.int .i64 m.size] 28)):=(d12.block _ ZW11.out).trans RW11.out
 have ZW12:Hid (gW<y12.heap.size):=Nat.lt_of_lt_of_le ZW11.out d12.size
 have RG12:Hid (y12.heap[gG]?=some (.cells #[.slice vg.code.a vg.code.len vg.code.cap,.slice vg.data.a vg.data.len vg.data.cap,.int .i64 m.entry,.int .i64 m.size] 28)):=(d12.block _ ZG11.out).trans RG11.out
 have ZG12:Hid (gG<y12.heap.size):=Nat.lt_of_lt_of_le ZG11.out d12.size
 have OW12:Hid (AGot y2.heap.size y3.heap.size y12 vw m):=OW11.out.keep (by have:=s1.out;have:=s2.out;have:=s3.out;have:=s4.out;have:=t4.out;have:=HGW.out;have:=s5.out;have:=HNX.out;have:=s6.out;have:=s7.out;have:=t7.out;have:=HGG.out;have:=s8.out;have:=s9.out;have:=s10.out;have:=s11.out;omega) d12
 have OG12:Hid (AGot y5.heap.size y6.heap.size y12 vg m):=OG11.out.keep (by have:=s1.out;have:=s2.out;have:=s3.out;have:=s4.out;have:=t4.out;have:=HGW.out;have:=s5.out;have:=HNX.out;have:=s6.out;have:=s7.out;have:=t7.out;have:=HGG.out;have:=s8.out;have:=s9.out;have:=s10.out;have:=s11.out;omega) d12
 have B12:Hid (Below w.heap.size w y12):=B11.out.trans (d12.mono B11.out.size)
 have s12:Hid (y11.heap.size<=y12.heap.size):=d12.size
 clear d12 RW11 ZW11 RG11 ZG11 OW11 OG11 B11
 go_wp2_with (refine wpList_load_row rfl 28 _ rfl (gG) ?hx 28 #[.slice vg.code.a vg.code.len vg.code.cap,.slice vg.data.a vg.data.len vg.data.cap,.int .i64 m.entry,.int .i64 m.size] (0,0) _ ?hg Tryz.underlying28 ?hd ?hi ?_; (case hx=>rfl); (case hg=>exact RG12.out); (case hd=>rfl); (case hi=>kernel_rfl))
 refine (markImage_got vg m y12 OG12.out (by have:=s1.out;have:=s2.out;have:=s3.out;have:=s4.out;have:=t4.out;have:=HGW.out;have:=s5.out;have:=HNX.out;have:=s6.out;have:=s7.out;have:=t7.out;have:=HGG.out;have:=s8.out;have:=s9.out;have:=s10.out;have:=s11.out;have:=s12.out;omega)).mono ?_
 rintro e y13 ⟨rfl,oc,od,d13⟩
 have OC13:Hid (Row .i64 y5.heap.size y13 vg.code.a vg.code.len vg.code.cap (mkIntS 1 vg.code.len)):=oc.row
 have OD13:Hid (Row .u8 y5.heap.size y13 vg.data.a vg.data.len vg.data.cap (mkByteS (1+vg.code.len) vg.data.len)):=od.row
 have hcl:=OG12.out.clen
 have hdl:=OG12.out.dlen
 have HCL:Hid (vg.code.len<=16384):=hcl
 have HDL:Hid (vg.data.len<=65536):=hdl
 clear oc od hcl hdl
 have T13:=d13
 have RW13:Hid (y13.heap[gW]?=some (.cells #[.slice vw.code.a vw.code.len vw.code.cap,.slice vw.data.a vw.data.len vw.data.cap,.int .i64 m.entry,.int .i64 m.size] 28)):=(T13.block _ ZW12.out (by have:=s1.out;have:=s2.out;have:=s3.out;have:=s4.out;have:=t4.out;have:=HGW.out;have:=s5.out;have:=HNX.out;have:=s6.out;have:=s7.out;have:=t7.out;have:=HGG.out;have:=s8.out;have:=s9.out;have:=s10.out;have:=s11.out;have:=s12.out;omega)).trans RW12.out
 have ZW13:Hid (gW<y13.heap.size):=Nat.lt_of_lt_of_le ZW12.out T13.size
 have RG13:Hid (y13.heap[gG]?=some (.cells #[.slice vg.code.a vg.code.len vg.code.cap,.slice vg.data.a vg.data.len vg.data.cap,.int .i64 m.entry,.int .i64 m.size] 28)):=(T13.block _ ZG12.out (by have:=s1.out;have:=s2.out;have:=s3.out;have:=s4.out;have:=t4.out;have:=HGW.out;have:=s5.out;have:=HNX.out;have:=s6.out;have:=s7.out;have:=t7.out;have:=HGG.out;have:=s8.out;have:=s9.out;have:=s10.out;have:=s11.out;have:=s12.out;omega)).trans RG12.out
 have ZG13:Hid (gG<y13.heap.size):=Nat.lt_of_lt_of_le ZG12.out T13.size
 have OW13:Hid (AGot y2.heap.size y3.heap.size y13 vw m):=OW12.out.wrote (by have:=s1.out;have:=s2.out;have:=s3.out;have:=s4.out;have:=t4.out;have:=HGW.out;have:=s5.out;have:=HNX.out;have:=s6.out;have:=s7.out;have:=t7.out;have:=HGG.out;have:=s8.out;have:=s9.out;have:=s10.out;have:=s11.out;have:=s12.out;omega) T13 (by have:=s1.out;have:=s2.out;have:=s3.out;have:=s4.out;have:=t4.out;have:=HGW.out;have:=s5.out;have:=HNX.out;have:=s6.out;have:=s7.out;have:=t7.out;have:=HGG.out;have:=s8.out;have:=s9.out;have:=s10.out;have:=s11.out;have:=s12.out;omega)
 have B13:Hid (Below w.heap.size w y13):=below_wrote B12.out T13 (by have:=B12.out.size;have:=s1.out;have:=s2.out;have:=s3.out;have:=s4.out;have:=t4.out;have:=HGW.out;have:=s5.out;have:=HNX.out;have:=s6.out;have:=s7.out;have:=t7.out;have:=HGG.out;have:=s8.out;have:=s9.out;have:=s10.out;have:=s11.out;have:=s12.out;omega) (by have:=B12.out.size;omega)
 have s13:Hid (y12.heap.size<=y13.heap.size):=T13.size
 clear T13 RW12 ZW12 RG12 ZG12 OW12 OG12 B12
 clear d13
 obtain⟨K,hK⟩:∃ K:Int,K=1+(vg.code.len:Int)+(vg.data.len:Int):=⟨_,rfl⟩
 rw[<- hK]
 have HK:Hid (K=1+(vg.code.len:Int)+(vg.data.len:Int)):=hK
 clear hK
 go_wp2_with (refine wpList_load_row rfl 28 _ rfl (gG) ?hx 28 #[.slice vg.code.a vg.code.len vg.code.cap,.slice vg.data.a vg.data.len vg.data.cap,.int .i64 m.entry,.int .i64 m.size] (0,0) _ ?hg Tryz.underlying28 ?hd ?hi ?_; (case hx=>rfl); (case hg=>exact RG13.out); (case hd=>rfl); (case hi=>kernel_rfl))
 refine (heldImage_got vg m y13 OC13.out OD13.out HCL.out HDL.out).mono ?_
 rintro e y14 ⟨rfl,d14⟩
 rw[<- HK.out]
 clear OC13 OD13
 have RW14:Hid (y14.heap[gW]?=some (.cells #[.slice vw.code.a vw.code.len vw.code.cap,.slice vw.data.a vw.data.len vw.data.cap,.int .i64 m.entry,.int .i64 m.size] 28)):=(d14.block _ ZW13.out).trans RW13.out
 have ZW14:Hid (gW<y14.heap.size):=Nat.lt_of_lt_of_le ZW13.out d14.size
 have RG14:Hid (y14.heap[gG]?=some (.cells #[.slice vg.code.a vg.code.len vg.code.cap,.slice vg.data.a vg.data.len vg.data.cap,.int .i64 m.entry,.int .i64 m.size] 28)):=(d14.block _ ZG13.out).trans RG13.out
 have ZG14:Hid (gG<y14.heap.size):=Nat.lt_of_lt_of_le ZG13.out d14.size
 have OW14:Hid (AGot y2.heap.size y3.heap.size y14 vw m):=OW13.out.keep (by have:=s1.out;have:=s2.out;have:=s3.out;have:=s4.out;have:=t4.out;have:=HGW.out;have:=s5.out;have:=HNX.out;have:=s6.out;have:=s7.out;have:=t7.out;have:=HGG.out;have:=s8.out;have:=s9.out;have:=s10.out;have:=s11.out;have:=s12.out;have:=s13.out;omega) d14
 have B14:Hid (Below w.heap.size w y14):=B13.out.trans (d14.mono B13.out.size)
 have s14:Hid (y13.heap.size<=y14.heap.size):=d14.size
 clear d14 RW13 ZW13 RG13 ZG13 OW13 B13
 have hk0:¬ K<0:=by have:=HK.out;omega
 go_wp2_with fail
 refine (toLineS_any a len cap xs y14 (HRow.out.keep B14.out) hln.out).mono ?_
 rintro e y15 ⟨rfl,l15,d15⟩
 have L15:Hid (LOwn y14.heap.size y15 (some ⟨y14.heap.size,0,none⟩) len xs):=l15
 clear l15
 have RW15:Hid (y15.heap[gW]?=some (.cells #[.slice vw.code.a vw.code.len vw.code.cap,.slice vw.data.a vw.data.len vw.data.cap,.int .i64 m.entry,.int .i64 m.size] 28)):=(d15.block _ ZW14.out).trans RW14.out
 have ZW15:Hid (gW<y15.heap.size):=Nat.lt_of_lt_of_le ZW14.out d15.size
 have RG15:Hid (y15.heap[gG]?=some (.cells #[.slice vg.code.a vg.code.len vg.code.cap,.slice vg.data.a vg.data.len vg.data.cap,.int .i64 m.entry,.int .i64 m.size] 28)):=(d15.block _ ZG14.out).trans RG14.out
 have ZG15:Hid (gG<y15.heap.size):=Nat.lt_of_lt_of_le ZG14.out d15.size
 have OW15:Hid (AGot y2.heap.size y3.heap.size y15 vw m):=OW14.out.keep (by have:=s1.out;have:=s2.out;have:=s3.out;have:=s4.out;have:=t4.out;have:=HGW.out;have:=s5.out;have:=HNX.out;have:=s6.out;have:=s7.out;have:=t7.out;have:=HGG.out;have:=s8.out;have:=s9.out;have:=s10.out;have:=s11.out;have:=s12.out;have:=s13.out;have:=s14.out;omega) d15
 have B15:Hid (Below w.heap.size w y15):=B14.out.trans (d15.mono B14.out.size)
 have s15:Hid (y14.heap.size<=y15.heap.size):=d15.size
 clear d15 RW14 ZW14 RG14 ZG14 OW14 B14
 go_wp2_with fail
 refine (IM.out _ _ len y15 L15.out.row).mono ?_
 intro e y16 h16
 obtain⟨vh,rfl,gh,d16⟩:=HGO.out y15 y16 e h16
 have OH16:Hid (AGot y15.heap.size y16.heap.size y16 vh m):=gh
 clear h16 gh L15 IM
 have RW16:Hid (y16.heap[gW]?=some (.cells #[.slice vw.code.a vw.code.len vw.code.cap,.slice vw.data.a vw.data.len vw.data.cap,.int .i64 m.entry,.int .i64 m.size] 28)):=(d16.block _ ZW15.out).trans RW15.out
 have ZW16:Hid (gW<y16.heap.size):=Nat.lt_of_lt_of_le ZW15.out d16.size
 have RG16:Hid (y16.heap[gG]?=some (.cells #[.slice vg.code.a vg.code.len vg.code.cap,.slice vg.data.a vg.data.len vg.data.cap,.int .i64 m.entry,.int .i64 m.size] 28)):=(d16.block _ ZG15.out).trans RG15.out
 have ZG16:Hid (gG<y16.heap.size):=Nat.lt_of_lt_of_le ZG15.out d16.size
 have OW16:Hid (AGot y2.heap.size y3.heap.size y16 vw m):=OW15.out.keep (by have:=s1.out;have:=s2.out;have:=s3.out;have:=s4.out;have:=t4.out;have:=HGW.out;have:=s5.out;have:=HNX.out;have:=s6.out;have:=s7.out;have:=t7.out;have:=HGG.out;have:=s8.out;have:=s9.out;have:=s10.out;have:=s11.out;have:=s12.out;have:=s13.out;have:=s14.out;have:=s15.out;omega) d16
 have B16:Hid (Below w.heap.size w y16):=B15.out.trans (d16.mono B15.out.size)
 have s16:Hid (y15.heap.size<=y16.heap.size):=d16.size
 clear d16 RW15 ZW15 RG15 ZG15 OW15 B15
 go_wp2_with (refine wpList_store_row rfl 28 _ _ rfl (y16.heap.size) #[.slice vh.code.a vh.code.len vh.code.cap,.slice vh.data.a vh.data.len vh.data.cap,.int .i64 m.entry,.int .i64 m.size] ?hx ?hy 28 #[.slice none 0 0,.slice none 0 0,.int .i64 0,.int .i64 0] ?hg ?hi ?ho ?h1 ?_; (case hx=>rfl); (case hy=>rfl); (case hg=>exact heap_alloc_new y16 _); (case hi=>kernel_rfl); (case ho=>kernel_rfl); (case h1=>kernel_rfl);refine Hid.out ?_)
 unfold Hid
 rw[World.setRow_alloc_new]
 refine wpList_at fun y17 hy17=>?_
 have d17:Below y16.heap.size y16 y17:=by rw[hy17];exact below_alloc y16 _
 have RH17:Hid (y17.heap[y16.heap.size]?=some (.cells #[.slice vh.code.a vh.code.len vh.code.cap,.slice vh.data.a vh.data.len vh.data.cap,.int .i64 m.entry,.int .i64 m.size] 28)):=by show y17.heap[y16.heap.size]?=_;rw[hy17];exact heap_alloc_new y16 _
 have ZH17:Hid (y16.heap.size<y17.heap.size):=by show y16.heap.size<y17.heap.size;rw[hy17];simp
 have t17:Hid (y16.heap.size<y17.heap.size):=ZH17.out
 clear hy17
 have RW17:Hid (y17.heap[gW]?=some (.cells #[.slice vw.code.a vw.code.len vw.code.cap,.slice vw.data.a vw.data.len vw.data.cap,.int .i64 m.entry,.int .i64 m.size] 28)):=(d17.block _ ZW16.out).trans RW16.out
 have ZW17:Hid (gW<y17.heap.size):=Nat.lt_of_lt_of_le ZW16.out d17.size
 have RG17:Hid (y17.heap[gG]?=some (.cells #[.slice vg.code.a vg.code.len vg.code.cap,.slice vg.data.a vg.data.len vg.data.cap,.int .i64 m.entry,.int .i64 m.size] 28)):=(d17.block _ ZG16.out).trans RG16.out
 have ZG17:Hid (gG<y17.heap.size):=Nat.lt_of_lt_of_le ZG16.out d17.size
 have OW17:Hid (AGot y2.heap.size y3.heap.size y17 vw m):=OW16.out.keep (by have:=s1.out;have:=s2.out;have:=s3.out;have:=s4.out;have:=t4.out;have:=HGW.out;have:=s5.out;have:=HNX.out;have:=s6.out;have:=s7.out;have:=t7.out;have:=HGG.out;have:=s8.out;have:=s9.out;have:=s10.out;have:=s11.out;have:=s12.out;have:=s13.out;have:=s14.out;have:=s15.out;have:=s16.out;omega) d17
 have OH17:Hid (AGot y15.heap.size y16.heap.size y17 vh m):=OH16.out.keep (by have:=s1.out;have:=s2.out;have:=s3.out;have:=s4.out;have:=t4.out;have:=HGW.out;have:=s5.out;have:=HNX.out;have:=s6.out;have:=s7.out;have:=t7.out;have:=HGG.out;have:=s8.out;have:=s9.out;have:=s10.out;have:=s11.out;have:=s12.out;have:=s13.out;have:=s14.out;have:=s15.out;have:=s16.out;omega) d17
 have B17:Hid (Below w.heap.size w y17):=B16.out.trans (d17.mono B16.out.size)
 have s17:Hid (y16.heap.size<=y17.heap.size):=d17.size
 clear d17 RW16 ZW16 RG16 ZG16 OW16 OH16 B16
 obtain⟨gH,hgH⟩:∃ g,g=y16.heap.size:=⟨_,rfl⟩
 rw[<- hgH]at RH17 ZH17 ⊢
 have HGH:Hid (gH=y16.heap.size):=hgH
 clear hgH
 go_wp2_with (first | (refine wpList_load_row rfl 28 _ rfl (gH) ?hx 28 #[.slice vh.code.a vh.code.len vh.code.cap,.slice vh.data.a vh.data.len vh.data.cap,.int .i64 m.entry,.int .i64 m.size] (0,0) _ ?hg Tryz.underlying28 ?hd ?hi ?_; (case hx=>rfl); (case hg=>exact RH17.out); (case hd=>rfl); (case hi=>kernel_rfl)) | (refine wpList_load_row rfl 28 _ rfl (gW) ?hx 28 #[.slice vw.code.a vw.code.len vw.code.cap,.slice vw.data.a vw.data.len vw.data.cap,.int .i64 m.entry,.int .i64 m.size] (0,0) _ ?hg Tryz.underlying28 ?hd ?hi ?_; (case hx=>rfl); (case hg=>exact RW17.out); (case hd=>rfl); (case hi=>kernel_rfl)))
 refine (eqImage_same vh vw m y17 OH17.out.is OW17.out.is).mono ?_
 rintro e y18 ⟨rfl,d18⟩
 have RW18:Hid (y18.heap[gW]?=some (.cells #[.slice vw.code.a vw.code.len vw.code.cap,.slice vw.data.a vw.data.len vw.data.cap,.int .i64 m.entry,.int .i64 m.size] 28)):=(d18.block _ ZW17.out).trans RW17.out
 have ZW18:Hid (gW<y18.heap.size):=Nat.lt_of_lt_of_le ZW17.out d18.size
 have RG18:Hid (y18.heap[gG]?=some (.cells #[.slice vg.code.a vg.code.len vg.code.cap,.slice vg.data.a vg.data.len vg.data.cap,.int .i64 m.entry,.int .i64 m.size] 28)):=(d18.block _ ZG17.out).trans RG17.out
 have ZG18:Hid (gG<y18.heap.size):=Nat.lt_of_lt_of_le ZG17.out d18.size
 have RH18:Hid (y18.heap[gH]?=some (.cells #[.slice vh.code.a vh.code.len vh.code.cap,.slice vh.data.a vh.data.len vh.data.cap,.int .i64 m.entry,.int .i64 m.size] 28)):=(d18.block _ ZH17.out).trans RH17.out
 have ZH18:Hid (gH<y18.heap.size):=Nat.lt_of_lt_of_le ZH17.out d18.size
 have OW18:Hid (AGot y2.heap.size y3.heap.size y18 vw m):=OW17.out.keep (by have:=s1.out;have:=s2.out;have:=s3.out;have:=s4.out;have:=t4.out;have:=HGW.out;have:=s5.out;have:=HNX.out;have:=s6.out;have:=s7.out;have:=t7.out;have:=HGG.out;have:=s8.out;have:=s9.out;have:=s10.out;have:=s11.out;have:=s12.out;have:=s13.out;have:=s14.out;have:=s15.out;have:=s16.out;have:=s17.out;have:=t17.out;have:=HGH.out;omega) d18
 have OH18:Hid (AGot y15.heap.size y16.heap.size y18 vh m):=OH17.out.keep (by have:=s1.out;have:=s2.out;have:=s3.out;have:=s4.out;have:=t4.out;have:=HGW.out;have:=s5.out;have:=HNX.out;have:=s6.out;have:=s7.out;have:=t7.out;have:=HGG.out;have:=s8.out;have:=s9.out;have:=s10.out;have:=s11.out;have:=s12.out;have:=s13.out;have:=s14.out;have:=s15.out;have:=s16.out;have:=s17.out;have:=t17.out;have:=HGH.out;omega) d18
 have B18:Hid (Below w.heap.size w y18):=B17.out.trans (d18.mono B17.out.size)
 have s18:Hid (y17.heap.size<=y18.heap.size):=d18.size
 clear d18 RW17 ZW17 RG17 ZG17 RH17 ZH17 OW17 OH17 B17
 go_wp2
 go_ret
 exact⟨rfl,B18.out⟩
end Go.Proofs.YtlbomnnldkeocaaGreat.W
