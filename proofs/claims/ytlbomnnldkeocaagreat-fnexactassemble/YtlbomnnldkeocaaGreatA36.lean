import Derived.Test.YtlbomnnldkeocaaGreatA34
import Derived.Test.YtlbomnnldkeocaaGreatA35
import Derived.Test.YtlbomnnldkeocaaGreatA02
import Derived.BigQuiet
import Derived.Test.YtlbomnnldkeocaaGreatA31
import Derived.Maps.Own
import Derived.Maps.Views
import Derived.StringKeys
set_option linter.unusedVariables false
set_option linter.unusedSimpArgs false
set_option maxHeartbeats 16000000
namespace Go.Proofs.YtlbomnnldkeocaaGreat.W
open Go.RowKit
set_option maxRecDepth 100000 in
theorem fil_13 {lo:Nat} (xs:List Pl.Ln) (F R g k:Nat) (a:Option Addr) (len cap:Nat) (la:Option Addr) (ll lc:Nat) (aa:Option Addr) (ac:Nat) (vc vd:Value) {c1 c2 c5 c8 c9 c10 c11 c12 c13 c14 c15 c16 c17 c18 c19 c20 c21 c22 c23 c24 c25 c26 c27 c28 c29 c30 c31 c32 c33 c34 c35 c36 c37 c38 c39 c40 c41 c42 c43 c44 c45 c46 c47 c48 c49 c50 c51 c52 c53 c54 c55 c56 c57 c58 c59 c60 c61 c62 c63 c64 c65 c66 c67 c68 c69 c70 c71 c72 c73 c74 c75 c76 c77 c78 c79 c80 c81 c82 c83 c84 c85 c86 c87 c88 c89 c90 c91 c92 c93 c94 c95 c96 c97 c98 c99 c100 c101 c102 c103 c104 c105 c106 c107 c108 c109 c110 c111 c112 c113 c114 c115 c116 c117 c118 c119 c120 c121 c122 c123 c124 c125 c126 c127 c128 c129 c130 c131 c132 c133 c134 c135 c136 c137 c138 c139 c140 c141 c142 c143 c144:Value} (w0 Y:World) (hE:FilE lo xs Y F R a len cap la ll lc aa ac) (hF:FilS w0 Y g vc vd (Pl.codeL ewI xs k) (Pl.dataL xs k)) (hK:∀ i,i<xs.length->LnK (Pl.gl xs i)) (hS:∀ i,i<xs.length->Pl.stray xs i=false) (hL:Pl.lost xs k=false) (hk:k<len) (hn:len<=20000) (hR:R<w0.heap.size) (hq:(Pl.gl xs k).k=13/\(Pl.gl xs k).s=⟨#[]⟩) {Q:Exit->Act->World->Prop}
  (hN:∀ (s5 s8 s9 s10 s11 s12 s13 s14 s15 s16 s26 s27 s28 s29 s30 s31 s32 s33 s34 s35 s36 s37 s38 s39 s40 s41 s42 s43 s44 s45 s46 s47 s48 s49 s50 s51 s52 s53 s54 s55 s56 s57 s58 s59 s60 s61 s62 s63 s64 s65 s66 s67 s68 s69 s70 s71 s72 s73 s74 s75 s76 s77 s78 s79 s80 s81 s82 s83 s84 s85 s86 s87 s88 s89 s90 s91 s92 s93 s94 s95 s96 s97 s98 s99 s100 s101 s102 s103 s104 s105 s106 s107 s108 s109 s110 s111 s112 s113 s114 s115 s116 s117 s118 s119 s120 s121 s122 s123 s124 s125 s126 s127 s128 s129 s130 s131 s132 s133 s134 s135 s136 s137 s138 s139 s140 s141 s142 s143:Value) (u:World) (vc' vd':Value),Pl.badJ xs k=false->FilS w0 u g vc' vd' (Pl.codeL ewI xs (k+1)) (Pl.dataL xs (k+1))->Q .normal { tmps:=#[.slice a len cap,c1,c2,.pointer (some ⟨F,0,none⟩),.pointer (some ⟨R,0,none⟩),s5,.pointer (some ⟨g,0,none⟩),.int .i64 (k:Nat),s8,s9,s10,s11,s12,s13,s14,s15,s16,c17,c18,c19,c20,c21,c22,c23,c24,c25,s26,s27,s28,s29,s30,s31,s32,s33,s34,s35,s36,s37,s38,s39,s40,s41,s42,s43,s44,s45,s46,s47,s48,s49,s50,s51,s52,s53,s54,s55,s56,s57,s58,s59,s60,s61,s62,s63,s64,s65,s66,s67,s68,s69,s70,s71,s72,s73,s74,s75,s76,s77,s78,s79,s80,s81,s82,s83,s84,s85,s86,s87,s88,s89,s90,s91,s92,s93,s94,s95,s96,s97,s98,s99,s100,s101,s102,s103,s104,s105,s106,s107,s108,s109,s110,s111,s112,s113,s114,s115,s116,s117,s118,s119,s120,s121,s122,s123,s124,s125,s126,s127,s128,s129,s130,s131,s132,s133,s134,s135,s136,s137,s138,s139,s140,s141,s142,s143,c144],defers:=[] } u)
  (hX:∀ (s8 s9 s10 s11 s12 s13 s14 s15 s16 s26 s27 s28 s29 s30 s31 s32 s33 s34 s35 s36 s37 s38 s39 s40 s41 s42 s43 s44 s45 s46 s47 s48 s49 s50 s51 s52 s53 s54 s55 s56 s57 s58 s59 s60 s61 s62 s63 s64 s65 s66 s67 s68 s69 s70 s71 s72 s73 s74 s75 s76 s77 s78 s79 s80 s81 s82 s83 s84 s85 s86 s87 s88 s89 s90 s91 s92 s93 s94 s95 s96 s97 s98 s99 s100 s101 s102 s103 s104 s105 s106 s107 s108 s109 s110 s111 s112 s113 s114 s115 s116 s117 s118 s119 s120 s121 s122 s123 s124 s125 s126 s127 s128 s129 s130 s131 s132 s133 s134 s135 s136 s137 s138 s139 s140 s141 s142 s143:Value) (u:World) (a9:Option Addr) (n9 y9:Nat) (b9:Option Addr) (m9 z9:Nat),Pl.badJ xs k=true->u.heap[R]?=some (.cells #[.slice a9 n9 y9,.slice b9 m9 z9,.int .i64 0,.int .i64 0] 28 (0,0))->Below R w0 u->Q .ret { tmps:=#[.slice a len cap,c1,c2,.pointer (some ⟨F,0,none⟩),.pointer (some ⟨R,0,none⟩),.int .i64 (k:Nat),.pointer (some ⟨g,0,none⟩),.int .i64 (k:Nat),s8,s9,s10,s11,s12,s13,s14,s15,s16,c17,c18,c19,c20,c21,c22,c23,c24,c25,s26,s27,s28,s29,s30,s31,s32,s33,s34,s35,s36,s37,s38,s39,s40,s41,s42,s43,s44,s45,s46,s47,s48,s49,s50,s51,s52,s53,s54,s55,s56,s57,s58,s59,s60,s61,s62,s63,s64,s65,s66,s67,s68,s69,s70,s71,s72,s73,s74,s75,s76,s77,s78,s79,s80,s81,s82,s83,s84,s85,s86,s87,s88,s89,s90,s91,s92,s93,s94,s95,s96,s97,s98,s99,s100,s101,s102,s103,s104,s105,s106,s107,s108,s109,s110,s111,s112,s113,s114,s115,s116,s117,s118,s119,s120,s121,s122,s123,s124,s125,s126,s127,s128,s129,s130,s131,s132,s133,s134,s135,s136,s137,s138,s139,s140,s141,s142,s143,c144],defers:=[] } u) :
  (filB 1).wp Tryz.prog Q { tmps:=#[.slice a len cap,c1,c2,.pointer (some ⟨F,0,none⟩),.pointer (some ⟨R,0,none⟩),c5,.pointer (some ⟨g,0,none⟩),.int .i64 (k:Nat),c8,c9,c10,c11,c12,c13,c14,c15,c16,c17,c18,c19,c20,c21,c22,c23,c24,c25,c26,c27,c28,c29,c30,c31,c32,c33,c34,c35,c36,c37,c38,c39,c40,c41,c42,c43,c44,c45,c46,c47,c48,c49,c50,c51,c52,c53,c54,c55,c56,c57,c58,c59,c60,c61,c62,c63,c64,c65,c66,c67,c68,c69,c70,c71,c72,c73,c74,c75,c76,c77,c78,c79,c80,c81,c82,c83,c84,c85,c86,c87,c88,c89,c90,c91,c92,c93,c94,c95,c96,c97,c98,c99,c100,c101,c102,c103,c104,c105,c106,c107,c108,c109,c110,c111,c112,c113,c114,c115,c116,c117,c118,c119,c120,c121,c122,c123,c124,c125,c126,c127,c128,c129,c130,c131,c132,c133,c134,c135,c136,c137,c138,c139,c140,c141,c142,c143,c144],defers:=[] } Y:=by
 have HNt:Hid (∀ (s5 s8 s9 s10 s11 s12 s13 s14 s15 s16 s26 s27 s28 s29 s30 s31 s32 s33 s34 s35 s36 s37 s38 s39 s40 s41 s42 s43 s44 s45 s46 s47 s48 s49 s50 s51 s52 s53 s54 s55 s56 s57 s58 s59 s60 s61 s62 s63 s64 s65 s66 s67 s68 s69 s70 s71 s72 s73 s74 s75 s76 s77 s78 s79 s80 s81 s82 s83 s84 s85 s86 s87 s88 s89 s90 s91 s92 s93 s94 s95 s96 s97 s98 s99 s100 s101 s102 s103 s104 s105 s106 s107 s108 s109 s110 s111 s112 s113 s114 s115 s116 s117 s118 s119 s120 s121 s122 s123 s124 s125 s126 s127 s128 s129 s130 s131 s132 s133 s134 s135 s136 s137 s138 s139 s140 s141 s142 s143:Value) (u:World) (vc' vd':Value),Pl.badJ xs k=false->FilS w0 u g vc' vd' (Pl.codeL ewI xs (k+1)) (Pl.dataL xs (k+1))->Q .normal { tmps:=#[.slice a len cap,c1,c2,.pointer (some ⟨F,0,none⟩),.pointer (some ⟨R,0,none⟩),s5,.pointer (some ⟨g,0,none⟩),.int .i64 (k:Nat),s8,s9,s10,s11,s12,s13,s14,s15,s16,c17,c18,c19,c20,c21,c22,c23,c24,c25,s26,s27,s28,s29,s30,s31,s32,s33,s34,s35,s36,s37,s38,s39,s40,s41,s42,s43,s44,s45,s46,s47,s48,s49,s50,s51,s52,s53,s54,s55,s56,s57,s58,s59,s60,s61,s62,s63,s64,s65,s66,s67,s68,s69,s70,s71,s72,s73,s74,s75,s76,s77,s78,s79,s80,s81,s82,s83,s84,s85,s86,s87,s88,s89,s90,s91,s92,s93,s94,s95,s96,s97,s98,s99,s100,s101,s102,s103,s104,s105,s106,s107,s108,s109,s110,s111,s112,s113,s114,s115,s116,s117,s118,s119,s120,s121,s122,s123,s124,s125,s126,s127,s128,s129,s130,s131,s132,s133,s134,s135,s136,s137,s138,s139,s140,s141,s142,s143,c144],defers:=[] } u):=hN
 have HXt:Hid (∀ (s8 s9 s10 s11 s12 s13 s14 s15 s16 s26 s27 s28 s29 s30 s31 s32 s33 s34 s35 s36 s37 s38 s39 s40 s41 s42 s43 s44 s45 s46 s47 s48 s49 s50 s51 s52 s53 s54 s55 s56 s57 s58 s59 s60 s61 s62 s63 s64 s65 s66 s67 s68 s69 s70 s71 s72 s73 s74 s75 s76 s77 s78 s79 s80 s81 s82 s83 s84 s85 s86 s87 s88 s89 s90 s91 s92 s93 s94 s95 s96 s97 s98 s99 s100 s101 s102 s103 s104 s105 s106 s107 s108 s109 s110 s111 s112 s113 s114 s115 s116 s117 s118 s119 s120 s121 s122 s123 s124 s125 s126 s127 s128 s129 s130 s131 s132 s133 s134 s135 s136 s137 s138 s139 s140 s141 s142 s143:Value) (u:World) (a9:Option Addr) (n9 y9:Nat) (b9:Option Addr) (m9 z9:Nat),Pl.badJ xs k=true->u.heap[R]?=some (.cells #[.slice a9 n9 y9,.slice b9 m9 z9,.int .i64 0,.int .i64 0] 28 (0,0))->Below R w0 u->Q .ret { tmps:=#[.slice a len cap,c1,c2,.pointer (some ⟨F,0,none⟩),.pointer (some ⟨R,0,none⟩),.int .i64 (k:Nat),.pointer (some ⟨g,0,none⟩),.int .i64 (k:Nat),s8,s9,s10,s11,s12,s13,s14,s15,s16,c17,c18,c19,c20,c21,c22,c23,c24,c25,s26,s27,s28,s29,s30,s31,s32,s33,s34,s35,s36,s37,s38,s39,s40,s41,s42,s43,s44,s45,s46,s47,s48,s49,s50,s51,s52,s53,s54,s55,s56,s57,s58,s59,s60,s61,s62,s63,s64,s65,s66,s67,s68,s69,s70,s71,s72,s73,s74,s75,s76,s77,s78,s79,s80,s81,s82,s83,s84,s85,s86,s87,s88,s89,s90,s91,s92,s93,s94,s95,s96,s97,s98,s99,s100,s101,s102,s103,s104,s105,s106,s107,s108,s109,s110,s111,s112,s113,s114,s115,s116,s117,s118,s119,s120,s121,s122,s123,s124,s125,s126,s127,s128,s129,s130,s131,s132,s133,s134,s135,s136,s137,s138,s139,s140,s141,s142,s143,c144],defers:=[] } u):=hX
 have HE:Hid (FilE lo xs Y F R a len cap la ll lc aa ac):=hE
 have hxl:xs.length=len:=hE.ln.len.1
 have HXL:Hid (xs.length=len):=hxl
 have hK1:=hK k (by omega)
 have HKn:Hid (LnK (Pl.gl xs k)):=hK1
 obtain⟨a6,y6,hv6⟩:=own_slice hF.od
 subst hv6
 have HF:Hid (FilS w0 Y g vc (.slice a6 (Pl.dataL xs k).length y6) (Pl.codeL ewI xs k) (Pl.dataL xs k)):=hF
 have HFB:Hid ((Pl.ins xs k).any (fun y=>!y.ok || (Pl.isJ (Pl.gl xs k).k && Pl.inD xs (Pl.gl xs k).s))=Pl.badJ xs k):=Pl.fill_bad xs k hK1.i
 have HIN:Hid (Pl.ins xs k=Pl.insA (Pl.gl xs k) (Pl.cu xs k).at (Pl.adr xs (Pl.gl xs k).s)):=rfl
 have hadr:=adr_bd hK (by omega) (Pl.gl xs k).s
 have hatb:=at_bd hK (by omega) (k:=k) (by omega)
 have HCS:Hid (Pl.codeL ewI xs (k+1)=Pl.codeL ewI xs k ++ (Pl.ins xs k).map ewI):=Pl.codeL_succ _ _ _
 have HDS:Hid (Pl.dataL xs (k+1)=Pl.dataL xs k ++ Pl.dat xs k):=Pl.dataL_succ _ _
 have hlen2:=Pl.laid_len ewI xs (fun i hi=>(hK i hi).b) hS k (by omega)
 have hcb:=Pl.cu_bd xs (fun i hi=>(hK i hi).b) k (by omega)
 have hcl:(Pl.codeL ewI xs k).length<=100000:=by omega
 have hdl:(Pl.dataL xs k).length<=1310720000:=by omega
 have HB0:Hid (((Pl.dataL xs k).length:Int)=(Pl.cu xs k).b):=hlen2.2
 have hg0:=hF.hg
 have hgY:g<Y.heap.size:=hF.lt
 have hs0:(Pl.gl xs k).s=⟨#[]⟩:=hq.2
 have ha0:Pl.adr xs (Pl.gl xs k).s=0/\Pl.inD xs (Pl.gl xs k).s=false:=by rw[hs0];exact adr_empty hK
 have se:(Pl.gl xs k).s.toList.isEmpty=true:=by rw[<- Pl.str_nil];simpa using hs0
 have HDD:Hid (Pl.dataL xs (k+1)=Pl.dataL xs k ++ Pl.bys (Pl.gl xs k).n (Pl.dsz (Pl.gl xs k) 0).toNat):=by show _=_;rw[HDS.out,Pl.dat_num xs k (by omega) hs0]
 have hz4:0<=Pl.dsz (Pl.gl xs k) 0/\Pl.dsz (Pl.gl xs k) 0<=4:=by unfold Pl.dsz;rcases (show (Pl.gl xs k).k=12\/(Pl.gl xs k).k=13\/(Pl.gl xs k).k=14 by omega) with e | e | e <;> simp[e]
 have HZT:Hid (((Pl.dsz (Pl.gl xs k) 0).toNat:Int)=Pl.dsz (Pl.gl xs k) 0):=by show _=_;omega
 have hxn:0<=(Pl.gl xs k).n/\(Pl.gl xs k).n<=4294967295:=by
  rcases (show (Pl.gl xs k).k=12\/(Pl.gl xs k).k=13\/(Pl.gl xs k).k=14 by omega) with e | e | e
  ·have:=hK1.n12 e;omega
  ·have:=hK1.n13 e;omega
  ·exact hK1.w14 e (by rw[hs0];rfl)
 have HIS:Hid (∀ u,InsSaid (Pl.gl xs k) (Pl.cu xs k).at (Pl.adr xs (Pl.gl xs k).s) u):=fun u=>l4Insts_is _ _ _ u hK1.b.k (by omega) (by omega) hK1.i.w4 (fun q=>by have:=hK1.far (.inl q);omega)
 have hat:=hE.ats hk
 obtain⟨ba,oa,haa,hba,cat⟩:=hat
 subst haa
 obtain⟨b0,off,haL,hlo,hb1,hsz,z0,z1,z2,z3,z4,z5,z6,z7⟩:=hE.ln.at k hk
 subst haL
 have hi:(k:Int)<(len:Int):=by omega
 have HLB:Hid (Pl.LnB (Pl.gl xs k)):=hK1.b
 have hf0:=hE.f0
 have hF0:F<Y.heap.size:=block_lt_of_cell hf0
 clear hE hF hN hX hK hS hL hK1 hlen2 hcb hsz
 conv=>arg 2;whnf
 dsimp only
 rw[ha0.2]at HFB
 rw[ha0.1]at HIN HIS
 generalize hx:Pl.gl xs k=x at *
 have HXE:Hid (Pl.gl xs k=x):=hx
 clear hx
 have hkk:x.k=13:=hq.1
 have HKK:Hid (x.k=13):=hkk
 rw[hkk]at z0
 clear hq hkk
 clear ha0 hs0
 go_upto_region 12 with fail
 have hrow:(Y.alloc (.cells #[.int .i64 13,.int .i64 x.op,.int .i64 x.rd,.int .i64 x.r1,.int .i64 x.r2,.int .i64 x.im,.string x.s,.int .i64 x.n] 51)).heap[Y.heap.size]?=some (.cells #[.int .i64 13,.int .i64 x.op,.int .i64 x.rd,.int .i64 x.r1,.int .i64 x.r2,.int .i64 x.im,.string x.s,.int .i64 x.n] 51 (0,0)):=heap_alloc_new Y _
 have HLN:Hid (∀ w1:World,w1.heap[Y.heap.size]?=some (.cells #[.int .i64 13,.int .i64 x.op,.int .i64 x.rd,.int .i64 x.r1,.int .i64 x.r2,.int .i64 x.im,.string x.s,.int .i64 x.n] 51 (0,0))->∀ j,w1.cell? ⟨Y.heap.size,j,none⟩=(#[.int .i64 13,.int .i64 x.op,.int .i64 x.rd,.int .i64 x.r1,.int .i64 x.r2,.int .i64 x.im,.string x.s,.int .i64 x.n]:Array Value)[j]?):=fun w1 hw1 j=>cell_of_row _ _ j _ 51 (0,0) hw1
 have HRW:Hid ((Y.alloc (.cells #[.int .i64 13,.int .i64 x.op,.int .i64 x.rd,.int .i64 x.r1,.int .i64 x.r2,.int .i64 x.im,.string x.s,.int .i64 x.n] 51)).heap[Y.heap.size]?=some (.cells #[.int .i64 13,.int .i64 x.op,.int .i64 x.rd,.int .i64 x.r1,.int .i64 x.r2,.int .i64 x.im,.string x.s,.int .i64 x.n] 51 (0,0))):=hrow
 refine fil12 F Y.heap.size k ba oa len ac x (Pl.cu xs k).at 0 (Y.alloc (.cells #[.int .i64 13,.int .i64 x.op,.int .i64 x.rd,.int .i64 x.r1,.int .i64 x.r2,.int .i64 x.im,.string x.s,.int .i64 x.n] 51)) (below_cell (below_alloc _ _) HE.out.f1) hk hn (below_cell (below_alloc _ _) cat) (by rw[HKK.out];exact HLN.out _ HRW.out 0) (HLN.out _ HRW.out 1) (HLN.out _ HRW.out 2) (HLN.out _ HRW.out 3) (HLN.out _ HRW.out 4) (HLN.out _ HRW.out 5) (HLN.out _ HRW.out 6) (HLN.out _ HRW.out 7) (HIS.out _) ?_
 intro ai ni ci w1 hI hw1
 have HI:Hid (InsRow (Y.alloc (.cells #[.int .i64 13,.int .i64 x.op,.int .i64 x.rd,.int .i64 x.r1,.int .i64 x.r2,.int .i64 x.im,.string x.s,.int .i64 x.n] 51)).heap.size w1 ai ni (Pl.insA x (Pl.cu xs k).at 0)):=hI
 have HW1:Hid (Below (Y.alloc (.cells #[.int .i64 13,.int .i64 x.op,.int .i64 x.rd,.int .i64 x.r1,.int .i64 x.r2,.int .i64 x.im,.string x.s,.int .i64 x.n] 51)).heap.size (Y.alloc (.cells #[.int .i64 13,.int .i64 x.op,.int .i64 x.rd,.int .i64 x.r1,.int .i64 x.r2,.int .i64 x.im,.string x.s,.int .i64 x.n] 51)) w1):=hw1
 have HR1:Hid (w1.heap[Y.heap.size]?=some (.cells #[.int .i64 13,.int .i64 x.op,.int .i64 x.rd,.int .i64 x.r1,.int .i64 x.r2,.int .i64 x.im,.string x.s,.int .i64 x.n] 51 (0,0))):=(hw1.block Y.heap.size (by simp)).trans hrow
 have HF1:Hid (FilS w0 w1 g vc (.slice a6 (Pl.dataL xs k).length y6) (Pl.codeL ewI xs k) (Pl.dataL xs k)):=(HF.out.keep (below_alloc _ _)).keep hw1
 have k0:=HLN.out _ HR1.out 0
 simp only[List.getElem?_toArray,List.getElem?_cons_zero]at k0
 clear hI hw1 hrow
 go_upto_block 2 with fail
 refine fil_loop k g R false true (Pl.insA x (Pl.cu xs k).at 0) ai ni ci vc _ (Pl.codeL ewI xs k) (Pl.dataL xs k) w0 w1 HF1.out HI.out ((HE.out.keep (Below.trans (below_alloc Y _) (HW1.out.mono (by simp)))).r) hR (by simp;omega) hcl ?N ?X
 case X=>
  intros
  rename_i hany hrw hbe
  refine HXt.out _ _ _ _ _ _ _ _ _ _ _ _ _ _ _ _ _ _ _ _ _ _ _ _ _ _ _ _ _ _ _ _ _ _ _ _ _ _ _ _ _ _ _ _ _ _ _ _ _ _ _ _ _ _ _ _ _ _ _ _ _ _ _ _ _ _ _ _ _ _ _ _ _ _ _ _ _ _ _ _ _ _ _ _ _ _ _ _ _ _ _ _ _ _ _ _ _ _ _ _ _ _ _ _ _ _ _ _ _ _ _ _ _ _ _ _ _ _ _ _ _ _ _ _ _ _ _ _ _ _ _ _ _ _ ?_ hrw hbe
  rw[<- HFB.out,HIN.out]
  simpa [Pl.isJ,HKK.out] using hany
 case N=>
  intro v5 v14 v15 v16 v71 v72 v73 v74 v75 v76 v77 v78 v79 v80 v81 v82 v83 v84 v85 v86 v87 v88 v89 v90 v91 v92 v93 v94 v95 v96 v97 v98 v99 v100 v101 u vc2 hany hs2 hby
  have HS2:Hid (FilS w0 u g vc2 (.slice a6 (Pl.dataL xs k).length y6) (Pl.codeL ewI xs (k+1)) (Pl.dataL xs k)):=by show FilS _ _ _ _ _ _ _;rw[HCS.out,HIN.out];exact hs2
  have HBJ:Hid (Pl.badJ xs k=false):=by
   show _=_
   rw[<- HFB.out,HIN.out]
   simpa [Pl.isJ,HKK.out] using hany
  have HR2:Hid (u.heap[Y.heap.size]?=some (.cells #[.int .i64 13,.int .i64 x.op,.int .i64 x.rd,.int .i64 x.r1,.int .i64 x.r2,.int .i64 x.im,.string x.s,.int .i64 x.n] 51 (0,0))):=hby.block _ _ (by omega) HR1.out (fun c q=>by injection q with _ q2 _;exact absurd q2 (by decide))
  have l0:=HLN.out _ HR2.out 0;have l6:=HLN.out _ HR2.out 6
  simp only[List.getElem?_toArray,List.getElem?_cons_zero,List.getElem?_cons_succ]at l0 l6
  clear hany hs2 hby k0
  go_upto_region 25 with fail
  refine fil25 g Y.heap.size ((Pl.dataL xs k) ++ Pl.bys x.n (Pl.dsz x 0).toNat).length _ x (Pl.dsz x 0) a6 y6 (DatA w0 ((Pl.dataL xs k) ++ Pl.bys x.n (Pl.dsz x 0).toNat)) u HS2.out.c1 (by rw[HKK.out];exact HLN.out _ HR2.out 0) (HLN.out _ HR2.out 1) (HLN.out _ HR2.out 2) (HLN.out _ HR2.out 3) (HLN.out _ HR2.out 4) (HLN.out _ HR2.out 5) (HLN.out _ HR2.out 6) (HLN.out _ HR2.out 7) (fun _ _ _ _ h1 h2=>DatA.old HS2.out h1 h2) (fun u3=>l4Count8_is x 0 HLB.out (by omega) u3) (fun u3 h3=>by have h5:=put_A (HS2.out.keep h3) x.n (Pl.dsz x 0).toNat (by omega) (by omega) (by omega);rw[HZT.out]at h5;exact h5) ?_
  intro a2 y2 u3 u4 h3 h4
  have HFN:Hid (FilS w0 (u4.setCell ⟨g,1,none⟩ (.slice a2 ((Pl.dataL xs k) ++ Pl.bys x.n (Pl.dsz x 0).toNat).length y2)) g vc2 (.slice a2 ((Pl.dataL xs k) ++ Pl.bys x.n (Pl.dsz x 0).toNat).length y2) (Pl.codeL ewI xs (k+1)) (Pl.dataL xs (k+1))):=by show FilS _ _ _ _ _ _ _;rw[HDD.out];exact DatA.fin HS2.out h3 h4
  clear h3 h4
  go_wp2_with fail
  have hfn:=HFN.out
  simp only[List.length_append]at hfn
  exact HNt.out _ _ _ _ _ _ _ _ _ _ _ _ _ _ _ _ _ _ _ _ _ _ _ _ _ _ _ _ _ _ _ _ _ _ _ _ _ _ _ _ _ _ _ _ _ _ _ _ _ _ _ _ _ _ _ _ _ _ _ _ _ _ _ _ _ _ _ _ _ _ _ _ _ _ _ _ _ _ _ _ _ _ _ _ _ _ _ _ _ _ _ _ _ _ _ _ _ _ _ _ _ _ _ _ _ _ _ _ _ _ _ _ _ _ _ _ _ _ _ _ _ _ _ _ _ _ _ _ _ _ _ HBJ.out hfn
set_option maxRecDepth 100000 in
theorem fil_14 {lo:Nat} (xs:List Pl.Ln) (F R g k:Nat) (a:Option Addr) (len cap:Nat) (la:Option Addr) (ll lc:Nat) (aa:Option Addr) (ac:Nat) (vc vd:Value) {c1 c2 c5 c8 c9 c10 c11 c12 c13 c14 c15 c16 c17 c18 c19 c20 c21 c22 c23 c24 c25 c26 c27 c28 c29 c30 c31 c32 c33 c34 c35 c36 c37 c38 c39 c40 c41 c42 c43 c44 c45 c46 c47 c48 c49 c50 c51 c52 c53 c54 c55 c56 c57 c58 c59 c60 c61 c62 c63 c64 c65 c66 c67 c68 c69 c70 c71 c72 c73 c74 c75 c76 c77 c78 c79 c80 c81 c82 c83 c84 c85 c86 c87 c88 c89 c90 c91 c92 c93 c94 c95 c96 c97 c98 c99 c100 c101 c102 c103 c104 c105 c106 c107 c108 c109 c110 c111 c112 c113 c114 c115 c116 c117 c118 c119 c120 c121 c122 c123 c124 c125 c126 c127 c128 c129 c130 c131 c132 c133 c134 c135 c136 c137 c138 c139 c140 c141 c142 c143 c144:Value} (w0 Y:World) (hE:FilE lo xs Y F R a len cap la ll lc aa ac) (hF:FilS w0 Y g vc vd (Pl.codeL ewI xs k) (Pl.dataL xs k)) (hK:∀ i,i<xs.length->LnK (Pl.gl xs i)) (hS:∀ i,i<xs.length->Pl.stray xs i=false) (hL:Pl.lost xs k=false) (hk:k<len) (hn:len<=20000) (hR:R<w0.heap.size) (hq:(Pl.gl xs k).k=14/\(Pl.gl xs k).s=⟨#[]⟩) {Q:Exit->Act->World->Prop}
  (hN:∀ (s5 s8 s9 s10 s11 s12 s13 s14 s15 s16 s26 s27 s28 s29 s30 s31 s32 s33 s34 s35 s36 s37 s38 s39 s40 s41 s42 s43 s44 s45 s46 s47 s48 s49 s50 s51 s52 s53 s54 s55 s56 s57 s58 s59 s60 s61 s62 s63 s64 s65 s66 s67 s68 s69 s70 s71 s72 s73 s74 s75 s76 s77 s78 s79 s80 s81 s82 s83 s84 s85 s86 s87 s88 s89 s90 s91 s92 s93 s94 s95 s96 s97 s98 s99 s100 s101 s102 s103 s104 s105 s106 s107 s108 s109 s110 s111 s112 s113 s114 s115 s116 s117 s118 s119 s120 s121 s122 s123 s124 s125 s126 s127 s128 s129 s130 s131 s132 s133 s134 s135 s136 s137 s138 s139 s140 s141 s142 s143:Value) (u:World) (vc' vd':Value),Pl.badJ xs k=false->FilS w0 u g vc' vd' (Pl.codeL ewI xs (k+1)) (Pl.dataL xs (k+1))->Q .normal { tmps:=#[.slice a len cap,c1,c2,.pointer (some ⟨F,0,none⟩),.pointer (some ⟨R,0,none⟩),s5,.pointer (some ⟨g,0,none⟩),.int .i64 (k:Nat),s8,s9,s10,s11,s12,s13,s14,s15,s16,c17,c18,c19,c20,c21,c22,c23,c24,c25,s26,s27,s28,s29,s30,s31,s32,s33,s34,s35,s36,s37,s38,s39,s40,s41,s42,s43,s44,s45,s46,s47,s48,s49,s50,s51,s52,s53,s54,s55,s56,s57,s58,s59,s60,s61,s62,s63,s64,s65,s66,s67,s68,s69,s70,s71,s72,s73,s74,s75,s76,s77,s78,s79,s80,s81,s82,s83,s84,s85,s86,s87,s88,s89,s90,s91,s92,s93,s94,s95,s96,s97,s98,s99,s100,s101,s102,s103,s104,s105,s106,s107,s108,s109,s110,s111,s112,s113,s114,s115,s116,s117,s118,s119,s120,s121,s122,s123,s124,s125,s126,s127,s128,s129,s130,s131,s132,s133,s134,s135,s136,s137,s138,s139,s140,s141,s142,s143,c144],defers:=[] } u)
  (hX:∀ (s8 s9 s10 s11 s12 s13 s14 s15 s16 s26 s27 s28 s29 s30 s31 s32 s33 s34 s35 s36 s37 s38 s39 s40 s41 s42 s43 s44 s45 s46 s47 s48 s49 s50 s51 s52 s53 s54 s55 s56 s57 s58 s59 s60 s61 s62 s63 s64 s65 s66 s67 s68 s69 s70 s71 s72 s73 s74 s75 s76 s77 s78 s79 s80 s81 s82 s83 s84 s85 s86 s87 s88 s89 s90 s91 s92 s93 s94 s95 s96 s97 s98 s99 s100 s101 s102 s103 s104 s105 s106 s107 s108 s109 s110 s111 s112 s113 s114 s115 s116 s117 s118 s119 s120 s121 s122 s123 s124 s125 s126 s127 s128 s129 s130 s131 s132 s133 s134 s135 s136 s137 s138 s139 s140 s141 s142 s143:Value) (u:World) (a9:Option Addr) (n9 y9:Nat) (b9:Option Addr) (m9 z9:Nat),Pl.badJ xs k=true->u.heap[R]?=some (.cells #[.slice a9 n9 y9,.slice b9 m9 z9,.int .i64 0,.int .i64 0] 28 (0,0))->Below R w0 u->Q .ret { tmps:=#[.slice a len cap,c1,c2,.pointer (some ⟨F,0,none⟩),.pointer (some ⟨R,0,none⟩),.int .i64 (k:Nat),.pointer (some ⟨g,0,none⟩),.int .i64 (k:Nat),s8,s9,s10,s11,s12,s13,s14,s15,s16,c17,c18,c19,c20,c21,c22,c23,c24,c25,s26,s27,s28,s29,s30,s31,s32,s33,s34,s35,s36,s37,s38,s39,s40,s41,s42,s43,s44,s45,s46,s47,s48,s49,s50,s51,s52,s53,s54,s55,s56,s57,s58,s59,s60,s61,s62,s63,s64,s65,s66,s67,s68,s69,s70,s71,s72,s73,s74,s75,s76,s77,s78,s79,s80,s81,s82,s83,s84,s85,s86,s87,s88,s89,s90,s91,s92,s93,s94,s95,s96,s97,s98,s99,s100,s101,s102,s103,s104,s105,s106,s107,s108,s109,s110,s111,s112,s113,s114,s115,s116,s117,s118,s119,s120,s121,s122,s123,s124,s125,s126,s127,s128,s129,s130,s131,s132,s133,s134,s135,s136,s137,s138,s139,s140,s141,s142,s143,c144],defers:=[] } u) :
  (filB 1).wp Tryz.prog Q { tmps:=#[.slice a len cap,c1,c2,.pointer (some ⟨F,0,none⟩),.pointer (some ⟨R,0,none⟩),c5,.pointer (some ⟨g,0,none⟩),.int .i64 (k:Nat),c8,c9,c10,c11,c12,c13,c14,c15,c16,c17,c18,c19,c20,c21,c22,c23,c24,c25,c26,c27,c28,c29,c30,c31,c32,c33,c34,c35,c36,c37,c38,c39,c40,c41,c42,c43,c44,c45,c46,c47,c48,c49,c50,c51,c52,c53,c54,c55,c56,c57,c58,c59,c60,c61,c62,c63,c64,c65,c66,c67,c68,c69,c70,c71,c72,c73,c74,c75,c76,c77,c78,c79,c80,c81,c82,c83,c84,c85,c86,c87,c88,c89,c90,c91,c92,c93,c94,c95,c96,c97,c98,c99,c100,c101,c102,c103,c104,c105,c106,c107,c108,c109,c110,c111,c112,c113,c114,c115,c116,c117,c118,c119,c120,c121,c122,c123,c124,c125,c126,c127,c128,c129,c130,c131,c132,c133,c134,c135,c136,c137,c138,c139,c140,c141,c142,c143,c144],defers:=[] } Y:=by
 have HNt:Hid (∀ (s5 s8 s9 s10 s11 s12 s13 s14 s15 s16 s26 s27 s28 s29 s30 s31 s32 s33 s34 s35 s36 s37 s38 s39 s40 s41 s42 s43 s44 s45 s46 s47 s48 s49 s50 s51 s52 s53 s54 s55 s56 s57 s58 s59 s60 s61 s62 s63 s64 s65 s66 s67 s68 s69 s70 s71 s72 s73 s74 s75 s76 s77 s78 s79 s80 s81 s82 s83 s84 s85 s86 s87 s88 s89 s90 s91 s92 s93 s94 s95 s96 s97 s98 s99 s100 s101 s102 s103 s104 s105 s106 s107 s108 s109 s110 s111 s112 s113 s114 s115 s116 s117 s118 s119 s120 s121 s122 s123 s124 s125 s126 s127 s128 s129 s130 s131 s132 s133 s134 s135 s136 s137 s138 s139 s140 s141 s142 s143:Value) (u:World) (vc' vd':Value),Pl.badJ xs k=false->FilS w0 u g vc' vd' (Pl.codeL ewI xs (k+1)) (Pl.dataL xs (k+1))->Q .normal { tmps:=#[.slice a len cap,c1,c2,.pointer (some ⟨F,0,none⟩),.pointer (some ⟨R,0,none⟩),s5,.pointer (some ⟨g,0,none⟩),.int .i64 (k:Nat),s8,s9,s10,s11,s12,s13,s14,s15,s16,c17,c18,c19,c20,c21,c22,c23,c24,c25,s26,s27,s28,s29,s30,s31,s32,s33,s34,s35,s36,s37,s38,s39,s40,s41,s42,s43,s44,s45,s46,s47,s48,s49,s50,s51,s52,s53,s54,s55,s56,s57,s58,s59,s60,s61,s62,s63,s64,s65,s66,s67,s68,s69,s70,s71,s72,s73,s74,s75,s76,s77,s78,s79,s80,s81,s82,s83,s84,s85,s86,s87,s88,s89,s90,s91,s92,s93,s94,s95,s96,s97,s98,s99,s100,s101,s102,s103,s104,s105,s106,s107,s108,s109,s110,s111,s112,s113,s114,s115,s116,s117,s118,s119,s120,s121,s122,s123,s124,s125,s126,s127,s128,s129,s130,s131,s132,s133,s134,s135,s136,s137,s138,s139,s140,s141,s142,s143,c144],defers:=[] } u):=hN
 have HXt:Hid (∀ (s8 s9 s10 s11 s12 s13 s14 s15 s16 s26 s27 s28 s29 s30 s31 s32 s33 s34 s35 s36 s37 s38 s39 s40 s41 s42 s43 s44 s45 s46 s47 s48 s49 s50 s51 s52 s53 s54 s55 s56 s57 s58 s59 s60 s61 s62 s63 s64 s65 s66 s67 s68 s69 s70 s71 s72 s73 s74 s75 s76 s77 s78 s79 s80 s81 s82 s83 s84 s85 s86 s87 s88 s89 s90 s91 s92 s93 s94 s95 s96 s97 s98 s99 s100 s101 s102 s103 s104 s105 s106 s107 s108 s109 s110 s111 s112 s113 s114 s115 s116 s117 s118 s119 s120 s121 s122 s123 s124 s125 s126 s127 s128 s129 s130 s131 s132 s133 s134 s135 s136 s137 s138 s139 s140 s141 s142 s143:Value) (u:World) (a9:Option Addr) (n9 y9:Nat) (b9:Option Addr) (m9 z9:Nat),Pl.badJ xs k=true->u.heap[R]?=some (.cells #[.slice a9 n9 y9,.slice b9 m9 z9,.int .i64 0,.int .i64 0] 28 (0,0))->Below R w0 u->Q .ret { tmps:=#[.slice a len cap,c1,c2,.pointer (some ⟨F,0,none⟩),.pointer (some ⟨R,0,none⟩),.int .i64 (k:Nat),.pointer (some ⟨g,0,none⟩),.int .i64 (k:Nat),s8,s9,s10,s11,s12,s13,s14,s15,s16,c17,c18,c19,c20,c21,c22,c23,c24,c25,s26,s27,s28,s29,s30,s31,s32,s33,s34,s35,s36,s37,s38,s39,s40,s41,s42,s43,s44,s45,s46,s47,s48,s49,s50,s51,s52,s53,s54,s55,s56,s57,s58,s59,s60,s61,s62,s63,s64,s65,s66,s67,s68,s69,s70,s71,s72,s73,s74,s75,s76,s77,s78,s79,s80,s81,s82,s83,s84,s85,s86,s87,s88,s89,s90,s91,s92,s93,s94,s95,s96,s97,s98,s99,s100,s101,s102,s103,s104,s105,s106,s107,s108,s109,s110,s111,s112,s113,s114,s115,s116,s117,s118,s119,s120,s121,s122,s123,s124,s125,s126,s127,s128,s129,s130,s131,s132,s133,s134,s135,s136,s137,s138,s139,s140,s141,s142,s143,c144],defers:=[] } u):=hX
 have HE:Hid (FilE lo xs Y F R a len cap la ll lc aa ac):=hE
 have hxl:xs.length=len:=hE.ln.len.1
 have HXL:Hid (xs.length=len):=hxl
 have hK1:=hK k (by omega)
 have HKn:Hid (LnK (Pl.gl xs k)):=hK1
 obtain⟨a6,y6,hv6⟩:=own_slice hF.od
 subst hv6
 have HF:Hid (FilS w0 Y g vc (.slice a6 (Pl.dataL xs k).length y6) (Pl.codeL ewI xs k) (Pl.dataL xs k)):=hF
 have HFB:Hid ((Pl.ins xs k).any (fun y=>!y.ok || (Pl.isJ (Pl.gl xs k).k && Pl.inD xs (Pl.gl xs k).s))=Pl.badJ xs k):=Pl.fill_bad xs k hK1.i
 have HIN:Hid (Pl.ins xs k=Pl.insA (Pl.gl xs k) (Pl.cu xs k).at (Pl.adr xs (Pl.gl xs k).s)):=rfl
 have hadr:=adr_bd hK (by omega) (Pl.gl xs k).s
 have hatb:=at_bd hK (by omega) (k:=k) (by omega)
 have HCS:Hid (Pl.codeL ewI xs (k+1)=Pl.codeL ewI xs k ++ (Pl.ins xs k).map ewI):=Pl.codeL_succ _ _ _
 have HDS:Hid (Pl.dataL xs (k+1)=Pl.dataL xs k ++ Pl.dat xs k):=Pl.dataL_succ _ _
 have hlen2:=Pl.laid_len ewI xs (fun i hi=>(hK i hi).b) hS k (by omega)
 have hcb:=Pl.cu_bd xs (fun i hi=>(hK i hi).b) k (by omega)
 have hcl:(Pl.codeL ewI xs k).length<=100000:=by omega
 have hdl:(Pl.dataL xs k).length<=1310720000:=by omega
 have HB0:Hid (((Pl.dataL xs k).length:Int)=(Pl.cu xs k).b):=hlen2.2
 have hg0:=hF.hg
 have hgY:g<Y.heap.size:=hF.lt
 have hs0:(Pl.gl xs k).s=⟨#[]⟩:=hq.2
 have ha0:Pl.adr xs (Pl.gl xs k).s=0/\Pl.inD xs (Pl.gl xs k).s=false:=by rw[hs0];exact adr_empty hK
 have se:(Pl.gl xs k).s.toList.isEmpty=true:=by rw[<- Pl.str_nil];simpa using hs0
 have HDD:Hid (Pl.dataL xs (k+1)=Pl.dataL xs k ++ Pl.bys (Pl.gl xs k).n (Pl.dsz (Pl.gl xs k) 0).toNat):=by show _=_;rw[HDS.out,Pl.dat_num xs k (by omega) hs0]
 have hz4:0<=Pl.dsz (Pl.gl xs k) 0/\Pl.dsz (Pl.gl xs k) 0<=4:=by unfold Pl.dsz;rcases (show (Pl.gl xs k).k=12\/(Pl.gl xs k).k=13\/(Pl.gl xs k).k=14 by omega) with e | e | e <;> simp[e]
 have HZT:Hid (((Pl.dsz (Pl.gl xs k) 0).toNat:Int)=Pl.dsz (Pl.gl xs k) 0):=by show _=_;omega
 have hxn:0<=(Pl.gl xs k).n/\(Pl.gl xs k).n<=4294967295:=by
  rcases (show (Pl.gl xs k).k=12\/(Pl.gl xs k).k=13\/(Pl.gl xs k).k=14 by omega) with e | e | e
  ·have:=hK1.n12 e;omega
  ·have:=hK1.n13 e;omega
  ·exact hK1.w14 e (by rw[hs0];rfl)
 have HIS:Hid (∀ u,InsSaid (Pl.gl xs k) (Pl.cu xs k).at (Pl.adr xs (Pl.gl xs k).s) u):=fun u=>l4Insts_is _ _ _ u hK1.b.k (by omega) (by omega) hK1.i.w4 (fun q=>by have:=hK1.far (.inl q);omega)
 have hat:=hE.ats hk
 obtain⟨ba,oa,haa,hba,cat⟩:=hat
 subst haa
 obtain⟨b0,off,haL,hlo,hb1,hsz,z0,z1,z2,z3,z4,z5,z6,z7⟩:=hE.ln.at k hk
 subst haL
 have hi:(k:Int)<(len:Int):=by omega
 have HLB:Hid (Pl.LnB (Pl.gl xs k)):=hK1.b
 have hf0:=hE.f0
 have hF0:F<Y.heap.size:=block_lt_of_cell hf0
 clear hE hF hN hX hK hS hL hK1 hlen2 hcb hsz
 conv=>arg 2;whnf
 dsimp only
 rw[ha0.2]at HFB
 rw[ha0.1]at HIN HIS
 generalize hx:Pl.gl xs k=x at *
 have HXE:Hid (Pl.gl xs k=x):=hx
 clear hx
 have hkk:x.k=14:=hq.1
 have HKK:Hid (x.k=14):=hkk
 rw[hkk]at z0
 clear hq hkk
 clear ha0 hs0
 go_upto_region 12 with fail
 have hrow:(Y.alloc (.cells #[.int .i64 14,.int .i64 x.op,.int .i64 x.rd,.int .i64 x.r1,.int .i64 x.r2,.int .i64 x.im,.string x.s,.int .i64 x.n] 51)).heap[Y.heap.size]?=some (.cells #[.int .i64 14,.int .i64 x.op,.int .i64 x.rd,.int .i64 x.r1,.int .i64 x.r2,.int .i64 x.im,.string x.s,.int .i64 x.n] 51 (0,0)):=heap_alloc_new Y _
 have HLN:Hid (∀ w1:World,w1.heap[Y.heap.size]?=some (.cells #[.int .i64 14,.int .i64 x.op,.int .i64 x.rd,.int .i64 x.r1,.int .i64 x.r2,.int .i64 x.im,.string x.s,.int .i64 x.n] 51 (0,0))->∀ j,w1.cell? ⟨Y.heap.size,j,none⟩=(#[.int .i64 14,.int .i64 x.op,.int .i64 x.rd,.int .i64 x.r1,.int .i64 x.r2,.int .i64 x.im,.string x.s,.int .i64 x.n]:Array Value)[j]?):=fun w1 hw1 j=>cell_of_row _ _ j _ 51 (0,0) hw1
 have HRW:Hid ((Y.alloc (.cells #[.int .i64 14,.int .i64 x.op,.int .i64 x.rd,.int .i64 x.r1,.int .i64 x.r2,.int .i64 x.im,.string x.s,.int .i64 x.n] 51)).heap[Y.heap.size]?=some (.cells #[.int .i64 14,.int .i64 x.op,.int .i64 x.rd,.int .i64 x.r1,.int .i64 x.r2,.int .i64 x.im,.string x.s,.int .i64 x.n] 51 (0,0))):=hrow
 refine fil12 F Y.heap.size k ba oa len ac x (Pl.cu xs k).at 0 (Y.alloc (.cells #[.int .i64 14,.int .i64 x.op,.int .i64 x.rd,.int .i64 x.r1,.int .i64 x.r2,.int .i64 x.im,.string x.s,.int .i64 x.n] 51)) (below_cell (below_alloc _ _) HE.out.f1) hk hn (below_cell (below_alloc _ _) cat) (by rw[HKK.out];exact HLN.out _ HRW.out 0) (HLN.out _ HRW.out 1) (HLN.out _ HRW.out 2) (HLN.out _ HRW.out 3) (HLN.out _ HRW.out 4) (HLN.out _ HRW.out 5) (HLN.out _ HRW.out 6) (HLN.out _ HRW.out 7) (HIS.out _) ?_
 intro ai ni ci w1 hI hw1
 have HI:Hid (InsRow (Y.alloc (.cells #[.int .i64 14,.int .i64 x.op,.int .i64 x.rd,.int .i64 x.r1,.int .i64 x.r2,.int .i64 x.im,.string x.s,.int .i64 x.n] 51)).heap.size w1 ai ni (Pl.insA x (Pl.cu xs k).at 0)):=hI
 have HW1:Hid (Below (Y.alloc (.cells #[.int .i64 14,.int .i64 x.op,.int .i64 x.rd,.int .i64 x.r1,.int .i64 x.r2,.int .i64 x.im,.string x.s,.int .i64 x.n] 51)).heap.size (Y.alloc (.cells #[.int .i64 14,.int .i64 x.op,.int .i64 x.rd,.int .i64 x.r1,.int .i64 x.r2,.int .i64 x.im,.string x.s,.int .i64 x.n] 51)) w1):=hw1
 have HR1:Hid (w1.heap[Y.heap.size]?=some (.cells #[.int .i64 14,.int .i64 x.op,.int .i64 x.rd,.int .i64 x.r1,.int .i64 x.r2,.int .i64 x.im,.string x.s,.int .i64 x.n] 51 (0,0))):=(hw1.block Y.heap.size (by simp)).trans hrow
 have HF1:Hid (FilS w0 w1 g vc (.slice a6 (Pl.dataL xs k).length y6) (Pl.codeL ewI xs k) (Pl.dataL xs k)):=(HF.out.keep (below_alloc _ _)).keep hw1
 have k0:=HLN.out _ HR1.out 0
 simp only[List.getElem?_toArray,List.getElem?_cons_zero]at k0
 clear hI hw1 hrow
 go_upto_block 2 with fail
 refine fil_loop k g R false true (Pl.insA x (Pl.cu xs k).at 0) ai ni ci vc _ (Pl.codeL ewI xs k) (Pl.dataL xs k) w0 w1 HF1.out HI.out ((HE.out.keep (Below.trans (below_alloc Y _) (HW1.out.mono (by simp)))).r) hR (by simp;omega) hcl ?N ?X
 case X=>
  intros
  rename_i hany hrw hbe
  refine HXt.out _ _ _ _ _ _ _ _ _ _ _ _ _ _ _ _ _ _ _ _ _ _ _ _ _ _ _ _ _ _ _ _ _ _ _ _ _ _ _ _ _ _ _ _ _ _ _ _ _ _ _ _ _ _ _ _ _ _ _ _ _ _ _ _ _ _ _ _ _ _ _ _ _ _ _ _ _ _ _ _ _ _ _ _ _ _ _ _ _ _ _ _ _ _ _ _ _ _ _ _ _ _ _ _ _ _ _ _ _ _ _ _ _ _ _ _ _ _ _ _ _ _ _ _ _ _ _ _ _ _ _ _ _ _ ?_ hrw hbe
  rw[<- HFB.out,HIN.out]
  simpa [Pl.isJ,HKK.out] using hany
 case N=>
  intro v5 v14 v15 v16 v71 v72 v73 v74 v75 v76 v77 v78 v79 v80 v81 v82 v83 v84 v85 v86 v87 v88 v89 v90 v91 v92 v93 v94 v95 v96 v97 v98 v99 v100 v101 u vc2 hany hs2 hby
  have HS2:Hid (FilS w0 u g vc2 (.slice a6 (Pl.dataL xs k).length y6) (Pl.codeL ewI xs (k+1)) (Pl.dataL xs k)):=by show FilS _ _ _ _ _ _ _;rw[HCS.out,HIN.out];exact hs2
  have HBJ:Hid (Pl.badJ xs k=false):=by
   show _=_
   rw[<- HFB.out,HIN.out]
   simpa [Pl.isJ,HKK.out] using hany
  have HR2:Hid (u.heap[Y.heap.size]?=some (.cells #[.int .i64 14,.int .i64 x.op,.int .i64 x.rd,.int .i64 x.r1,.int .i64 x.r2,.int .i64 x.im,.string x.s,.int .i64 x.n] 51 (0,0))):=hby.block _ _ (by omega) HR1.out (fun c q=>by injection q with _ q2 _;exact absurd q2 (by decide))
  have l0:=HLN.out _ HR2.out 0;have l6:=HLN.out _ HR2.out 6
  simp only[List.getElem?_toArray,List.getElem?_cons_zero,List.getElem?_cons_succ]at l0 l6
  clear hany hs2 hby k0
  go_upto_region 25 with fail
  refine fil25 g Y.heap.size ((Pl.dataL xs k) ++ Pl.bys x.n (Pl.dsz x 0).toNat).length _ x (Pl.dsz x 0) a6 y6 (DatA w0 ((Pl.dataL xs k) ++ Pl.bys x.n (Pl.dsz x 0).toNat)) u HS2.out.c1 (by rw[HKK.out];exact HLN.out _ HR2.out 0) (HLN.out _ HR2.out 1) (HLN.out _ HR2.out 2) (HLN.out _ HR2.out 3) (HLN.out _ HR2.out 4) (HLN.out _ HR2.out 5) (HLN.out _ HR2.out 6) (HLN.out _ HR2.out 7) (fun _ _ _ _ h1 h2=>DatA.old HS2.out h1 h2) (fun u3=>l4Count8_is x 0 HLB.out (by omega) u3) (fun u3 h3=>by have h5:=put_A (HS2.out.keep h3) x.n (Pl.dsz x 0).toNat (by omega) (by omega) (by omega);rw[HZT.out]at h5;exact h5) ?_
  intro a2 y2 u3 u4 h3 h4
  have HFN:Hid (FilS w0 (u4.setCell ⟨g,1,none⟩ (.slice a2 ((Pl.dataL xs k) ++ Pl.bys x.n (Pl.dsz x 0).toNat).length y2)) g vc2 (.slice a2 ((Pl.dataL xs k) ++ Pl.bys x.n (Pl.dsz x 0).toNat).length y2) (Pl.codeL ewI xs (k+1)) (Pl.dataL xs (k+1))):=by show FilS _ _ _ _ _ _ _;rw[HDD.out];exact DatA.fin HS2.out h3 h4
  clear h3 h4
  go_wp2_with fail
  have hfn:=HFN.out
  simp only[List.length_append]at hfn
  exact HNt.out _ _ _ _ _ _ _ _ _ _ _ _ _ _ _ _ _ _ _ _ _ _ _ _ _ _ _ _ _ _ _ _ _ _ _ _ _ _ _ _ _ _ _ _ _ _ _ _ _ _ _ _ _ _ _ _ _ _ _ _ _ _ _ _ _ _ _ _ _ _ _ _ _ _ _ _ _ _ _ _ _ _ _ _ _ _ _ _ _ _ _ _ _ _ _ _ _ _ _ _ _ _ _ _ _ _ _ _ _ _ _ _ _ _ _ _ _ _ _ _ _ _ _ _ _ _ _ _ _ _ _ HBJ.out hfn
set_option maxRecDepth 100000 in
theorem fil_15 {lo:Nat} (xs:List Pl.Ln) (F R g k:Nat) (a:Option Addr) (len cap:Nat) (la:Option Addr) (ll lc:Nat) (aa:Option Addr) (ac:Nat) (vc vd:Value) {c1 c2 c5 c8 c9 c10 c11 c12 c13 c14 c15 c16 c17 c18 c19 c20 c21 c22 c23 c24 c25 c26 c27 c28 c29 c30 c31 c32 c33 c34 c35 c36 c37 c38 c39 c40 c41 c42 c43 c44 c45 c46 c47 c48 c49 c50 c51 c52 c53 c54 c55 c56 c57 c58 c59 c60 c61 c62 c63 c64 c65 c66 c67 c68 c69 c70 c71 c72 c73 c74 c75 c76 c77 c78 c79 c80 c81 c82 c83 c84 c85 c86 c87 c88 c89 c90 c91 c92 c93 c94 c95 c96 c97 c98 c99 c100 c101 c102 c103 c104 c105 c106 c107 c108 c109 c110 c111 c112 c113 c114 c115 c116 c117 c118 c119 c120 c121 c122 c123 c124 c125 c126 c127 c128 c129 c130 c131 c132 c133 c134 c135 c136 c137 c138 c139 c140 c141 c142 c143 c144:Value} (w0 Y:World) (hE:FilE lo xs Y F R a len cap la ll lc aa ac) (hF:FilS w0 Y g vc vd (Pl.codeL ewI xs k) (Pl.dataL xs k)) (hK:∀ i,i<xs.length->LnK (Pl.gl xs i)) (hS:∀ i,i<xs.length->Pl.stray xs i=false) (hL:Pl.lost xs k=false) (hk:k<len) (hn:len<=20000) (hR:R<w0.heap.size) (hq:(Pl.gl xs k).k=15) {Q:Exit->Act->World->Prop}
  (hN:∀ (s5 s8 s9 s10 s11 s12 s13 s14 s15 s16 s26 s27 s28 s29 s30 s31 s32 s33 s34 s35 s36 s37 s38 s39 s40 s41 s42 s43 s44 s45 s46 s47 s48 s49 s50 s51 s52 s53 s54 s55 s56 s57 s58 s59 s60 s61 s62 s63 s64 s65 s66 s67 s68 s69 s70 s71 s72 s73 s74 s75 s76 s77 s78 s79 s80 s81 s82 s83 s84 s85 s86 s87 s88 s89 s90 s91 s92 s93 s94 s95 s96 s97 s98 s99 s100 s101 s102 s103 s104 s105 s106 s107 s108 s109 s110 s111 s112 s113 s114 s115 s116 s117 s118 s119 s120 s121 s122 s123 s124 s125 s126 s127 s128 s129 s130 s131 s132 s133 s134 s135 s136 s137 s138 s139 s140 s141 s142 s143:Value) (u:World) (vc' vd':Value),Pl.badJ xs k=false->FilS w0 u g vc' vd' (Pl.codeL ewI xs (k+1)) (Pl.dataL xs (k+1))->Q .normal { tmps:=#[.slice a len cap,c1,c2,.pointer (some ⟨F,0,none⟩),.pointer (some ⟨R,0,none⟩),s5,.pointer (some ⟨g,0,none⟩),.int .i64 (k:Nat),s8,s9,s10,s11,s12,s13,s14,s15,s16,c17,c18,c19,c20,c21,c22,c23,c24,c25,s26,s27,s28,s29,s30,s31,s32,s33,s34,s35,s36,s37,s38,s39,s40,s41,s42,s43,s44,s45,s46,s47,s48,s49,s50,s51,s52,s53,s54,s55,s56,s57,s58,s59,s60,s61,s62,s63,s64,s65,s66,s67,s68,s69,s70,s71,s72,s73,s74,s75,s76,s77,s78,s79,s80,s81,s82,s83,s84,s85,s86,s87,s88,s89,s90,s91,s92,s93,s94,s95,s96,s97,s98,s99,s100,s101,s102,s103,s104,s105,s106,s107,s108,s109,s110,s111,s112,s113,s114,s115,s116,s117,s118,s119,s120,s121,s122,s123,s124,s125,s126,s127,s128,s129,s130,s131,s132,s133,s134,s135,s136,s137,s138,s139,s140,s141,s142,s143,c144],defers:=[] } u)
  (hX:∀ (s8 s9 s10 s11 s12 s13 s14 s15 s16 s26 s27 s28 s29 s30 s31 s32 s33 s34 s35 s36 s37 s38 s39 s40 s41 s42 s43 s44 s45 s46 s47 s48 s49 s50 s51 s52 s53 s54 s55 s56 s57 s58 s59 s60 s61 s62 s63 s64 s65 s66 s67 s68 s69 s70 s71 s72 s73 s74 s75 s76 s77 s78 s79 s80 s81 s82 s83 s84 s85 s86 s87 s88 s89 s90 s91 s92 s93 s94 s95 s96 s97 s98 s99 s100 s101 s102 s103 s104 s105 s106 s107 s108 s109 s110 s111 s112 s113 s114 s115 s116 s117 s118 s119 s120 s121 s122 s123 s124 s125 s126 s127 s128 s129 s130 s131 s132 s133 s134 s135 s136 s137 s138 s139 s140 s141 s142 s143:Value) (u:World) (a9:Option Addr) (n9 y9:Nat) (b9:Option Addr) (m9 z9:Nat),Pl.badJ xs k=true->u.heap[R]?=some (.cells #[.slice a9 n9 y9,.slice b9 m9 z9,.int .i64 0,.int .i64 0] 28 (0,0))->Below R w0 u->Q .ret { tmps:=#[.slice a len cap,c1,c2,.pointer (some ⟨F,0,none⟩),.pointer (some ⟨R,0,none⟩),.int .i64 (k:Nat),.pointer (some ⟨g,0,none⟩),.int .i64 (k:Nat),s8,s9,s10,s11,s12,s13,s14,s15,s16,c17,c18,c19,c20,c21,c22,c23,c24,c25,s26,s27,s28,s29,s30,s31,s32,s33,s34,s35,s36,s37,s38,s39,s40,s41,s42,s43,s44,s45,s46,s47,s48,s49,s50,s51,s52,s53,s54,s55,s56,s57,s58,s59,s60,s61,s62,s63,s64,s65,s66,s67,s68,s69,s70,s71,s72,s73,s74,s75,s76,s77,s78,s79,s80,s81,s82,s83,s84,s85,s86,s87,s88,s89,s90,s91,s92,s93,s94,s95,s96,s97,s98,s99,s100,s101,s102,s103,s104,s105,s106,s107,s108,s109,s110,s111,s112,s113,s114,s115,s116,s117,s118,s119,s120,s121,s122,s123,s124,s125,s126,s127,s128,s129,s130,s131,s132,s133,s134,s135,s136,s137,s138,s139,s140,s141,s142,s143,c144],defers:=[] } u) :
  (filB 1).wp Tryz.prog Q { tmps:=#[.slice a len cap,c1,c2,.pointer (some ⟨F,0,none⟩),.pointer (some ⟨R,0,none⟩),c5,.pointer (some ⟨g,0,none⟩),.int .i64 (k:Nat),c8,c9,c10,c11,c12,c13,c14,c15,c16,c17,c18,c19,c20,c21,c22,c23,c24,c25,c26,c27,c28,c29,c30,c31,c32,c33,c34,c35,c36,c37,c38,c39,c40,c41,c42,c43,c44,c45,c46,c47,c48,c49,c50,c51,c52,c53,c54,c55,c56,c57,c58,c59,c60,c61,c62,c63,c64,c65,c66,c67,c68,c69,c70,c71,c72,c73,c74,c75,c76,c77,c78,c79,c80,c81,c82,c83,c84,c85,c86,c87,c88,c89,c90,c91,c92,c93,c94,c95,c96,c97,c98,c99,c100,c101,c102,c103,c104,c105,c106,c107,c108,c109,c110,c111,c112,c113,c114,c115,c116,c117,c118,c119,c120,c121,c122,c123,c124,c125,c126,c127,c128,c129,c130,c131,c132,c133,c134,c135,c136,c137,c138,c139,c140,c141,c142,c143,c144],defers:=[] } Y:=by
 have HNt:Hid (∀ (s5 s8 s9 s10 s11 s12 s13 s14 s15 s16 s26 s27 s28 s29 s30 s31 s32 s33 s34 s35 s36 s37 s38 s39 s40 s41 s42 s43 s44 s45 s46 s47 s48 s49 s50 s51 s52 s53 s54 s55 s56 s57 s58 s59 s60 s61 s62 s63 s64 s65 s66 s67 s68 s69 s70 s71 s72 s73 s74 s75 s76 s77 s78 s79 s80 s81 s82 s83 s84 s85 s86 s87 s88 s89 s90 s91 s92 s93 s94 s95 s96 s97 s98 s99 s100 s101 s102 s103 s104 s105 s106 s107 s108 s109 s110 s111 s112 s113 s114 s115 s116 s117 s118 s119 s120 s121 s122 s123 s124 s125 s126 s127 s128 s129 s130 s131 s132 s133 s134 s135 s136 s137 s138 s139 s140 s141 s142 s143:Value) (u:World) (vc' vd':Value),Pl.badJ xs k=false->FilS w0 u g vc' vd' (Pl.codeL ewI xs (k+1)) (Pl.dataL xs (k+1))->Q .normal { tmps:=#[.slice a len cap,c1,c2,.pointer (some ⟨F,0,none⟩),.pointer (some ⟨R,0,none⟩),s5,.pointer (some ⟨g,0,none⟩),.int .i64 (k:Nat),s8,s9,s10,s11,s12,s13,s14,s15,s16,c17,c18,c19,c20,c21,c22,c23,c24,c25,s26,s27,s28,s29,s30,s31,s32,s33,s34,s35,s36,s37,s38,s39,s40,s41,s42,s43,s44,s45,s46,s47,s48,s49,s50,s51,s52,s53,s54,s55,s56,s57,s58,s59,s60,s61,s62,s63,s64,s65,s66,s67,s68,s69,s70,s71,s72,s73,s74,s75,s76,s77,s78,s79,s80,s81,s82,s83,s84,s85,s86,s87,s88,s89,s90,s91,s92,s93,s94,s95,s96,s97,s98,s99,s100,s101,s102,s103,s104,s105,s106,s107,s108,s109,s110,s111,s112,s113,s114,s115,s116,s117,s118,s119,s120,s121,s122,s123,s124,s125,s126,s127,s128,s129,s130,s131,s132,s133,s134,s135,s136,s137,s138,s139,s140,s141,s142,s143,c144],defers:=[] } u):=hN
 have HXt:Hid (∀ (s8 s9 s10 s11 s12 s13 s14 s15 s16 s26 s27 s28 s29 s30 s31 s32 s33 s34 s35 s36 s37 s38 s39 s40 s41 s42 s43 s44 s45 s46 s47 s48 s49 s50 s51 s52 s53 s54 s55 s56 s57 s58 s59 s60 s61 s62 s63 s64 s65 s66 s67 s68 s69 s70 s71 s72 s73 s74 s75 s76 s77 s78 s79 s80 s81 s82 s83 s84 s85 s86 s87 s88 s89 s90 s91 s92 s93 s94 s95 s96 s97 s98 s99 s100 s101 s102 s103 s104 s105 s106 s107 s108 s109 s110 s111 s112 s113 s114 s115 s116 s117 s118 s119 s120 s121 s122 s123 s124 s125 s126 s127 s128 s129 s130 s131 s132 s133 s134 s135 s136 s137 s138 s139 s140 s141 s142 s143:Value) (u:World) (a9:Option Addr) (n9 y9:Nat) (b9:Option Addr) (m9 z9:Nat),Pl.badJ xs k=true->u.heap[R]?=some (.cells #[.slice a9 n9 y9,.slice b9 m9 z9,.int .i64 0,.int .i64 0] 28 (0,0))->Below R w0 u->Q .ret { tmps:=#[.slice a len cap,c1,c2,.pointer (some ⟨F,0,none⟩),.pointer (some ⟨R,0,none⟩),.int .i64 (k:Nat),.pointer (some ⟨g,0,none⟩),.int .i64 (k:Nat),s8,s9,s10,s11,s12,s13,s14,s15,s16,c17,c18,c19,c20,c21,c22,c23,c24,c25,s26,s27,s28,s29,s30,s31,s32,s33,s34,s35,s36,s37,s38,s39,s40,s41,s42,s43,s44,s45,s46,s47,s48,s49,s50,s51,s52,s53,s54,s55,s56,s57,s58,s59,s60,s61,s62,s63,s64,s65,s66,s67,s68,s69,s70,s71,s72,s73,s74,s75,s76,s77,s78,s79,s80,s81,s82,s83,s84,s85,s86,s87,s88,s89,s90,s91,s92,s93,s94,s95,s96,s97,s98,s99,s100,s101,s102,s103,s104,s105,s106,s107,s108,s109,s110,s111,s112,s113,s114,s115,s116,s117,s118,s119,s120,s121,s122,s123,s124,s125,s126,s127,s128,s129,s130,s131,s132,s133,s134,s135,s136,s137,s138,s139,s140,s141,s142,s143,c144],defers:=[] } u):=hX
 have HE:Hid (FilE lo xs Y F R a len cap la ll lc aa ac):=hE
 have hxl:xs.length=len:=hE.ln.len.1
 have HXL:Hid (xs.length=len):=hxl
 have hK1:=hK k (by omega)
 have HKn:Hid (LnK (Pl.gl xs k)):=hK1
 obtain⟨a6,y6,hv6⟩:=own_slice hF.od
 subst hv6
 have HF:Hid (FilS w0 Y g vc (.slice a6 (Pl.dataL xs k).length y6) (Pl.codeL ewI xs k) (Pl.dataL xs k)):=hF
 have HFB:Hid ((Pl.ins xs k).any (fun y=>!y.ok || (Pl.isJ (Pl.gl xs k).k && Pl.inD xs (Pl.gl xs k).s))=Pl.badJ xs k):=Pl.fill_bad xs k hK1.i
 have HIN:Hid (Pl.ins xs k=Pl.insA (Pl.gl xs k) (Pl.cu xs k).at (Pl.adr xs (Pl.gl xs k).s)):=rfl
 have hadr:=adr_bd hK (by omega) (Pl.gl xs k).s
 have hatb:=at_bd hK (by omega) (k:=k) (by omega)
 have HCS:Hid (Pl.codeL ewI xs (k+1)=Pl.codeL ewI xs k ++ (Pl.ins xs k).map ewI):=Pl.codeL_succ _ _ _
 have HDS:Hid (Pl.dataL xs (k+1)=Pl.dataL xs k ++ Pl.dat xs k):=Pl.dataL_succ _ _
 have hlen2:=Pl.laid_len ewI xs (fun i hi=>(hK i hi).b) hS k (by omega)
 have hcb:=Pl.cu_bd xs (fun i hi=>(hK i hi).b) k (by omega)
 have hcl:(Pl.codeL ewI xs k).length<=100000:=by omega
 have hdl:(Pl.dataL xs k).length<=1310720000:=by omega
 have HB0:Hid (((Pl.dataL xs k).length:Int)=(Pl.cu xs k).b):=hlen2.2
 have hg0:=hF.hg
 have hgY:g<Y.heap.size:=hF.lt
 have hs0:(Pl.gl xs k).s=⟨#[]⟩:=size_nil (hK1.nos (by omega) (by omega) (by omega) (by omega) (by omega) (by omega))
 have ha0:Pl.adr xs (Pl.gl xs k).s=0/\Pl.inD xs (Pl.gl xs k).s=false:=by rw[hs0];exact adr_empty hK
 have se:(Pl.gl xs k).s.toList.isEmpty=true:=by rw[<- Pl.str_nil];simpa using hs0
 have HDD:Hid (Pl.dataL xs (k+1)=Pl.dataL xs k ++ List.replicate (Pl.dsz (Pl.gl xs k) (Pl.cu xs k).b).toNat 0):=by show _=_;rw[HDS.out,Pl.dat_zero xs k (by omega)]
 have hz4:=Pl.dsz_bd hK1.b (Pl.cu xs k).b hcb.2.1
 have hcb2:0<=(Pl.cu xs k).b/\(Pl.cu xs k).b<=1310720000:=by omega
 have HZT:Hid (((Pl.dsz (Pl.gl xs k) (Pl.cu xs k).b).toNat:Int)=Pl.dsz (Pl.gl xs k) (Pl.cu xs k).b):=by show _=_;omega
 have HIS:Hid (∀ u,InsSaid (Pl.gl xs k) (Pl.cu xs k).at (Pl.adr xs (Pl.gl xs k).s) u):=fun u=>l4Insts_is _ _ _ u hK1.b.k (by omega) (by omega) hK1.i.w4 (fun q=>by have:=hK1.far (.inl q);omega)
 have hat:=hE.ats hk
 obtain⟨ba,oa,haa,hba,cat⟩:=hat
 subst haa
 obtain⟨b0,off,haL,hlo,hb1,hsz,z0,z1,z2,z3,z4,z5,z6,z7⟩:=hE.ln.at k hk
 subst haL
 have hi:(k:Int)<(len:Int):=by omega
 have HLB:Hid (Pl.LnB (Pl.gl xs k)):=hK1.b
 have hf0:=hE.f0
 have hF0:F<Y.heap.size:=block_lt_of_cell hf0
 clear hE hF hN hX hK hS hL hK1 hlen2 hcb hsz
 conv=>arg 2;whnf
 dsimp only
 rw[ha0.2]at HFB
 rw[ha0.1]at HIN HIS
 generalize hx:Pl.gl xs k=x at *
 have HXE:Hid (Pl.gl xs k=x):=hx
 clear hx
 have hkk:x.k=15:=hq
 have HKK:Hid (x.k=15):=hkk
 rw[hkk]at z0
 clear hq hkk
 clear ha0 hs0
 go_upto_region 12 with fail
 have hrow:(Y.alloc (.cells #[.int .i64 15,.int .i64 x.op,.int .i64 x.rd,.int .i64 x.r1,.int .i64 x.r2,.int .i64 x.im,.string x.s,.int .i64 x.n] 51)).heap[Y.heap.size]?=some (.cells #[.int .i64 15,.int .i64 x.op,.int .i64 x.rd,.int .i64 x.r1,.int .i64 x.r2,.int .i64 x.im,.string x.s,.int .i64 x.n] 51 (0,0)):=heap_alloc_new Y _
 have HLN:Hid (∀ w1:World,w1.heap[Y.heap.size]?=some (.cells #[.int .i64 15,.int .i64 x.op,.int .i64 x.rd,.int .i64 x.r1,.int .i64 x.r2,.int .i64 x.im,.string x.s,.int .i64 x.n] 51 (0,0))->∀ j,w1.cell? ⟨Y.heap.size,j,none⟩=(#[.int .i64 15,.int .i64 x.op,.int .i64 x.rd,.int .i64 x.r1,.int .i64 x.r2,.int .i64 x.im,.string x.s,.int .i64 x.n]:Array Value)[j]?):=fun w1 hw1 j=>cell_of_row _ _ j _ 51 (0,0) hw1
 have HRW:Hid ((Y.alloc (.cells #[.int .i64 15,.int .i64 x.op,.int .i64 x.rd,.int .i64 x.r1,.int .i64 x.r2,.int .i64 x.im,.string x.s,.int .i64 x.n] 51)).heap[Y.heap.size]?=some (.cells #[.int .i64 15,.int .i64 x.op,.int .i64 x.rd,.int .i64 x.r1,.int .i64 x.r2,.int .i64 x.im,.string x.s,.int .i64 x.n] 51 (0,0))):=hrow
 refine fil12 F Y.heap.size k ba oa len ac x (Pl.cu xs k).at 0 (Y.alloc (.cells #[.int .i64 15,.int .i64 x.op,.int .i64 x.rd,.int .i64 x.r1,.int .i64 x.r2,.int .i64 x.im,.string x.s,.int .i64 x.n] 51)) (below_cell (below_alloc _ _) HE.out.f1) hk hn (below_cell (below_alloc _ _) cat) (by rw[HKK.out];exact HLN.out _ HRW.out 0) (HLN.out _ HRW.out 1) (HLN.out _ HRW.out 2) (HLN.out _ HRW.out 3) (HLN.out _ HRW.out 4) (HLN.out _ HRW.out 5) (HLN.out _ HRW.out 6) (HLN.out _ HRW.out 7) (HIS.out _) ?_
 intro ai ni ci w1 hI hw1
 have HI:Hid (InsRow (Y.alloc (.cells #[.int .i64 15,.int .i64 x.op,.int .i64 x.rd,.int .i64 x.r1,.int .i64 x.r2,.int .i64 x.im,.string x.s,.int .i64 x.n] 51)).heap.size w1 ai ni (Pl.insA x (Pl.cu xs k).at 0)):=hI
 have HW1:Hid (Below (Y.alloc (.cells #[.int .i64 15,.int .i64 x.op,.int .i64 x.rd,.int .i64 x.r1,.int .i64 x.r2,.int .i64 x.im,.string x.s,.int .i64 x.n] 51)).heap.size (Y.alloc (.cells #[.int .i64 15,.int .i64 x.op,.int .i64 x.rd,.int .i64 x.r1,.int .i64 x.r2,.int .i64 x.im,.string x.s,.int .i64 x.n] 51)) w1):=hw1
 have HR1:Hid (w1.heap[Y.heap.size]?=some (.cells #[.int .i64 15,.int .i64 x.op,.int .i64 x.rd,.int .i64 x.r1,.int .i64 x.r2,.int .i64 x.im,.string x.s,.int .i64 x.n] 51 (0,0))):=(hw1.block Y.heap.size (by simp)).trans hrow
 have HF1:Hid (FilS w0 w1 g vc (.slice a6 (Pl.dataL xs k).length y6) (Pl.codeL ewI xs k) (Pl.dataL xs k)):=(HF.out.keep (below_alloc _ _)).keep hw1
 have k0:=HLN.out _ HR1.out 0
 simp only[List.getElem?_toArray,List.getElem?_cons_zero]at k0
 clear hI hw1 hrow
 go_upto_block 2 with fail
 refine fil_loop k g R false true (Pl.insA x (Pl.cu xs k).at 0) ai ni ci vc _ (Pl.codeL ewI xs k) (Pl.dataL xs k) w0 w1 HF1.out HI.out ((HE.out.keep (Below.trans (below_alloc Y _) (HW1.out.mono (by simp)))).r) hR (by simp;omega) hcl ?N ?X
 case X=>
  intros
  rename_i hany hrw hbe
  refine HXt.out _ _ _ _ _ _ _ _ _ _ _ _ _ _ _ _ _ _ _ _ _ _ _ _ _ _ _ _ _ _ _ _ _ _ _ _ _ _ _ _ _ _ _ _ _ _ _ _ _ _ _ _ _ _ _ _ _ _ _ _ _ _ _ _ _ _ _ _ _ _ _ _ _ _ _ _ _ _ _ _ _ _ _ _ _ _ _ _ _ _ _ _ _ _ _ _ _ _ _ _ _ _ _ _ _ _ _ _ _ _ _ _ _ _ _ _ _ _ _ _ _ _ _ _ _ _ _ _ _ _ _ _ _ _ ?_ hrw hbe
  rw[<- HFB.out,HIN.out]
  simpa [Pl.isJ,HKK.out] using hany
 case N=>
  intro v5 v14 v15 v16 v71 v72 v73 v74 v75 v76 v77 v78 v79 v80 v81 v82 v83 v84 v85 v86 v87 v88 v89 v90 v91 v92 v93 v94 v95 v96 v97 v98 v99 v100 v101 u vc2 hany hs2 hby
  have HS2:Hid (FilS w0 u g vc2 (.slice a6 (Pl.dataL xs k).length y6) (Pl.codeL ewI xs (k+1)) (Pl.dataL xs k)):=by show FilS _ _ _ _ _ _ _;rw[HCS.out,HIN.out];exact hs2
  have HBJ:Hid (Pl.badJ xs k=false):=by
   show _=_
   rw[<- HFB.out,HIN.out]
   simpa [Pl.isJ,HKK.out] using hany
  have HR2:Hid (u.heap[Y.heap.size]?=some (.cells #[.int .i64 15,.int .i64 x.op,.int .i64 x.rd,.int .i64 x.r1,.int .i64 x.r2,.int .i64 x.im,.string x.s,.int .i64 x.n] 51 (0,0))):=hby.block _ _ (by omega) HR1.out (fun c q=>by injection q with _ q2 _;exact absurd q2 (by decide))
  have l0:=HLN.out _ HR2.out 0;have l6:=HLN.out _ HR2.out 6
  simp only[List.getElem?_toArray,List.getElem?_cons_zero,List.getElem?_cons_succ]at l0 l6
  clear hany hs2 hby k0
  go_upto_region 24 with fail
  refine fil24 g Y.heap.size ((Pl.dataL xs k) ++ List.replicate (Pl.dsz x (Pl.cu xs k).b).toNat 0).length _ x (Pl.dsz x (Pl.cu xs k).b) a6 y6 (DatA w0 ((Pl.dataL xs k) ++ List.replicate (Pl.dsz x (Pl.cu xs k).b).toNat 0)) u HS2.out.c1 (by rw[HKK.out];exact HLN.out _ HR2.out 0) (HLN.out _ HR2.out 1) (HLN.out _ HR2.out 2) (HLN.out _ HR2.out 3) (HLN.out _ HR2.out 4) (HLN.out _ HR2.out 5) (HLN.out _ HR2.out 6) (HLN.out _ HR2.out 7) (fun _ _ _ _ h1 h2=>DatA.old HS2.out h1 h2) (fun u3=>by rw[HB0.out];exact l4Count8_is x (Pl.cu xs k).b HLB.out (by omega) u3) (fun u3 h3=>by have h5:=zer_A (HS2.out.keep h3) (Pl.dsz x (Pl.cu xs k).b).toNat (by omega);rw[HZT.out]at h5;exact h5) ?_
  intro a2 y2 u3 u4 h3 h4
  have HFN:Hid (FilS w0 (u4.setCell ⟨g,1,none⟩ (.slice a2 ((Pl.dataL xs k) ++ List.replicate (Pl.dsz x (Pl.cu xs k).b).toNat 0).length y2)) g vc2 (.slice a2 ((Pl.dataL xs k) ++ List.replicate (Pl.dsz x (Pl.cu xs k).b).toNat 0).length y2) (Pl.codeL ewI xs (k+1)) (Pl.dataL xs (k+1))):=by show FilS _ _ _ _ _ _ _;rw[HDD.out];exact DatA.fin HS2.out h3 h4
  clear h3 h4
  go_wp2_with fail
  have hfn:=HFN.out
  simp only[List.length_append,List.length_replicate]at hfn
  exact HNt.out _ _ _ _ _ _ _ _ _ _ _ _ _ _ _ _ _ _ _ _ _ _ _ _ _ _ _ _ _ _ _ _ _ _ _ _ _ _ _ _ _ _ _ _ _ _ _ _ _ _ _ _ _ _ _ _ _ _ _ _ _ _ _ _ _ _ _ _ _ _ _ _ _ _ _ _ _ _ _ _ _ _ _ _ _ _ _ _ _ _ _ _ _ _ _ _ _ _ _ _ _ _ _ _ _ _ _ _ _ _ _ _ _ _ _ _ _ _ _ _ _ _ _ _ _ _ _ _ _ _ _ HBJ.out hfn
set_option maxRecDepth 100000 in
theorem fil_16 {lo:Nat} (xs:List Pl.Ln) (F R g k:Nat) (a:Option Addr) (len cap:Nat) (la:Option Addr) (ll lc:Nat) (aa:Option Addr) (ac:Nat) (vc vd:Value) {c1 c2 c5 c8 c9 c10 c11 c12 c13 c14 c15 c16 c17 c18 c19 c20 c21 c22 c23 c24 c25 c26 c27 c28 c29 c30 c31 c32 c33 c34 c35 c36 c37 c38 c39 c40 c41 c42 c43 c44 c45 c46 c47 c48 c49 c50 c51 c52 c53 c54 c55 c56 c57 c58 c59 c60 c61 c62 c63 c64 c65 c66 c67 c68 c69 c70 c71 c72 c73 c74 c75 c76 c77 c78 c79 c80 c81 c82 c83 c84 c85 c86 c87 c88 c89 c90 c91 c92 c93 c94 c95 c96 c97 c98 c99 c100 c101 c102 c103 c104 c105 c106 c107 c108 c109 c110 c111 c112 c113 c114 c115 c116 c117 c118 c119 c120 c121 c122 c123 c124 c125 c126 c127 c128 c129 c130 c131 c132 c133 c134 c135 c136 c137 c138 c139 c140 c141 c142 c143 c144:Value} (w0 Y:World) (hE:FilE lo xs Y F R a len cap la ll lc aa ac) (hF:FilS w0 Y g vc vd (Pl.codeL ewI xs k) (Pl.dataL xs k)) (hK:∀ i,i<xs.length->LnK (Pl.gl xs i)) (hS:∀ i,i<xs.length->Pl.stray xs i=false) (hL:Pl.lost xs k=false) (hk:k<len) (hn:len<=20000) (hR:R<w0.heap.size) (hq:(Pl.gl xs k).k=16) {Q:Exit->Act->World->Prop}
  (hN:∀ (s5 s8 s9 s10 s11 s12 s13 s14 s15 s16 s26 s27 s28 s29 s30 s31 s32 s33 s34 s35 s36 s37 s38 s39 s40 s41 s42 s43 s44 s45 s46 s47 s48 s49 s50 s51 s52 s53 s54 s55 s56 s57 s58 s59 s60 s61 s62 s63 s64 s65 s66 s67 s68 s69 s70 s71 s72 s73 s74 s75 s76 s77 s78 s79 s80 s81 s82 s83 s84 s85 s86 s87 s88 s89 s90 s91 s92 s93 s94 s95 s96 s97 s98 s99 s100 s101 s102 s103 s104 s105 s106 s107 s108 s109 s110 s111 s112 s113 s114 s115 s116 s117 s118 s119 s120 s121 s122 s123 s124 s125 s126 s127 s128 s129 s130 s131 s132 s133 s134 s135 s136 s137 s138 s139 s140 s141 s142 s143:Value) (u:World) (vc' vd':Value),Pl.badJ xs k=false->FilS w0 u g vc' vd' (Pl.codeL ewI xs (k+1)) (Pl.dataL xs (k+1))->Q .normal { tmps:=#[.slice a len cap,c1,c2,.pointer (some ⟨F,0,none⟩),.pointer (some ⟨R,0,none⟩),s5,.pointer (some ⟨g,0,none⟩),.int .i64 (k:Nat),s8,s9,s10,s11,s12,s13,s14,s15,s16,c17,c18,c19,c20,c21,c22,c23,c24,c25,s26,s27,s28,s29,s30,s31,s32,s33,s34,s35,s36,s37,s38,s39,s40,s41,s42,s43,s44,s45,s46,s47,s48,s49,s50,s51,s52,s53,s54,s55,s56,s57,s58,s59,s60,s61,s62,s63,s64,s65,s66,s67,s68,s69,s70,s71,s72,s73,s74,s75,s76,s77,s78,s79,s80,s81,s82,s83,s84,s85,s86,s87,s88,s89,s90,s91,s92,s93,s94,s95,s96,s97,s98,s99,s100,s101,s102,s103,s104,s105,s106,s107,s108,s109,s110,s111,s112,s113,s114,s115,s116,s117,s118,s119,s120,s121,s122,s123,s124,s125,s126,s127,s128,s129,s130,s131,s132,s133,s134,s135,s136,s137,s138,s139,s140,s141,s142,s143,c144],defers:=[] } u)
  (hX:∀ (s8 s9 s10 s11 s12 s13 s14 s15 s16 s26 s27 s28 s29 s30 s31 s32 s33 s34 s35 s36 s37 s38 s39 s40 s41 s42 s43 s44 s45 s46 s47 s48 s49 s50 s51 s52 s53 s54 s55 s56 s57 s58 s59 s60 s61 s62 s63 s64 s65 s66 s67 s68 s69 s70 s71 s72 s73 s74 s75 s76 s77 s78 s79 s80 s81 s82 s83 s84 s85 s86 s87 s88 s89 s90 s91 s92 s93 s94 s95 s96 s97 s98 s99 s100 s101 s102 s103 s104 s105 s106 s107 s108 s109 s110 s111 s112 s113 s114 s115 s116 s117 s118 s119 s120 s121 s122 s123 s124 s125 s126 s127 s128 s129 s130 s131 s132 s133 s134 s135 s136 s137 s138 s139 s140 s141 s142 s143:Value) (u:World) (a9:Option Addr) (n9 y9:Nat) (b9:Option Addr) (m9 z9:Nat),Pl.badJ xs k=true->u.heap[R]?=some (.cells #[.slice a9 n9 y9,.slice b9 m9 z9,.int .i64 0,.int .i64 0] 28 (0,0))->Below R w0 u->Q .ret { tmps:=#[.slice a len cap,c1,c2,.pointer (some ⟨F,0,none⟩),.pointer (some ⟨R,0,none⟩),.int .i64 (k:Nat),.pointer (some ⟨g,0,none⟩),.int .i64 (k:Nat),s8,s9,s10,s11,s12,s13,s14,s15,s16,c17,c18,c19,c20,c21,c22,c23,c24,c25,s26,s27,s28,s29,s30,s31,s32,s33,s34,s35,s36,s37,s38,s39,s40,s41,s42,s43,s44,s45,s46,s47,s48,s49,s50,s51,s52,s53,s54,s55,s56,s57,s58,s59,s60,s61,s62,s63,s64,s65,s66,s67,s68,s69,s70,s71,s72,s73,s74,s75,s76,s77,s78,s79,s80,s81,s82,s83,s84,s85,s86,s87,s88,s89,s90,s91,s92,s93,s94,s95,s96,s97,s98,s99,s100,s101,s102,s103,s104,s105,s106,s107,s108,s109,s110,s111,s112,s113,s114,s115,s116,s117,s118,s119,s120,s121,s122,s123,s124,s125,s126,s127,s128,s129,s130,s131,s132,s133,s134,s135,s136,s137,s138,s139,s140,s141,s142,s143,c144],defers:=[] } u) :
  (filB 1).wp Tryz.prog Q { tmps:=#[.slice a len cap,c1,c2,.pointer (some ⟨F,0,none⟩),.pointer (some ⟨R,0,none⟩),c5,.pointer (some ⟨g,0,none⟩),.int .i64 (k:Nat),c8,c9,c10,c11,c12,c13,c14,c15,c16,c17,c18,c19,c20,c21,c22,c23,c24,c25,c26,c27,c28,c29,c30,c31,c32,c33,c34,c35,c36,c37,c38,c39,c40,c41,c42,c43,c44,c45,c46,c47,c48,c49,c50,c51,c52,c53,c54,c55,c56,c57,c58,c59,c60,c61,c62,c63,c64,c65,c66,c67,c68,c69,c70,c71,c72,c73,c74,c75,c76,c77,c78,c79,c80,c81,c82,c83,c84,c85,c86,c87,c88,c89,c90,c91,c92,c93,c94,c95,c96,c97,c98,c99,c100,c101,c102,c103,c104,c105,c106,c107,c108,c109,c110,c111,c112,c113,c114,c115,c116,c117,c118,c119,c120,c121,c122,c123,c124,c125,c126,c127,c128,c129,c130,c131,c132,c133,c134,c135,c136,c137,c138,c139,c140,c141,c142,c143,c144],defers:=[] } Y:=by
 have HNt:Hid (∀ (s5 s8 s9 s10 s11 s12 s13 s14 s15 s16 s26 s27 s28 s29 s30 s31 s32 s33 s34 s35 s36 s37 s38 s39 s40 s41 s42 s43 s44 s45 s46 s47 s48 s49 s50 s51 s52 s53 s54 s55 s56 s57 s58 s59 s60 s61 s62 s63 s64 s65 s66 s67 s68 s69 s70 s71 s72 s73 s74 s75 s76 s77 s78 s79 s80 s81 s82 s83 s84 s85 s86 s87 s88 s89 s90 s91 s92 s93 s94 s95 s96 s97 s98 s99 s100 s101 s102 s103 s104 s105 s106 s107 s108 s109 s110 s111 s112 s113 s114 s115 s116 s117 s118 s119 s120 s121 s122 s123 s124 s125 s126 s127 s128 s129 s130 s131 s132 s133 s134 s135 s136 s137 s138 s139 s140 s141 s142 s143:Value) (u:World) (vc' vd':Value),Pl.badJ xs k=false->FilS w0 u g vc' vd' (Pl.codeL ewI xs (k+1)) (Pl.dataL xs (k+1))->Q .normal { tmps:=#[.slice a len cap,c1,c2,.pointer (some ⟨F,0,none⟩),.pointer (some ⟨R,0,none⟩),s5,.pointer (some ⟨g,0,none⟩),.int .i64 (k:Nat),s8,s9,s10,s11,s12,s13,s14,s15,s16,c17,c18,c19,c20,c21,c22,c23,c24,c25,s26,s27,s28,s29,s30,s31,s32,s33,s34,s35,s36,s37,s38,s39,s40,s41,s42,s43,s44,s45,s46,s47,s48,s49,s50,s51,s52,s53,s54,s55,s56,s57,s58,s59,s60,s61,s62,s63,s64,s65,s66,s67,s68,s69,s70,s71,s72,s73,s74,s75,s76,s77,s78,s79,s80,s81,s82,s83,s84,s85,s86,s87,s88,s89,s90,s91,s92,s93,s94,s95,s96,s97,s98,s99,s100,s101,s102,s103,s104,s105,s106,s107,s108,s109,s110,s111,s112,s113,s114,s115,s116,s117,s118,s119,s120,s121,s122,s123,s124,s125,s126,s127,s128,s129,s130,s131,s132,s133,s134,s135,s136,s137,s138,s139,s140,s141,s142,s143,c144],defers:=[] } u):=hN
 have HXt:Hid (∀ (s8 s9 s10 s11 s12 s13 s14 s15 s16 s26 s27 s28 s29 s30 s31 s32 s33 s34 s35 s36 s37 s38 s39 s40 s41 s42 s43 s44 s45 s46 s47 s48 s49 s50 s51 s52 s53 s54 s55 s56 s57 s58 s59 s60 s61 s62 s63 s64 s65 s66 s67 s68 s69 s70 s71 s72 s73 s74 s75 s76 s77 s78 s79 s80 s81 s82 s83 s84 s85 s86 s87 s88 s89 s90 s91 s92 s93 s94 s95 s96 s97 s98 s99 s100 s101 s102 s103 s104 s105 s106 s107 s108 s109 s110 s111 s112 s113 s114 s115 s116 s117 s118 s119 s120 s121 s122 s123 s124 s125 s126 s127 s128 s129 s130 s131 s132 s133 s134 s135 s136 s137 s138 s139 s140 s141 s142 s143:Value) (u:World) (a9:Option Addr) (n9 y9:Nat) (b9:Option Addr) (m9 z9:Nat),Pl.badJ xs k=true->u.heap[R]?=some (.cells #[.slice a9 n9 y9,.slice b9 m9 z9,.int .i64 0,.int .i64 0] 28 (0,0))->Below R w0 u->Q .ret { tmps:=#[.slice a len cap,c1,c2,.pointer (some ⟨F,0,none⟩),.pointer (some ⟨R,0,none⟩),.int .i64 (k:Nat),.pointer (some ⟨g,0,none⟩),.int .i64 (k:Nat),s8,s9,s10,s11,s12,s13,s14,s15,s16,c17,c18,c19,c20,c21,c22,c23,c24,c25,s26,s27,s28,s29,s30,s31,s32,s33,s34,s35,s36,s37,s38,s39,s40,s41,s42,s43,s44,s45,s46,s47,s48,s49,s50,s51,s52,s53,s54,s55,s56,s57,s58,s59,s60,s61,s62,s63,s64,s65,s66,s67,s68,s69,s70,s71,s72,s73,s74,s75,s76,s77,s78,s79,s80,s81,s82,s83,s84,s85,s86,s87,s88,s89,s90,s91,s92,s93,s94,s95,s96,s97,s98,s99,s100,s101,s102,s103,s104,s105,s106,s107,s108,s109,s110,s111,s112,s113,s114,s115,s116,s117,s118,s119,s120,s121,s122,s123,s124,s125,s126,s127,s128,s129,s130,s131,s132,s133,s134,s135,s136,s137,s138,s139,s140,s141,s142,s143,c144],defers:=[] } u):=hX
 have HE:Hid (FilE lo xs Y F R a len cap la ll lc aa ac):=hE
 have hxl:xs.length=len:=hE.ln.len.1
 have HXL:Hid (xs.length=len):=hxl
 have hK1:=hK k (by omega)
 have HKn:Hid (LnK (Pl.gl xs k)):=hK1
 obtain⟨a6,y6,hv6⟩:=own_slice hF.od
 subst hv6
 have HF:Hid (FilS w0 Y g vc (.slice a6 (Pl.dataL xs k).length y6) (Pl.codeL ewI xs k) (Pl.dataL xs k)):=hF
 have HFB:Hid ((Pl.ins xs k).any (fun y=>!y.ok || (Pl.isJ (Pl.gl xs k).k && Pl.inD xs (Pl.gl xs k).s))=Pl.badJ xs k):=Pl.fill_bad xs k hK1.i
 have HIN:Hid (Pl.ins xs k=Pl.insA (Pl.gl xs k) (Pl.cu xs k).at (Pl.adr xs (Pl.gl xs k).s)):=rfl
 have hadr:=adr_bd hK (by omega) (Pl.gl xs k).s
 have hatb:=at_bd hK (by omega) (k:=k) (by omega)
 have HCS:Hid (Pl.codeL ewI xs (k+1)=Pl.codeL ewI xs k ++ (Pl.ins xs k).map ewI):=Pl.codeL_succ _ _ _
 have HDS:Hid (Pl.dataL xs (k+1)=Pl.dataL xs k ++ Pl.dat xs k):=Pl.dataL_succ _ _
 have hlen2:=Pl.laid_len ewI xs (fun i hi=>(hK i hi).b) hS k (by omega)
 have hcb:=Pl.cu_bd xs (fun i hi=>(hK i hi).b) k (by omega)
 have hcl:(Pl.codeL ewI xs k).length<=100000:=by omega
 have hdl:(Pl.dataL xs k).length<=1310720000:=by omega
 have HB0:Hid (((Pl.dataL xs k).length:Int)=(Pl.cu xs k).b):=hlen2.2
 have hg0:=hF.hg
 have hgY:g<Y.heap.size:=hF.lt
 have hs0:(Pl.gl xs k).s=⟨#[]⟩:=size_nil (hK1.nos (by omega) (by omega) (by omega) (by omega) (by omega) (by omega))
 have ha0:Pl.adr xs (Pl.gl xs k).s=0/\Pl.inD xs (Pl.gl xs k).s=false:=by rw[hs0];exact adr_empty hK
 have se:(Pl.gl xs k).s.toList.isEmpty=true:=by rw[<- Pl.str_nil];simpa using hs0
 have HDD:Hid (Pl.dataL xs (k+1)=Pl.dataL xs k ++ List.replicate (Pl.dsz (Pl.gl xs k) (Pl.cu xs k).b).toNat 0):=by show _=_;rw[HDS.out,Pl.dat_zero xs k (by omega)]
 have hz4:=Pl.dsz_bd hK1.b (Pl.cu xs k).b hcb.2.1
 have hcb2:0<=(Pl.cu xs k).b/\(Pl.cu xs k).b<=1310720000:=by omega
 have HZT:Hid (((Pl.dsz (Pl.gl xs k) (Pl.cu xs k).b).toNat:Int)=Pl.dsz (Pl.gl xs k) (Pl.cu xs k).b):=by show _=_;omega
 have HIS:Hid (∀ u,InsSaid (Pl.gl xs k) (Pl.cu xs k).at (Pl.adr xs (Pl.gl xs k).s) u):=fun u=>l4Insts_is _ _ _ u hK1.b.k (by omega) (by omega) hK1.i.w4 (fun q=>by have:=hK1.far (.inl q);omega)
 have hat:=hE.ats hk
 obtain⟨ba,oa,haa,hba,cat⟩:=hat
 subst haa
 obtain⟨b0,off,haL,hlo,hb1,hsz,z0,z1,z2,z3,z4,z5,z6,z7⟩:=hE.ln.at k hk
 subst haL
 have hi:(k:Int)<(len:Int):=by omega
 have HLB:Hid (Pl.LnB (Pl.gl xs k)):=hK1.b
 have hf0:=hE.f0
 have hF0:F<Y.heap.size:=block_lt_of_cell hf0
 clear hE hF hN hX hK hS hL hK1 hlen2 hcb hsz
 conv=>arg 2;whnf
 dsimp only
 rw[ha0.2]at HFB
 rw[ha0.1]at HIN HIS
 generalize hx:Pl.gl xs k=x at *
 have HXE:Hid (Pl.gl xs k=x):=hx
 clear hx
 have hkk:x.k=16:=hq
 have HKK:Hid (x.k=16):=hkk
 rw[hkk]at z0
 clear hq hkk
 clear ha0 hs0
 go_upto_region 12 with fail
 have hrow:(Y.alloc (.cells #[.int .i64 16,.int .i64 x.op,.int .i64 x.rd,.int .i64 x.r1,.int .i64 x.r2,.int .i64 x.im,.string x.s,.int .i64 x.n] 51)).heap[Y.heap.size]?=some (.cells #[.int .i64 16,.int .i64 x.op,.int .i64 x.rd,.int .i64 x.r1,.int .i64 x.r2,.int .i64 x.im,.string x.s,.int .i64 x.n] 51 (0,0)):=heap_alloc_new Y _
 have HLN:Hid (∀ w1:World,w1.heap[Y.heap.size]?=some (.cells #[.int .i64 16,.int .i64 x.op,.int .i64 x.rd,.int .i64 x.r1,.int .i64 x.r2,.int .i64 x.im,.string x.s,.int .i64 x.n] 51 (0,0))->∀ j,w1.cell? ⟨Y.heap.size,j,none⟩=(#[.int .i64 16,.int .i64 x.op,.int .i64 x.rd,.int .i64 x.r1,.int .i64 x.r2,.int .i64 x.im,.string x.s,.int .i64 x.n]:Array Value)[j]?):=fun w1 hw1 j=>cell_of_row _ _ j _ 51 (0,0) hw1
 have HRW:Hid ((Y.alloc (.cells #[.int .i64 16,.int .i64 x.op,.int .i64 x.rd,.int .i64 x.r1,.int .i64 x.r2,.int .i64 x.im,.string x.s,.int .i64 x.n] 51)).heap[Y.heap.size]?=some (.cells #[.int .i64 16,.int .i64 x.op,.int .i64 x.rd,.int .i64 x.r1,.int .i64 x.r2,.int .i64 x.im,.string x.s,.int .i64 x.n] 51 (0,0))):=hrow
 refine fil12 F Y.heap.size k ba oa len ac x (Pl.cu xs k).at 0 (Y.alloc (.cells #[.int .i64 16,.int .i64 x.op,.int .i64 x.rd,.int .i64 x.r1,.int .i64 x.r2,.int .i64 x.im,.string x.s,.int .i64 x.n] 51)) (below_cell (below_alloc _ _) HE.out.f1) hk hn (below_cell (below_alloc _ _) cat) (by rw[HKK.out];exact HLN.out _ HRW.out 0) (HLN.out _ HRW.out 1) (HLN.out _ HRW.out 2) (HLN.out _ HRW.out 3) (HLN.out _ HRW.out 4) (HLN.out _ HRW.out 5) (HLN.out _ HRW.out 6) (HLN.out _ HRW.out 7) (HIS.out _) ?_
 intro ai ni ci w1 hI hw1
 have HI:Hid (InsRow (Y.alloc (.cells #[.int .i64 16,.int .i64 x.op,.int .i64 x.rd,.int .i64 x.r1,.int .i64 x.r2,.int .i64 x.im,.string x.s,.int .i64 x.n] 51)).heap.size w1 ai ni (Pl.insA x (Pl.cu xs k).at 0)):=hI
 have HW1:Hid (Below (Y.alloc (.cells #[.int .i64 16,.int .i64 x.op,.int .i64 x.rd,.int .i64 x.r1,.int .i64 x.r2,.int .i64 x.im,.string x.s,.int .i64 x.n] 51)).heap.size (Y.alloc (.cells #[.int .i64 16,.int .i64 x.op,.int .i64 x.rd,.int .i64 x.r1,.int .i64 x.r2,.int .i64 x.im,.string x.s,.int .i64 x.n] 51)) w1):=hw1
 have HR1:Hid (w1.heap[Y.heap.size]?=some (.cells #[.int .i64 16,.int .i64 x.op,.int .i64 x.rd,.int .i64 x.r1,.int .i64 x.r2,.int .i64 x.im,.string x.s,.int .i64 x.n] 51 (0,0))):=(hw1.block Y.heap.size (by simp)).trans hrow
 have HF1:Hid (FilS w0 w1 g vc (.slice a6 (Pl.dataL xs k).length y6) (Pl.codeL ewI xs k) (Pl.dataL xs k)):=(HF.out.keep (below_alloc _ _)).keep hw1
 have k0:=HLN.out _ HR1.out 0
 simp only[List.getElem?_toArray,List.getElem?_cons_zero]at k0
 clear hI hw1 hrow
 go_upto_block 2 with fail
 refine fil_loop k g R false true (Pl.insA x (Pl.cu xs k).at 0) ai ni ci vc _ (Pl.codeL ewI xs k) (Pl.dataL xs k) w0 w1 HF1.out HI.out ((HE.out.keep (Below.trans (below_alloc Y _) (HW1.out.mono (by simp)))).r) hR (by simp;omega) hcl ?N ?X
 case X=>
  intros
  rename_i hany hrw hbe
  refine HXt.out _ _ _ _ _ _ _ _ _ _ _ _ _ _ _ _ _ _ _ _ _ _ _ _ _ _ _ _ _ _ _ _ _ _ _ _ _ _ _ _ _ _ _ _ _ _ _ _ _ _ _ _ _ _ _ _ _ _ _ _ _ _ _ _ _ _ _ _ _ _ _ _ _ _ _ _ _ _ _ _ _ _ _ _ _ _ _ _ _ _ _ _ _ _ _ _ _ _ _ _ _ _ _ _ _ _ _ _ _ _ _ _ _ _ _ _ _ _ _ _ _ _ _ _ _ _ _ _ _ _ _ _ _ _ ?_ hrw hbe
  rw[<- HFB.out,HIN.out]
  simpa [Pl.isJ,HKK.out] using hany
 case N=>
  intro v5 v14 v15 v16 v71 v72 v73 v74 v75 v76 v77 v78 v79 v80 v81 v82 v83 v84 v85 v86 v87 v88 v89 v90 v91 v92 v93 v94 v95 v96 v97 v98 v99 v100 v101 u vc2 hany hs2 hby
  have HS2:Hid (FilS w0 u g vc2 (.slice a6 (Pl.dataL xs k).length y6) (Pl.codeL ewI xs (k+1)) (Pl.dataL xs k)):=by show FilS _ _ _ _ _ _ _;rw[HCS.out,HIN.out];exact hs2
  have HBJ:Hid (Pl.badJ xs k=false):=by
   show _=_
   rw[<- HFB.out,HIN.out]
   simpa [Pl.isJ,HKK.out] using hany
  have HR2:Hid (u.heap[Y.heap.size]?=some (.cells #[.int .i64 16,.int .i64 x.op,.int .i64 x.rd,.int .i64 x.r1,.int .i64 x.r2,.int .i64 x.im,.string x.s,.int .i64 x.n] 51 (0,0))):=hby.block _ _ (by omega) HR1.out (fun c q=>by injection q with _ q2 _;exact absurd q2 (by decide))
  have l0:=HLN.out _ HR2.out 0;have l6:=HLN.out _ HR2.out 6
  simp only[List.getElem?_toArray,List.getElem?_cons_zero,List.getElem?_cons_succ]at l0 l6
  clear hany hs2 hby k0
  go_upto_region 24 with fail
  refine fil24 g Y.heap.size ((Pl.dataL xs k) ++ List.replicate (Pl.dsz x (Pl.cu xs k).b).toNat 0).length _ x (Pl.dsz x (Pl.cu xs k).b) a6 y6 (DatA w0 ((Pl.dataL xs k) ++ List.replicate (Pl.dsz x (Pl.cu xs k).b).toNat 0)) u HS2.out.c1 (by rw[HKK.out];exact HLN.out _ HR2.out 0) (HLN.out _ HR2.out 1) (HLN.out _ HR2.out 2) (HLN.out _ HR2.out 3) (HLN.out _ HR2.out 4) (HLN.out _ HR2.out 5) (HLN.out _ HR2.out 6) (HLN.out _ HR2.out 7) (fun _ _ _ _ h1 h2=>DatA.old HS2.out h1 h2) (fun u3=>by rw[HB0.out];exact l4Count8_is x (Pl.cu xs k).b HLB.out (by omega) u3) (fun u3 h3=>by have h5:=zer_A (HS2.out.keep h3) (Pl.dsz x (Pl.cu xs k).b).toNat (by omega);rw[HZT.out]at h5;exact h5) ?_
  intro a2 y2 u3 u4 h3 h4
  have HFN:Hid (FilS w0 (u4.setCell ⟨g,1,none⟩ (.slice a2 ((Pl.dataL xs k) ++ List.replicate (Pl.dsz x (Pl.cu xs k).b).toNat 0).length y2)) g vc2 (.slice a2 ((Pl.dataL xs k) ++ List.replicate (Pl.dsz x (Pl.cu xs k).b).toNat 0).length y2) (Pl.codeL ewI xs (k+1)) (Pl.dataL xs (k+1))):=by show FilS _ _ _ _ _ _ _;rw[HDD.out];exact DatA.fin HS2.out h3 h4
  clear h3 h4
  go_wp2_with fail
  have hfn:=HFN.out
  simp only[List.length_append,List.length_replicate]at hfn
  exact HNt.out _ _ _ _ _ _ _ _ _ _ _ _ _ _ _ _ _ _ _ _ _ _ _ _ _ _ _ _ _ _ _ _ _ _ _ _ _ _ _ _ _ _ _ _ _ _ _ _ _ _ _ _ _ _ _ _ _ _ _ _ _ _ _ _ _ _ _ _ _ _ _ _ _ _ _ _ _ _ _ _ _ _ _ _ _ _ _ _ _ _ _ _ _ _ _ _ _ _ _ _ _ _ _ _ _ _ _ _ _ _ _ _ _ _ _ _ _ _ _ _ _ _ _ _ _ _ _ _ _ _ _ HBJ.out hfn
def FilSaid (xs:List Pl.Ln) (w:World) (e:Ending) (w':World):Prop:=
 ∃ (a1:Option Addr) (n1 y1:Nat) (a2:Option Addr) (n2 y2:Nat),e=.returned (.tuple #[.agg #[.slice a1 n1 y1,.slice a2 n2 y2,.int .i64 0,.int .i64 0],.int .i64 (Pl.fst1 (Pl.badJ xs) xs.length)])/\Below w.heap.size w w'/\
  (Pl.fst1 (Pl.badJ xs) xs.length=-1->w'.ownsRow w.heap.size 3 1 (.slice a1 n1 y1) (Pl.codeL ewI xs xs.length).length (Pl.ics (Pl.codeL ewI xs xs.length))/\w'.ownsRow w.heap.size 5 1 (.slice a2 n2 y2) (Pl.dataL xs xs.length).length (Pl.bcs (Pl.dataL xs xs.length)))
theorem fil_any {lo:Nat} (xs:List Pl.Ln) (F R g k:Nat) (a:Option Addr) (len cap:Nat) (la:Option Addr) (ll lc:Nat) (aa:Option Addr) (ac:Nat) (vc vd:Value) {c1 c2 c5 c8 c9 c10 c11 c12 c13 c14 c15 c16 c17 c18 c19 c20 c21 c22 c23 c24 c25 c26 c27 c28 c29 c30 c31 c32 c33 c34 c35 c36 c37 c38 c39 c40 c41 c42 c43 c44 c45 c46 c47 c48 c49 c50 c51 c52 c53 c54 c55 c56 c57 c58 c59 c60 c61 c62 c63 c64 c65 c66 c67 c68 c69 c70 c71 c72 c73 c74 c75 c76 c77 c78 c79 c80 c81 c82 c83 c84 c85 c86 c87 c88 c89 c90 c91 c92 c93 c94 c95 c96 c97 c98 c99 c100 c101 c102 c103 c104 c105 c106 c107 c108 c109 c110 c111 c112 c113 c114 c115 c116 c117 c118 c119 c120 c121 c122 c123 c124 c125 c126 c127 c128 c129 c130 c131 c132 c133 c134 c135 c136 c137 c138 c139 c140 c141 c142 c143 c144:Value} (w0 Y:World) (hE:FilE lo xs Y F R a len cap la ll lc aa ac) (hF:FilS w0 Y g vc vd (Pl.codeL ewI xs k) (Pl.dataL xs k)) (hK:∀ i,i<xs.length->LnK (Pl.gl xs i)) (hS:∀ i,i<xs.length->Pl.stray xs i=false) (hL:Pl.lost xs k=false) (hk:k<len) (hn:len<=20000) (hR:R<w0.heap.size) {Q:Exit->Act->World->Prop}
  (hN:∀ (s5 s8 s9 s10 s11 s12 s13 s14 s15 s16 s26 s27 s28 s29 s30 s31 s32 s33 s34 s35 s36 s37 s38 s39 s40 s41 s42 s43 s44 s45 s46 s47 s48 s49 s50 s51 s52 s53 s54 s55 s56 s57 s58 s59 s60 s61 s62 s63 s64 s65 s66 s67 s68 s69 s70 s71 s72 s73 s74 s75 s76 s77 s78 s79 s80 s81 s82 s83 s84 s85 s86 s87 s88 s89 s90 s91 s92 s93 s94 s95 s96 s97 s98 s99 s100 s101 s102 s103 s104 s105 s106 s107 s108 s109 s110 s111 s112 s113 s114 s115 s116 s117 s118 s119 s120 s121 s122 s123 s124 s125 s126 s127 s128 s129 s130 s131 s132 s133 s134 s135 s136 s137 s138 s139 s140 s141 s142 s143:Value) (u:World) (vc' vd':Value),Pl.badJ xs k=false->FilS w0 u g vc' vd' (Pl.codeL ewI xs (k+1)) (Pl.dataL xs (k+1))->Q .normal { tmps:=#[.slice a len cap,c1,c2,.pointer (some ⟨F,0,none⟩),.pointer (some ⟨R,0,none⟩),s5,.pointer (some ⟨g,0,none⟩),.int .i64 (k:Nat),s8,s9,s10,s11,s12,s13,s14,s15,s16,c17,c18,c19,c20,c21,c22,c23,c24,c25,s26,s27,s28,s29,s30,s31,s32,s33,s34,s35,s36,s37,s38,s39,s40,s41,s42,s43,s44,s45,s46,s47,s48,s49,s50,s51,s52,s53,s54,s55,s56,s57,s58,s59,s60,s61,s62,s63,s64,s65,s66,s67,s68,s69,s70,s71,s72,s73,s74,s75,s76,s77,s78,s79,s80,s81,s82,s83,s84,s85,s86,s87,s88,s89,s90,s91,s92,s93,s94,s95,s96,s97,s98,s99,s100,s101,s102,s103,s104,s105,s106,s107,s108,s109,s110,s111,s112,s113,s114,s115,s116,s117,s118,s119,s120,s121,s122,s123,s124,s125,s126,s127,s128,s129,s130,s131,s132,s133,s134,s135,s136,s137,s138,s139,s140,s141,s142,s143,c144],defers:=[] } u)
  (hX:∀ (s8 s9 s10 s11 s12 s13 s14 s15 s16 s26 s27 s28 s29 s30 s31 s32 s33 s34 s35 s36 s37 s38 s39 s40 s41 s42 s43 s44 s45 s46 s47 s48 s49 s50 s51 s52 s53 s54 s55 s56 s57 s58 s59 s60 s61 s62 s63 s64 s65 s66 s67 s68 s69 s70 s71 s72 s73 s74 s75 s76 s77 s78 s79 s80 s81 s82 s83 s84 s85 s86 s87 s88 s89 s90 s91 s92 s93 s94 s95 s96 s97 s98 s99 s100 s101 s102 s103 s104 s105 s106 s107 s108 s109 s110 s111 s112 s113 s114 s115 s116 s117 s118 s119 s120 s121 s122 s123 s124 s125 s126 s127 s128 s129 s130 s131 s132 s133 s134 s135 s136 s137 s138 s139 s140 s141 s142 s143:Value) (u:World) (a9:Option Addr) (n9 y9:Nat) (b9:Option Addr) (m9 z9:Nat),Pl.badJ xs k=true->u.heap[R]?=some (.cells #[.slice a9 n9 y9,.slice b9 m9 z9,.int .i64 0,.int .i64 0] 28 (0,0))->Below R w0 u->Q .ret { tmps:=#[.slice a len cap,c1,c2,.pointer (some ⟨F,0,none⟩),.pointer (some ⟨R,0,none⟩),.int .i64 (k:Nat),.pointer (some ⟨g,0,none⟩),.int .i64 (k:Nat),s8,s9,s10,s11,s12,s13,s14,s15,s16,c17,c18,c19,c20,c21,c22,c23,c24,c25,s26,s27,s28,s29,s30,s31,s32,s33,s34,s35,s36,s37,s38,s39,s40,s41,s42,s43,s44,s45,s46,s47,s48,s49,s50,s51,s52,s53,s54,s55,s56,s57,s58,s59,s60,s61,s62,s63,s64,s65,s66,s67,s68,s69,s70,s71,s72,s73,s74,s75,s76,s77,s78,s79,s80,s81,s82,s83,s84,s85,s86,s87,s88,s89,s90,s91,s92,s93,s94,s95,s96,s97,s98,s99,s100,s101,s102,s103,s104,s105,s106,s107,s108,s109,s110,s111,s112,s113,s114,s115,s116,s117,s118,s119,s120,s121,s122,s123,s124,s125,s126,s127,s128,s129,s130,s131,s132,s133,s134,s135,s136,s137,s138,s139,s140,s141,s142,s143,c144],defers:=[] } u) :
  (filB 1).wp Tryz.prog Q { tmps:=#[.slice a len cap,c1,c2,.pointer (some ⟨F,0,none⟩),.pointer (some ⟨R,0,none⟩),c5,.pointer (some ⟨g,0,none⟩),.int .i64 (k:Nat),c8,c9,c10,c11,c12,c13,c14,c15,c16,c17,c18,c19,c20,c21,c22,c23,c24,c25,c26,c27,c28,c29,c30,c31,c32,c33,c34,c35,c36,c37,c38,c39,c40,c41,c42,c43,c44,c45,c46,c47,c48,c49,c50,c51,c52,c53,c54,c55,c56,c57,c58,c59,c60,c61,c62,c63,c64,c65,c66,c67,c68,c69,c70,c71,c72,c73,c74,c75,c76,c77,c78,c79,c80,c81,c82,c83,c84,c85,c86,c87,c88,c89,c90,c91,c92,c93,c94,c95,c96,c97,c98,c99,c100,c101,c102,c103,c104,c105,c106,c107,c108,c109,c110,c111,c112,c113,c114,c115,c116,c117,c118,c119,c120,c121,c122,c123,c124,c125,c126,c127,c128,c129,c130,c131,c132,c133,c134,c135,c136,c137,c138,c139,c140,c141,c142,c143,c144],defers:=[] } Y:=by
 have hxl:xs.length=len:=hE.ln.len.1
 have hb:=(hK k (by omega)).b.k
 rcases (show (Pl.gl xs k).k=1\/(Pl.gl xs k).k=3\/(Pl.gl xs k).k=5\/(Pl.gl xs k).k=7\/(Pl.gl xs k).k=8\/((Pl.gl xs k).k=2\/(Pl.gl xs k).k=4\/(Pl.gl xs k).k=6\/(Pl.gl xs k).k=9\/(Pl.gl xs k).k=10\/(Pl.gl xs k).k=11)\/(Pl.gl xs k).k=12\/(Pl.gl xs k).k=13\/(Pl.gl xs k).k=14\/(Pl.gl xs k).k=15\/(Pl.gl xs k).k=16 by omega) with q | q | q | q | q | q | q | q | q | q | q
 ·exact fil_1 xs F R g k a len cap la ll lc aa ac vc vd w0 Y hE hF hK hS hL hk hn hR q hN hX
 ·exact fil_3 xs F R g k a len cap la ll lc aa ac vc vd w0 Y hE hF hK hS hL hk hn hR q hN hX
 ·exact fil_5 xs F R g k a len cap la ll lc aa ac vc vd w0 Y hE hF hK hS hL hk hn hR q hN hX
 ·exact fil_7 xs F R g k a len cap la ll lc aa ac vc vd w0 Y hE hF hK hS hL hk hn hR q hN hX
 ·exact fil_8 xs F R g k a len cap la ll lc aa ac vc vd w0 Y hE hF hK hS hL hk hn hR q hN hX
 ·exact fil_t xs F R g k a len cap la ll lc aa ac vc vd w0 Y hE hF hK hS hL hk hn hR q hN hX
 ·exact fil_12 xs F R g k a len cap la ll lc aa ac vc vd w0 Y hE hF hK hS hL hk hn hR ⟨q,size_nil ((hK k (by omega)).nos (by omega) (by omega) (by omega) (by omega) (by omega) (by omega))⟩ hN hX
 ·exact fil_13 xs F R g k a len cap la ll lc aa ac vc vd w0 Y hE hF hK hS hL hk hn hR ⟨q,size_nil ((hK k (by omega)).nos (by omega) (by omega) (by omega) (by omega) (by omega) (by omega))⟩ hN hX
 ·by_cases c:(Pl.gl xs k).s=⟨#[]⟩
  ·exact fil_14 xs F R g k a len cap la ll lc aa ac vc vd w0 Y hE hF hK hS hL hk hn hR ⟨q,c⟩ hN hX
  ·exact fil_14s xs F R g k a len cap la ll lc aa ac vc vd w0 Y hE hF hK hS hL hk hn hR ⟨q,c⟩ hN hX
 ·exact fil_15 xs F R g k a len cap la ll lc aa ac vc vd w0 Y hE hF hK hS hL hk hn hR q hN hX
 ·exact fil_16 xs F R g k a len cap la ll lc aa ac vc vd w0 Y hE hF hK hS hL hk hn hR q hN hX
theorem owns_mono {w:World} {B B':Nat} {e:TypeId} {s n:Nat} {v:Value} {ys:List Value} (h:w.ownsRow B e s v n ys) (hb:B'<=B):w.ownsRow B' e s v n ys:=by
 refine⟨h.1,?_⟩
 rcases h.2 with hn | ⟨g,cap,cur,rfl,hg,rest⟩
 ·exact .inl hn
 ·exact .inr ⟨g,cap,cur,rfl,Nat.le_trans hb hg,rest⟩
set_option maxRecDepth 100000 in
theorem l4Fill_is {lo:Nat} (a:Option Addr) (len cap:Nat) (xs:List Pl.Ln) (la:Option Addr) (ll lc:Nat) (aa:Option Addr) (ac:Nat) (t4 b4:Int) (w:World) (hln:LRow lo w a len cap xs) (hlb:LbRow w la ll lc xs (Pl.lbs xs xs.length)) (hat:AtRow w aa len ac xs) (hK:∀ i,i<xs.length->LnK (Pl.gl xs i)) (hS:∀ i,i<xs.length->Pl.stray xs i=false) (hL:∀ i,i<xs.length->Pl.lost xs i=false) (hn:len<=20000):Calls Tryz.prog 25 #[.slice a len cap,.agg #[.slice la ll lc,.slice aa len ac,.int .i64 t4,.int .i64 b4]] w (FilSaid xs w):=by
 have hxl:xs.length=len:=hln.len.1
 have HXL:Hid (xs.length=len):=hxl
 have HE:Hid (FilE lo xs ((w.alloc (.cells #[.slice la ll lc,.slice aa len ac,.int .i64 t4,.int .i64 b4] 55)).alloc (.cells #[.slice none 0 0,.slice none 0 0,.int .i64 0,.int .i64 0] 28)) w.heap.size (w.heap.size+1) a len cap la ll lc aa ac):=by
  have hb:Below w.heap.size w ((w.alloc (.cells #[.slice la ll lc,.slice aa len ac,.int .i64 t4,.int .i64 b4] 55)).alloc (.cells #[.slice none 0 0,.slice none 0 0,.int .i64 0,.int .i64 0] 28)):=(below_alloc w _).alloc (by simp) _
  have c:∀ j,((w.alloc (.cells #[.slice la ll lc,.slice aa len ac,.int .i64 t4,.int .i64 b4] 55)).alloc (.cells #[.slice none 0 0,.slice none 0 0,.int .i64 0,.int .i64 0] 28)).cell? ⟨w.heap.size,j,none⟩=(#[.slice la ll lc,.slice aa len ac,.int .i64 t4,.int .i64 b4]:Array Value)[j]?:=fun j=>by
   refine (Below.cell (below_alloc _ _) (p:=⟨w.heap.size,j,none⟩) (by simp)).trans ?_
   exact cell_of_row _ _ j _ 55 (0,0) (heap_alloc_new w _)
  exact⟨hln.keep hb,hlb.keep hb,hat.keep hb,c 0,c 1,new_at (by simp)⟩
 have HK:Hid (∀ i,i<xs.length->LnK (Pl.gl xs i)):=hK
 have HS:Hid (∀ i,i<xs.length->Pl.stray xs i=false):=hS
 have HL:Hid (∀ i,i<xs.length->Pl.lost xs i=false):=hL
 have hm:(len:Int)<=9223372036854775807:=by omega
 clear hln hlb hat hK hS hL hxl
 have h0s:((w.alloc (.cells #[.slice la ll lc,.slice aa len ac,.int .i64 t4,.int .i64 b4] 55)).alloc (.cells #[.slice none 0 0,.slice none 0 0,.int .i64 0,.int .i64 0] 28)).heap.size=w.heap.size+2:=by simp
 go_enter Tryz.func25,Tryz.ntmps25
 go_wp2_with fail
 go_loopw [7] (fun i wr=>∃ k:Nat,k<=len/\i=.int .i64 k/\(∀ j,j<k->Pl.badJ xs j=false)/\∃ vc vd,FilS ((w.alloc (.cells #[.slice la ll lc,.slice aa len ac,.int .i64 t4,.int .i64 b4] 55)).alloc (.cells #[.slice none 0 0,.slice none 0 0,.int .i64 0,.int .i64 0] 28)) wr (w.heap.size+2+1+1) vc vd (Pl.codeL ewI xs k) (Pl.dataL xs k)) (fun i _=>len-(intOf i).toNat)
 case atStart=>
  refine⟨0,Nat.zero_le _,rfl,fun j hj=>absurd hj (Nat.not_lt_zero _),.slice (some ⟨w.heap.size+2,0,none⟩) 0 0,.slice (some ⟨w.heap.size+2+1,0,none⟩) 0 0,new_at (by simp),?_,?_,?_,by rw[h0s];omega⟩
  ·refine⟨rfl,.inr ⟨w.heap.size+2,0,#[],rfl,by rw[h0s];omega,?_,Nat.le_refl _,Nat.zero_le _,rfl,rfl⟩⟩
   exact (Below.heap_alloc _ _ _ (by simp)).trans ((Below.heap_alloc _ _ _ (by simp)).trans (new_at (by rw[h0s])))
  ·refine⟨rfl,.inr ⟨w.heap.size+2+1,0,#[],rfl,by rw[h0s];omega,?_,Nat.le_refl _,Nat.zero_le _,rfl,rfl⟩⟩
   exact (Below.heap_alloc _ _ _ (by simp)).trans (new_at (by simp))
  ·exact ((below_alloc _ _).alloc (by simp) _).alloc (by simp <;> omega) _
 case round=>
  obtain⟨k,hk,rfl,hall,vc,vd,hf⟩:=hrel
  have HA:Hid (∀ j,j<k->Pl.badJ xs j=false):=hall
  have HF:Hid (FilS ((w.alloc (.cells #[.slice la ll lc,.slice aa len ac,.int .i64 t4,.int .i64 b4] 55)).alloc (.cells #[.slice none 0 0,.slice none 0 0,.int .i64 0,.int .i64 0] 28)) wr (w.heap.size+2+1+1) vc vd (Pl.codeL ewI xs k) (Pl.dataL xs k)):=hf
  clear hall hf
  by_cases hlt:k<len
  ·have hi:(k:Int)<(len:Int):=by omega
   go_upto_block 1 with fail
   refine fil_any xs w.heap.size (w.heap.size+1) (w.heap.size+2+1+1) k a len cap la ll lc aa ac vc vd ((w.alloc (.cells #[.slice la ll lc,.slice aa len ac,.int .i64 t4,.int .i64 b4] 55)).alloc (.cells #[.slice none 0 0,.slice none 0 0,.int .i64 0,.int .i64 0] 28)) wr (HE.out.keep HF.out.bel) HF.out HK.out HS.out (HL.out k (by rw[HXL.out];exact hlt)) hlt hn (by rw[h0s];omega) ?N ?X
   case N=>
    intro v5 v8 v9 v10 v11 v12 v13 v14 v15 v16 v26 v27 v28 v29 v30 v31 v32 v33 v34 v35 v36 v37 v38 v39 v40 v41 v42 v43 v44 v45 v46 v47 v48 v49 v50 v51 v52 v53 v54 v55 v56 v57 v58 v59 v60 v61 v62 v63 v64 v65 v66 v67 v68 v69 v70 v71 v72 v73 v74 v75 v76 v77 v78 v79 v80 v81 v82 v83 v84 v85 v86 v87 v88 v89 v90 v91 v92 v93 v94 v95 v96 v97 v98 v99 v100 v101 v102 v103 v104 v105 v106 v107 v108 v109 v110 v111 v112 v113 v114 v115 v116 v117 v118 v119 v120 v121 v122 v123 v124 v125 v126 v127 v128 v129 v130 v131 v132 v133 v134 v135 v136 v137 v138 v139 v140 v141 v142 v143 u vc2 vd2 hb2 hs2
    have HS2:Hid (FilS ((w.alloc (.cells #[.slice la ll lc,.slice aa len ac,.int .i64 t4,.int .i64 b4] 55)).alloc (.cells #[.slice none 0 0,.slice none 0 0,.int .i64 0,.int .i64 0] 28)) u (w.heap.size+2+1+1) vc2 vd2 (Pl.codeL ewI xs (k+1)) (Pl.dataL xs (k+1))):=hs2
    have HB2:Hid (Pl.badJ xs k=false):=hb2
    clear hs2 hb2
    go_wp2_with fail
    exact⟨⟨k+1,hlt,by go_num,Pl.all_next HA.out HB2.out,vc2,vd2,HS2.out⟩,by simp[intOf];omega⟩
   case X=>
    intro v8 v9 v10 v11 v12 v13 v14 v15 v16 v26 v27 v28 v29 v30 v31 v32 v33 v34 v35 v36 v37 v38 v39 v40 v41 v42 v43 v44 v45 v46 v47 v48 v49 v50 v51 v52 v53 v54 v55 v56 v57 v58 v59 v60 v61 v62 v63 v64 v65 v66 v67 v68 v69 v70 v71 v72 v73 v74 v75 v76 v77 v78 v79 v80 v81 v82 v83 v84 v85 v86 v87 v88 v89 v90 v91 v92 v93 v94 v95 v96 v97 v98 v99 v100 v101 v102 v103 v104 v105 v106 v107 v108 v109 v110 v111 v112 v113 v114 v115 v116 v117 v118 v119 v120 v121 v122 v123 v124 v125 v126 v127 v128 v129 v130 v131 v132 v133 v134 v135 v136 v137 v138 v139 v140 v141 v142 v143 u a9 n9 y9 b9 m9 z9 hb2 hrw hbe
    refine bodyPost_ret (v:=.tuple #[.agg #[.slice a9 n9 y9,.slice b9 m9 z9,.int .i64 0,.int .i64 0],.int .i64 (k:Nat)]) (results_cell_tmp Tryz.results25 _ _ (w.heap.size+1) 28 _ (0,0) _ _ rfl rfl hrw Tryz.underlying28 rfl (by kernel_rfl)) rfl ?_
    have hf1:=Pl.fst1_at (Pl.badJ xs) xs.length k (by rw[HXL.out];exact hlt) hb2 HA.out
    refine⟨a9,n9,y9,b9,m9,z9,by rw[hf1],?_,fun q=>?_⟩
    ·exact Below.trans ((below_alloc w _).alloc (by simp) _) (hbe.mono (by omega))
    ·rw[hf1]at q;omega
  ·have hi:¬ ((k:Int)<(len:Int)):=by omega
   have hkk:k=len:=by omega
   have HKL:Hid (k=len):=hkk
   obtain⟨a5,y5,hv5⟩:=own_slice HF.out.oc
   obtain⟨a6,y6,hv6⟩:=own_slice HF.out.od
   subst hv5 hv6
   have m0:=HF.out.c0;have m1:=HF.out.c1;have m2:=HF.out.c2;have m3:=HF.out.c3
   have hrw:=(HE.out.keep HF.out.bel).r
   have HRW:Hid (wr.heap[w.heap.size+1]?=some (.cells #[.slice none 0 0,.slice none 0 0,.int .i64 0,.int .i64 0] 28 (0,0))):=hrw
   have r0:=cell_of_row _ _ 0 _ 28 (0,0) hrw;have r1:=cell_of_row _ _ 1 _ 28 (0,0) hrw;have r2:=cell_of_row _ _ 2 _ 28 (0,0) hrw;have r3:=cell_of_row _ _ 3 _ 28 (0,0) hrw
   have rf:∀ j,wr.frozen? ⟨w.heap.size+1,j,none⟩=false:=fun j=>frozen_of_row _ _ j _ 28 hrw
   clear hrw hkk
   go_wp2
   refine bodyPost_ret (v:=.tuple #[.agg #[.slice a5 (Pl.codeL ewI xs k).length y5,.slice a6 (Pl.dataL xs k).length y6,.int .i64 0,.int .i64 0],.int .i64 (-1)]) (results_cell_tmp Tryz.results25 _ _ (w.heap.size+1) 28 _ (0,0) _ _ rfl rfl (row4L HRW.out) Tryz.underlying28 rfl (by kernel_rfl)) rfl ?_
   have hf1:=Pl.fst1_none (Pl.badJ xs) xs.length (fun j hj=>HA.out j (by rw[HKL.out,<- HXL.out];exact hj))
   have hkx:k=xs.length:=by rw[HKL.out,HXL.out]
   have hgb:Below w.heap.size w wr:=Below.trans ((below_alloc w _).alloc (by simp) _) (HF.out.bel.mono (by rw[h0s];omega))
   refine⟨a5,_,y5,a6,_,y6,by rw[hf1],?_,fun _=>⟨?_,?_⟩⟩
   ·exact Below.setCell (Below.setCell (Below.setCell (Below.setCell hgb (p:=⟨w.heap.size+1,0,none⟩) (by simp) _) (p:=⟨w.heap.size+1,1,none⟩) (by simp) _) (p:=⟨w.heap.size+1,2,none⟩) (by simp) _) (p:=⟨w.heap.size+1,3,none⟩) (by simp) _
   ·rw[<- hkx]
    refine owns_mono (owns_set (owns_set (owns_set (owns_set HF.out.oc ?_) ?_) ?_) ?_) (by rw[h0s];omega) <;> (rw[h0s];omega)
   ·rw[<- hkx]
    refine owns_mono (owns_set (owns_set (owns_set (owns_set HF.out.od ?_) ?_) ?_) ?_) (by rw[h0s];omega) <;> (rw[h0s];omega)
end Go.Proofs.YtlbomnnldkeocaaGreat.W
namespace Go.Proofs.YtlbomnnldkeocaaGreat.Pl
def startS:ByteArray:=⟨#[95,115,116,97,114,116]⟩
variable {ok:Nat->Bool} {xs:List Ln} {stack:Int}
theorem neg_of {z:Int} (h:z=-1):¬ 0<=z:=by omega
section
theorem ans2 (h1:xs.length<=20000) (h2:fst1 (fun i=>!ok i) xs.length=-1) (h3:0<=fst1 (stray xs) xs.length):ansL ok xs stack=(2,fst1 (stray xs) xs.length):=by
 unfold ansL;rw[if_neg (by omega),if_neg (neg_of h2),if_pos h3]
theorem ans3 (h1:xs.length<=20000) (h2:fst1 (fun i=>!ok i) xs.length=-1) (h3:fst1 (stray xs) xs.length=-1) (h4:0<=fst1 (twice xs) xs.length):ansL ok xs stack=(3,fst1 (twice xs) xs.length):=by
 unfold ansL;rw[if_neg (by omega),if_neg (neg_of h2),if_neg (neg_of h3),if_pos h4]
theorem ans4 (h1:xs.length<=20000) (h2:fst1 (fun i=>!ok i) xs.length=-1) (h3:fst1 (stray xs) xs.length=-1) (h4:fst1 (twice xs) xs.length=-1) (h5:0<=fst1 (lost xs) xs.length):ansL ok xs stack=(4,fst1 (lost xs) xs.length):=by
 unfold ansL;rw[if_neg (by omega),if_neg (neg_of h2),if_neg (neg_of h3),if_neg (neg_of h4),if_pos h5]
theorem ans5 (h1:xs.length<=20000) (h2:fst1 (fun i=>!ok i) xs.length=-1) (h3:fst1 (stray xs) xs.length=-1) (h4:fst1 (twice xs) xs.length=-1) (h5:fst1 (lost xs) xs.length=-1) (h6:(cu xs xs.length).t=0\/65536<(cu xs xs.length).t):ansL ok xs stack=(5,0):=by
 unfold ansL;rw[if_neg (by omega),if_neg (neg_of h2),if_neg (neg_of h3),if_neg (neg_of h4),if_neg (neg_of h5),if_pos h6]
theorem ans6 (h1:xs.length<=20000) (h2:fst1 (fun i=>!ok i) xs.length=-1) (h3:fst1 (stray xs) xs.length=-1) (h4:fst1 (twice xs) xs.length=-1) (h5:fst1 (lost xs) xs.length=-1) (h6:¬ ((cu xs xs.length).t=0\/65536<(cu xs xs.length).t)) (h7:65536<(cu xs xs.length).b):ansL ok xs stack=(6,0):=by
 unfold ansL;rw[if_neg (by omega),if_neg (neg_of h2),if_neg (neg_of h3),if_neg (neg_of h4),if_neg (neg_of h5),if_neg h6,if_pos h7]
theorem ans7 (h1:xs.length<=20000) (h2:fst1 (fun i=>!ok i) xs.length=-1) (h3:fst1 (stray xs) xs.length=-1) (h4:fst1 (twice xs) xs.length=-1) (h5:fst1 (lost xs) xs.length=-1) (h6:¬ ((cu xs xs.length).t=0\/65536<(cu xs xs.length).t)) (h7:¬ 65536<(cu xs xs.length).b) (h8:0<=fst1 (badJ xs) xs.length):ansL ok xs stack=(7,fst1 (badJ xs) xs.length):=by
 unfold ansL;rw[if_neg (by omega),if_neg (neg_of h2),if_neg (neg_of h3),if_neg (neg_of h4),if_neg (neg_of h5),if_neg h6,if_neg h7,if_pos h8]
theorem ans8 (h1:xs.length<=20000) (h2:fst1 (fun i=>!ok i) xs.length=-1) (h3:fst1 (stray xs) xs.length=-1) (h4:fst1 (twice xs) xs.length=-1) (h5:fst1 (lost xs) xs.length=-1) (h6:¬ ((cu xs xs.length).t=0\/65536<(cu xs xs.length).t)) (h7:¬ 65536<(cu xs xs.length).b) (h8:fst1 (badJ xs) xs.length=-1) (h9:∀ j,lb xs startS=some j->(cu xs j).d=true\/(cu xs xs.length).t<=(cu xs j).t):ansL ok xs stack=(8,0):=by
 unfold ansL;rw[if_neg (by omega),if_neg (neg_of h2),if_neg (neg_of h3),if_neg (neg_of h4),if_neg (neg_of h5),if_neg h6,if_neg h7,if_neg (neg_of h8)]
 show (match lb xs startS with | none=>_ | some j=>_)=_
 cases hl:lb xs startS with
 | none=>rfl
 | some j=>exact if_pos (h9 j hl)
theorem ans9 (h1:xs.length<=20000) (h2:fst1 (fun i=>!ok i) xs.length=-1) (h3:fst1 (stray xs) xs.length=-1) (h4:fst1 (twice xs) xs.length=-1) (h5:fst1 (lost xs) xs.length=-1) (h6:¬ ((cu xs xs.length).t=0\/65536<(cu xs xs.length).t)) (h7:¬ 65536<(cu xs xs.length).b) (h8:fst1 (badJ xs) xs.length=-1) {j:Nat} (h9:lb xs startS=some j) (h10:¬ ((cu xs j).d=true\/(cu xs xs.length).t<=(cu xs j).t)) (h11:¬ (0<=stack/\stack<=65536/\stack % 16=0)):ansL ok xs stack=(9,0):=by
 unfold ansL;rw[if_neg (by omega),if_neg (neg_of h2),if_neg (neg_of h3),if_neg (neg_of h4),if_neg (neg_of h5),if_neg h6,if_neg h7,if_neg (neg_of h8)]
 show (match lb xs startS with | none=>_ | some j=>_)=_
 rw[h9]
 show ite _ _ _=_
 rw[if_neg h10,if_neg h11]
theorem ans0 (h1:xs.length<=20000) (h2:fst1 (fun i=>!ok i) xs.length=-1) (h3:fst1 (stray xs) xs.length=-1) (h4:fst1 (twice xs) xs.length=-1) (h5:fst1 (lost xs) xs.length=-1) (h6:¬ ((cu xs xs.length).t=0\/65536<(cu xs xs.length).t)) (h7:¬ 65536<(cu xs xs.length).b) (h8:fst1 (badJ xs) xs.length=-1) {j:Nat} (h9:lb xs startS=some j) (h10:¬ ((cu xs j).d=true\/(cu xs xs.length).t<=(cu xs j).t)) (h11:0<=stack/\stack<=65536/\stack % 16=0):ansL ok xs stack=(0,0):=by
 unfold ansL;rw[if_neg (by omega),if_neg (neg_of h2),if_neg (neg_of h3),if_neg (neg_of h4),if_neg (neg_of h5),if_neg h6,if_neg h7,if_neg (neg_of h8)]
 show (match lb xs startS with | none=>_ | some j=>_)=_
 rw[h9]
 show ite _ _ _=_
 rw[if_neg h10,if_pos h11]
end
theorem ans1a (h:20000<xs.length):ansL ok xs stack=(1,20000):=by unfold ansL;rw[if_pos h]
theorem ans1b (h1:xs.length<=20000) (h2:0<=fst1 (fun i=>!ok i) xs.length):ansL ok xs stack=(1,fst1 (fun i=>!ok i) xs.length):=by
 unfold ansL;rw[if_neg (by omega),if_pos h2]
theorem fst1_neg {p:Nat->Bool} {n:Nat} (h:¬ 0<=fst1 p n):fst1 p n=-1/\∀ j,j<n->p j=false:=by
 rcases fst1_cases p n with q | ⟨k,_,q,_⟩
 ·exact q
 ·rw[q]at h;omega
end Go.Proofs.YtlbomnnldkeocaaGreat.Pl
namespace Go.Proofs.YtlbomnnldkeocaaGreat.W
open Go.RowKit
def AsmI (xs:List Pl.Ln) (stack code:Int) (B:Nat) (w:World) (vc vd:Value) (en sk:Int):Prop:=
 (code=0->w.ownsRow B 3 1 vc (Pl.codeL ewI xs xs.length).length (Pl.ics (Pl.codeL ewI xs xs.length))/\w.ownsRow B 5 1 vd (Pl.dataL xs xs.length).length (Pl.bcs (Pl.dataL xs xs.length))/\en=Pl.adr xs Pl.startS/\sk=stack)/\
 (code≠0->vc=.slice none 0 0/\vd=.slice none 0 0/\en=0/\sk=0)
def AsmSaid (xs:List Pl.Ln) (stack:Int) (w:World) (e:Ending) (w':World):Prop:=
 ∃ (vc vd:Value) (en sk:Int),e=.returned (.tuple #[.agg #[vc,vd,.int .i64 en,.int .i64 sk],.int .i64 (Pl.ansL (fun i=>okL (Pl.gl xs i)) xs stack).1,.int .i64 (Pl.ansL (fun i=>okL (Pl.gl xs i)) xs stack).2])/\Below w.heap.size w w'/\AsmI xs stack (Pl.ansL (fun i=>okL (Pl.gl xs i)) xs stack).1 w.heap.size w' vc vd en sk
theorem AsmSaid.no {xs:List Pl.Ln} {stack c p:Int} {w w':World} (h:Pl.ansL (fun i=>okL (Pl.gl xs i)) xs stack=(c,p)) (hc:c≠0) (hb:Below w.heap.size w w'):AsmSaid xs stack w (.returned (.tuple #[.agg #[.slice none 0 0,.slice none 0 0,.int .i64 0,.int .i64 0],.int .i64 c,.int .i64 p])) w':=by
 refine⟨.slice none 0 0,.slice none 0 0,0,0,by rw[h],hb,fun q=>?_,fun _=>⟨rfl,rfl,rfl,rfl⟩⟩
 rw[h]at q;exact absurd q hc
theorem results_cell_tmp2 {P:Program} {fn:Func} {p q r:Tmp} {ty:TypeId} (h:fn.results=#[.cell p ty,.tmp q,.tmp r]) (tmps:Array Value) (w:World) (g:Nat) (t:TypeId) (cs:Array Value) (fr:Nat × Nat) (d:TypeDesc) (v u:Value)
  (hp:tmps.getD p undef=.pointer (some ⟨g,0,none⟩)) (hq:tmps.getD q undef=v) (hr:tmps.getD r undef=u) (hg:w.heap[g]?=some (.cells cs t fr))
  (hu:P.underlying ty=some d) (hd:(match d with | .struct _ | .array _ _=>true | _=>false)=true) (hi:(P.info? ty).map (·.size)=some cs.size) :
  (results fn tmps).run P w=.ok (.tuple #[.agg cs,v,u]) w:=by
 have hp':tmps[p]?.getD undef=.pointer (some ⟨g,0,none⟩):=by simpa using hp
 have hq':tmps[q]?.getD undef=v:=by simpa using hq
 have hr':tmps[r]?.getD undef=u:=by simpa using hr
 simp[results,h,hp',hq',hr',asAddr,run_loadVar_row w g t ty cs fr d hg hu hd hi]
def startsF (n:Nat):Code->Bool
 | .region m _ _=>m == n
 | .seq a _=>startsF n a
 | _=>false
def codeF (n:Nat):Code->Option Code
 | .seq a b=>if startsF n a then some (.seq a b) else match codeF n a with
  | some c=>some c
  | none=>codeF n b
 | .block _ c=>codeF n c
 | .loop c=>codeF n c
 | .scope c=>codeF n c
 | _=>none
noncomputable def asmC (n:Nat):Code:=((Tryz.f6.body.bind (codeR n)).getD .skip)
noncomputable def asmF (n:Nat):Code:=((Tryz.f6.body.bind (codeF n)).getD .skip)
def st4 (u:World) (R:Nat):World:=(((u.setCell ⟨R,0,none⟩ (.slice none 0 0)).setCell ⟨R,1,none⟩ (.slice none 0 0)).setCell ⟨R,2,none⟩ (.int .i64 0)).setCell ⟨R,3,none⟩ (.int .i64 0)
def asm10Mk (R N7 g9:Nat) (a:Option Addr) (len cap:Nat) (la:Option Addr) (ll lc:Nat) (z:Int)  (c1 c2 c3 c8 c9 c10 c11 c12 c13 c14 c15 c16 c17 c18 c19 c20 c21 c22 c23 c24 c25 c26 c27 c28 c29 c30 c31 c32 c33 c34 c38 c39 c40 c41 c42 c43 c44 c45 c46 c47 c48 c49 c50 c51 c52 c53 c54 c55 c56 c57 c58 c59 c60 c61 c62 c63 c64 c65 c66 c67 c68 c69 c70 c71 c72 c73 c74 c75 c76 c77 c78 c79 c80 c81 c82 c83 c84 c85 c86 c87 c88 c89 c90 c91 c92 c93 c94 c95 c96 c97 c98 c99 c100 c101 c102 c103 c104 c105 c106 c107 c108 c109 c110 c111 c112 c113 c114 c115 c116 c117 c118 c119 c120 c121 d5 d6 d35 d36 d37:Value)  (L:Array Bool):Act:={ tmps:=#[.slice a len cap,c1,c2,c3,.pointer (some ⟨R,0,none⟩),sld d5 L 4 (.int .i64 2),sld d6 L 5 (.int .i64 z),.pointer (some ⟨N7,0,none⟩),c8,c9,c10,c11,c12,c13,c14,c15,c16,c17,c18,c19,c20,c21,c22,c23,c24,c25,c26,c27,c28,c29,c30,c31,c32,c33,c34,sld d35 L 0 (.agg #[.slice none 0 0,.slice none 0 0,.int .i64 0,.int .i64 0]),sld d36 L 1 (.slice a len cap),sld d37 L 2 (.int .i64 z),c38,c39,c40,c41,c42,c43,c44,c45,c46,c47,c48,c49,c50,c51,c52,c53,c54,c55,c56,c57,c58,c59,c60,c61,c62,c63,c64,c65,c66,c67,c68,c69,c70,c71,c72,c73,c74,c75,c76,c77,c78,c79,c80,c81,c82,c83,c84,c85,c86,c87,c88,c89,c90,c91,c92,c93,c94,c95,c96,c97,c98,c99,c100,c101,c102,c103,c104,c105,c106,c107,c108,c109,c110,c111,c112,c113,c114,c115,c116,c117,c118,c119,c120,c121],defers:=[] }
set_option maxRecDepth 100000 in
theorem asm10 (R N7 g9:Nat) (a:Option Addr) (len cap:Nat) (la:Option Addr) (ll lc:Nat) (z:Int) {c1 c2 c3 c8 c9 c10 c11 c12 c13 c14 c15 c16 c17 c18 c19 c20 c21 c22 c23 c24 c25 c26 c27 c28 c29 c30 c31 c32 c33 c34 c38 c39 c40 c41 c42 c43 c44 c45 c46 c47 c48 c49 c50 c51 c52 c53 c54 c55 c56 c57 c58 c59 c60 c61 c62 c63 c64 c65 c66 c67 c68 c69 c70 c71 c72 c73 c74 c75 c76 c77 c78 c79 c80 c81 c82 c83 c84 c85 c86 c87 c88 c89 c90 c91 c92 c93 c94 c95 c96 c97 c98 c99 c100 c101 c102 c103 c104 c105 c106 c107 c108 c109 c110 c111 c112 c113 c114 c115 c116 c117 c118 c119 c120 c121 d5 d6 d35 d36 d37:Value} (Y:World) (hN:Y.heap[N7]?=some (.cells #[.slice none 0 0,.slice none 0 0,.int .i64 0,.int .i64 0] 28 (0,0))) (hR:Y.heap[R]?=some (.cells #[.slice none 0 0,.slice none 0 0,.int .i64 0,.int .i64 0] 28 (0,0))) (hT:Calls Tryz.prog 21 #[.slice a len cap] Y.drew fun e w'=>e=.returned (.int .i64 z)/\Below Y.drew.heap.size Y.drew w') {Q:Exit->Act->World->Prop}
  (hK:∀ w1,Below Y.heap.size Y w1->Q .normal { tmps:=#[.slice a len cap,c1,c2,c3,.pointer (some ⟨R,0,none⟩),.int .i64 2,.int .i64 z,.pointer (some ⟨N7,0,none⟩),c8,c9,c10,c11,c12,c13,c14,c15,c16,c17,c18,c19,c20,c21,c22,c23,c24,c25,c26,c27,c28,c29,c30,c31,c32,c33,c34,.agg #[.slice none 0 0,.slice none 0 0,.int .i64 0,.int .i64 0],.slice a len cap,.int .i64 z,c38,c39,c40,c41,c42,c43,c44,c45,c46,c47,c48,c49,c50,c51,c52,c53,c54,c55,c56,c57,c58,c59,c60,c61,c62,c63,c64,c65,c66,c67,c68,c69,c70,c71,c72,c73,c74,c75,c76,c77,c78,c79,c80,c81,c82,c83,c84,c85,c86,c87,c88,c89,c90,c91,c92,c93,c94,c95,c96,c97,c98,c99,c100,c101,c102,c103,c104,c105,c106,c107,c108,c109,c110,c111,c112,c113,c114,c115,c116,c117,c118,c119,c120,c121],defers:=[] } (st4 w1 R)) :
  (asmC 10).wp Tryz.prog Q { tmps:=#[.slice a len cap,c1,c2,c3,.pointer (some ⟨R,0,none⟩),d5,d6,.pointer (some ⟨N7,0,none⟩),c8,c9,c10,c11,c12,c13,c14,c15,c16,c17,c18,c19,c20,c21,c22,c23,c24,c25,c26,c27,c28,c29,c30,c31,c32,c33,c34,d35,d36,d37,c38,c39,c40,c41,c42,c43,c44,c45,c46,c47,c48,c49,c50,c51,c52,c53,c54,c55,c56,c57,c58,c59,c60,c61,c62,c63,c64,c65,c66,c67,c68,c69,c70,c71,c72,c73,c74,c75,c76,c77,c78,c79,c80,c81,c82,c83,c84,c85,c86,c87,c88,c89,c90,c91,c92,c93,c94,c95,c96,c97,c98,c99,c100,c101,c102,c103,c104,c105,c106,c107,c108,c109,c110,c111,c112,c113,c114,c115,c116,c117,c118,c119,c120,c121],defers:=[] } Y:=by
 have HKt:Hid _:=hK
 clear hK
 have j0:=cell_of_row Y.drew _ 0 _ 28 (0,0) hN
 have j1:=cell_of_row Y.drew _ 1 _ 28 (0,0) hN
 have j2:=cell_of_row Y.drew _ 2 _ 28 (0,0) hN
 have j3:=cell_of_row Y.drew _ 3 _ 28 (0,0) hN
 have r0:=cell_of_row Y.drew _ 0 _ 28 (0,0) hR
 have r1:=cell_of_row Y.drew _ 1 _ 28 (0,0) hR
 have r2:=cell_of_row Y.drew _ 2 _ 28 (0,0) hR
 have r3:=cell_of_row Y.drew _ 3 _ 28 (0,0) hR
 simp only[List.getElem?_toArray,List.getElem?_cons_zero,List.getElem?_cons_succ]at j0 j1 j2 j3 r0 r1 r2 r3
 have rf:∀ j,Y.drew.frozen? ⟨R,j,none⟩=false:=fun j=>frozen_of_row Y.drew _ j _ 28 hR
 have HT:Hid _:=hT
 clear hT hN hR
 conv=>arg 2;whnf
 dsimp only
 refine wp_region_any (by kernel_rfl) ?_
 change wpAny _ _ _ _ _ _ _ (World.drew _)
 refine wpAny_inw (fun L act0 u=>∃ w1,act0=asm10Mk R N7 g9 a len cap la ll lc z  c1 c2 c3 c8 c9 c10 c11 c12 c13 c14 c15 c16 c17 c18 c19 c20 c21 c22 c23 c24 c25 c26 c27 c28 c29 c30 c31 c32 c33 c34 c38 c39 c40 c41 c42 c43 c44 c45 c46 c47 c48 c49 c50 c51 c52 c53 c54 c55 c56 c57 c58 c59 c60 c61 c62 c63 c64 c65 c66 c67 c68 c69 c70 c71 c72 c73 c74 c75 c76 c77 c78 c79 c80 c81 c82 c83 c84 c85 c86 c87 c88 c89 c90 c91 c92 c93 c94 c95 c96 c97 c98 c99 c100 c101 c102 c103 c104 c105 c106 c107 c108 c109 c110 c111 c112 c113 c114 c115 c116 c117 c118 c119 c120 c121 d5 d6 d35 d36 d37  L/\TwoW Y.drew (fun u=>Below Y.drew.heap.size Y.drew u) (fun u=>u=st4 w1 R) 2 3 w1 L u) ?done (by kernel_rfl) ?step _ 6 _ _ (by kernel_rfl) ?init (by decide)
 case init=>exact⟨Y,by simp only[asm10Mk,sld_no (up_init _ _)],TwoW.init⟩
 case step=>
  intro L act w i o hI hlt hs nl hC hd ho K hK
  obtain⟨w1,rfl,hW⟩:=hI
  have hi_lt:i<6:=(Array.getElem?_eq_some_iff.1 ho).1
  rcases (show i=0\/i=1\/i=2\/i=3\/i=4\/i=5 by omega) with rfl | rfl | rfl | rfl | rfl | rfl
  ·change some _=some o at ho
   cases ho
   have n3:up L 3=false:=hC.no nl 3 rfl (by kernel_rfl)
   have x0:=hW.cell n3 j0 (fun q=>below_cell q j0)
   have x1:=hW.cell n3 j1 (fun q=>below_cell q j1)
   have x2:=hW.cell n3 j2 (fun q=>below_cell q j2)
   have x3:=hW.cell n3 j3 (fun q=>below_cell q j3)
   simp only[asm10Mk]
   go_simp
   exact hK _ _ ⟨w1,by simp only[asm10Mk,sld_set hlt,reduceIte,Nat.reduceEqDiff];try rfl,(hW.keep hlt (by decide) (by decide))⟩
  ·change some _=some o at ho
   cases ho
   simp only[asm10Mk]
   go_simp
   exact hK _ _ ⟨w1,by simp only[asm10Mk,sld_set hlt,reduceIte,Nat.reduceEqDiff];try rfl,(hW.keep hlt (by decide) (by decide))⟩
  ·change some _=some o at ho
   cases ho
   have q1:up L 1=true:=hd { on:=1,ground:=.data } (by simp) rfl
   have n3:up L 3=false:=hC.no nl 3 rfl (by kernel_rfl)
   obtain rfl:=hW.1 nl
   simp only[asm10Mk,sld_yes q1]
   go_simp
   refine Calls.mono HT.out ?_
   rintro e w2 ⟨rfl,d1⟩
   go_simp
   exact hK _ _ ⟨w2,by simp only[asm10Mk,sld_set hlt,sld_yes q1,reduceIte,Nat.reduceEqDiff];try rfl,TwoW.first hlt (by decide) n3 d1⟩
  ·change some _=some o at ho
   cases ho
   have q0:up L 0=true:=hd { on:=0,ground:=.data } (by simp) rfl
   have q2:up L 2=true:=hd { on:=2,ground:=.chain } (by simp) rfl
   obtain⟨d1,y4,_⟩:=hW.2 q2
   obtain rfl:=y4 nl
   have x0:=below_cell d1 r0
   have x1:=below_cell d1 r1
   have x2:=below_cell d1 r2
   have x3:=below_cell d1 r3
   have xf:∀ j,w.frozen? ⟨R,j,none⟩=false:=fun j=>(Below.frozen d1 (p:=⟨R,j,none⟩) (show R<_ from block_lt_of_cell r0)).trans (rf j)
   simp only[asm10Mk,sld_yes q0]
   go_simp
   exact hK _ _ ⟨w,by simp only[asm10Mk,sld_set hlt,sld_yes q0,reduceIte,Nat.reduceEqDiff];try rfl,hW.second hlt q2 rfl⟩
  ·change some _=some o at ho
   cases ho
   simp only[asm10Mk]
   go_simp
   exact hK _ _ ⟨w1,by simp only[asm10Mk,sld_set hlt,reduceIte,Nat.reduceEqDiff];try rfl,(hW.keep hlt (by decide) (by decide))⟩
  ·change some _=some o at ho
   cases ho
   have q2:up L 2=true:=hd { on:=2,ground:=.data } (by simp) rfl
   simp only[asm10Mk,sld_yes q2]
   go_simp
   exact hK _ _ ⟨w1,by simp only[asm10Mk,sld_set hlt,sld_yes q2,reduceIte,Nat.reduceEqDiff];try rfl,(hW.keep hlt (by decide) (by decide))⟩
 case done=>
  rintro L a u ⟨w1,rfl,hW⟩ hall
  simp only[asm10Mk,sld_yes (hall 0 (by decide)),sld_yes (hall 1 (by decide)),sld_yes (hall 2 (by decide)),sld_yes (hall 3 (by decide)),sld_yes (hall 4 (by decide)),sld_yes (hall 5 (by decide))]
  obtain⟨d1,_,hB⟩:=hW.2 (hall 2 (by decide))
  obtain rfl:=hB (hall 3 (by decide))
  exact HKt.out w1 (Below.trans (Below.drew (Below.refl _ _)) d1)
def asm13Mk (R N7 g9:Nat) (a:Option Addr) (len cap:Nat) (la:Option Addr) (ll lc:Nat) (z:Int)  (c0 c1 c2 c3 c8 c10 c11 c12 c13 c14 c15 c16 c17 c18 c19 c20 c21 c22 c23 c24 c25 c26 c27 c28 c29 c30 c31 c32 c33 c34 c35 c36 c37 c38 c39 c40 c41 c42 c43 c48 c49 c50 c51 c52 c53 c54 c55 c56 c57 c58 c59 c60 c61 c62 c63 c64 c65 c66 c67 c68 c69 c70 c71 c72 c73 c74 c75 c76 c77 c78 c79 c80 c81 c82 c83 c84 c85 c86 c87 c88 c89 c90 c91 c92 c93 c94 c95 c96 c97 c98 c99 c100 c101 c102 c103 c104 c105 c106 c107 c108 c109 c110 c111 c112 c113 c114 c115 c116 c117 c118 c119 c120 c121 d5 d6 d44 d45 d46 d47:Value)  (L:Array Bool):Act:={ tmps:=#[c0,c1,c2,c3,.pointer (some ⟨R,0,none⟩),sld d5 L 5 (.int .i64 3),sld d6 L 6 (.int .i64 z),.pointer (some ⟨N7,0,none⟩),c8,.pointer (some ⟨g9,0,none⟩),c10,c11,c12,c13,c14,c15,c16,c17,c18,c19,c20,c21,c22,c23,c24,c25,c26,c27,c28,c29,c30,c31,c32,c33,c34,c35,c36,c37,c38,c39,c40,c41,c42,c43,sld d44 L 0 (.agg #[.slice none 0 0,.slice none 0 0,.int .i64 0,.int .i64 0]),sld d45 L 1 (.pointer (some ⟨g9,0,none⟩)),sld d46 L 2 (.slice la ll lc),sld d47 L 3 (.int .i64 z),c48,c49,c50,c51,c52,c53,c54,c55,c56,c57,c58,c59,c60,c61,c62,c63,c64,c65,c66,c67,c68,c69,c70,c71,c72,c73,c74,c75,c76,c77,c78,c79,c80,c81,c82,c83,c84,c85,c86,c87,c88,c89,c90,c91,c92,c93,c94,c95,c96,c97,c98,c99,c100,c101,c102,c103,c104,c105,c106,c107,c108,c109,c110,c111,c112,c113,c114,c115,c116,c117,c118,c119,c120,c121],defers:=[] }
set_option maxRecDepth 100000 in
theorem asm13 (R N7 g9:Nat) (a:Option Addr) (len cap:Nat) (la:Option Addr) (ll lc:Nat) (z:Int) {c0 c1 c2 c3 c8 c10 c11 c12 c13 c14 c15 c16 c17 c18 c19 c20 c21 c22 c23 c24 c25 c26 c27 c28 c29 c30 c31 c32 c33 c34 c35 c36 c37 c38 c39 c40 c41 c42 c43 c48 c49 c50 c51 c52 c53 c54 c55 c56 c57 c58 c59 c60 c61 c62 c63 c64 c65 c66 c67 c68 c69 c70 c71 c72 c73 c74 c75 c76 c77 c78 c79 c80 c81 c82 c83 c84 c85 c86 c87 c88 c89 c90 c91 c92 c93 c94 c95 c96 c97 c98 c99 c100 c101 c102 c103 c104 c105 c106 c107 c108 c109 c110 c111 c112 c113 c114 c115 c116 c117 c118 c119 c120 c121 d5 d6 d44 d45 d46 d47:Value} (Y:World) (hN:Y.heap[N7]?=some (.cells #[.slice none 0 0,.slice none 0 0,.int .i64 0,.int .i64 0] 28 (0,0))) (hR:Y.heap[R]?=some (.cells #[.slice none 0 0,.slice none 0 0,.int .i64 0,.int .i64 0] 28 (0,0))) (hl:Y.cell? ⟨g9,0,none⟩=some (.slice la ll lc)) (hT:Calls Tryz.prog 23 #[.slice la ll lc] Y.drew fun e w'=>e=.returned (.int .i64 z)/\Below Y.drew.heap.size Y.drew w') {Q:Exit->Act->World->Prop}
  (hK:∀ w1,Below Y.heap.size Y w1->Q .normal { tmps:=#[c0,c1,c2,c3,.pointer (some ⟨R,0,none⟩),.int .i64 3,.int .i64 z,.pointer (some ⟨N7,0,none⟩),c8,.pointer (some ⟨g9,0,none⟩),c10,c11,c12,c13,c14,c15,c16,c17,c18,c19,c20,c21,c22,c23,c24,c25,c26,c27,c28,c29,c30,c31,c32,c33,c34,c35,c36,c37,c38,c39,c40,c41,c42,c43,.agg #[.slice none 0 0,.slice none 0 0,.int .i64 0,.int .i64 0],.pointer (some ⟨g9,0,none⟩),.slice la ll lc,.int .i64 z,c48,c49,c50,c51,c52,c53,c54,c55,c56,c57,c58,c59,c60,c61,c62,c63,c64,c65,c66,c67,c68,c69,c70,c71,c72,c73,c74,c75,c76,c77,c78,c79,c80,c81,c82,c83,c84,c85,c86,c87,c88,c89,c90,c91,c92,c93,c94,c95,c96,c97,c98,c99,c100,c101,c102,c103,c104,c105,c106,c107,c108,c109,c110,c111,c112,c113,c114,c115,c116,c117,c118,c119,c120,c121],defers:=[] } (st4 w1 R)) :
  (asmC 13).wp Tryz.prog Q { tmps:=#[c0,c1,c2,c3,.pointer (some ⟨R,0,none⟩),d5,d6,.pointer (some ⟨N7,0,none⟩),c8,.pointer (some ⟨g9,0,none⟩),c10,c11,c12,c13,c14,c15,c16,c17,c18,c19,c20,c21,c22,c23,c24,c25,c26,c27,c28,c29,c30,c31,c32,c33,c34,c35,c36,c37,c38,c39,c40,c41,c42,c43,d44,d45,d46,d47,c48,c49,c50,c51,c52,c53,c54,c55,c56,c57,c58,c59,c60,c61,c62,c63,c64,c65,c66,c67,c68,c69,c70,c71,c72,c73,c74,c75,c76,c77,c78,c79,c80,c81,c82,c83,c84,c85,c86,c87,c88,c89,c90,c91,c92,c93,c94,c95,c96,c97,c98,c99,c100,c101,c102,c103,c104,c105,c106,c107,c108,c109,c110,c111,c112,c113,c114,c115,c116,c117,c118,c119,c120,c121],defers:=[] } Y:=by
 have HKt:Hid _:=hK
 clear hK
 have j0:=cell_of_row Y.drew _ 0 _ 28 (0,0) hN
 have j1:=cell_of_row Y.drew _ 1 _ 28 (0,0) hN
 have j2:=cell_of_row Y.drew _ 2 _ 28 (0,0) hN
 have j3:=cell_of_row Y.drew _ 3 _ 28 (0,0) hN
 have r0:=cell_of_row Y.drew _ 0 _ 28 (0,0) hR
 have r1:=cell_of_row Y.drew _ 1 _ 28 (0,0) hR
 have r2:=cell_of_row Y.drew _ 2 _ 28 (0,0) hR
 have r3:=cell_of_row Y.drew _ 3 _ 28 (0,0) hR
 simp only[List.getElem?_toArray,List.getElem?_cons_zero,List.getElem?_cons_succ]at j0 j1 j2 j3 r0 r1 r2 r3
 have rf:∀ j,Y.drew.frozen? ⟨R,j,none⟩=false:=fun j=>frozen_of_row Y.drew _ j _ 28 hR
 have jl:Y.drew.cell? ⟨g9,0,none⟩=some (.slice la ll lc):=hl
 clear hl
 have HT:Hid _:=hT
 clear hT hN hR
 conv=>arg 2;whnf
 dsimp only
 refine wp_region_any (by kernel_rfl) ?_
 change wpAny _ _ _ _ _ _ _ (World.drew _)
 refine wpAny_inw (fun L act0 u=>∃ w1,act0=asm13Mk R N7 g9 a len cap la ll lc z  c0 c1 c2 c3 c8 c10 c11 c12 c13 c14 c15 c16 c17 c18 c19 c20 c21 c22 c23 c24 c25 c26 c27 c28 c29 c30 c31 c32 c33 c34 c35 c36 c37 c38 c39 c40 c41 c42 c43 c48 c49 c50 c51 c52 c53 c54 c55 c56 c57 c58 c59 c60 c61 c62 c63 c64 c65 c66 c67 c68 c69 c70 c71 c72 c73 c74 c75 c76 c77 c78 c79 c80 c81 c82 c83 c84 c85 c86 c87 c88 c89 c90 c91 c92 c93 c94 c95 c96 c97 c98 c99 c100 c101 c102 c103 c104 c105 c106 c107 c108 c109 c110 c111 c112 c113 c114 c115 c116 c117 c118 c119 c120 c121 d5 d6 d44 d45 d46 d47  L/\TwoW Y.drew (fun u=>Below Y.drew.heap.size Y.drew u) (fun u=>u=st4 w1 R) 3 4 w1 L u) ?done (by kernel_rfl) ?step _ 7 _ _ (by kernel_rfl) ?init (by decide)
 case init=>exact⟨Y,by simp only[asm13Mk,sld_no (up_init _ _)],TwoW.init⟩
 case step=>
  intro L act w i o hI hlt hs nl hC hd ho K hK
  obtain⟨w1,rfl,hW⟩:=hI
  have hi_lt:i<7:=(Array.getElem?_eq_some_iff.1 ho).1
  rcases (show i=0\/i=1\/i=2\/i=3\/i=4\/i=5\/i=6 by omega) with rfl | rfl | rfl | rfl | rfl | rfl | rfl
  ·change some _=some o at ho
   cases ho
   have n4:up L 4=false:=hC.no nl 4 rfl (by kernel_rfl)
   have x0:=hW.cell n4 j0 (fun q=>below_cell q j0)
   have x1:=hW.cell n4 j1 (fun q=>below_cell q j1)
   have x2:=hW.cell n4 j2 (fun q=>below_cell q j2)
   have x3:=hW.cell n4 j3 (fun q=>below_cell q j3)
   simp only[asm13Mk]
   go_simp
   exact hK _ _ ⟨w1,by simp only[asm13Mk,sld_set hlt,reduceIte,Nat.reduceEqDiff];try rfl,(hW.keep hlt (by decide) (by decide))⟩
  ·change some _=some o at ho
   cases ho
   simp only[asm13Mk]
   go_simp
   exact hK _ _ ⟨w1,by simp only[asm13Mk,sld_set hlt,reduceIte,Nat.reduceEqDiff];try rfl,(hW.keep hlt (by decide) (by decide))⟩
  ·change some _=some o at ho
   cases ho
   have q1:up L 1=true:=hd { on:=1,ground:=.data } (by simp) rfl
   have n3:up L 3=false:=hC.no nl 3 rfl (by kernel_rfl)
   obtain rfl:=hW.1 n3
   simp only[asm13Mk,sld_yes q1]
   go_simp
   exact hK _ _ ⟨w1,by simp only[asm13Mk,sld_set hlt,sld_yes q1,reduceIte,Nat.reduceEqDiff];try rfl,(hW.keep hlt (by decide) (by decide))⟩
  ·change some _=some o at ho
   cases ho
   have q2:up L 2=true:=hd { on:=2,ground:=.data } (by simp) rfl
   have n4:up L 4=false:=hC.no nl 4 rfl (by kernel_rfl)
   obtain rfl:=hW.1 nl
   simp only[asm13Mk,sld_yes q2]
   go_simp
   refine Calls.mono HT.out ?_
   rintro e w2 ⟨rfl,d1⟩
   go_simp
   exact hK _ _ ⟨w2,by simp only[asm13Mk,sld_set hlt,sld_yes q2,reduceIte,Nat.reduceEqDiff];try rfl,TwoW.first hlt (by decide) n4 d1⟩
  ·change some _=some o at ho
   cases ho
   have q0:up L 0=true:=hd { on:=0,ground:=.data } (by simp) rfl
   have q3:up L 3=true:=hd { on:=3,ground:=.chain } (by simp) rfl
   obtain⟨d1,y4,_⟩:=hW.2 q3
   obtain rfl:=y4 nl
   have x0:=below_cell d1 r0
   have x1:=below_cell d1 r1
   have x2:=below_cell d1 r2
   have x3:=below_cell d1 r3
   have xf:∀ j,w.frozen? ⟨R,j,none⟩=false:=fun j=>(Below.frozen d1 (p:=⟨R,j,none⟩) (show R<_ from block_lt_of_cell r0)).trans (rf j)
   simp only[asm13Mk,sld_yes q0]
   go_simp
   exact hK _ _ ⟨w,by simp only[asm13Mk,sld_set hlt,sld_yes q0,reduceIte,Nat.reduceEqDiff];try rfl,hW.second hlt q3 rfl⟩
  ·change some _=some o at ho
   cases ho
   simp only[asm13Mk]
   go_simp
   exact hK _ _ ⟨w1,by simp only[asm13Mk,sld_set hlt,reduceIte,Nat.reduceEqDiff];try rfl,(hW.keep hlt (by decide) (by decide))⟩
  ·change some _=some o at ho
   cases ho
   have q3:up L 3=true:=hd { on:=3,ground:=.data } (by simp) rfl
   simp only[asm13Mk,sld_yes q3]
   go_simp
   exact hK _ _ ⟨w1,by simp only[asm13Mk,sld_set hlt,sld_yes q3,reduceIte,Nat.reduceEqDiff];try rfl,(hW.keep hlt (by decide) (by decide))⟩
 case done=>
  rintro L a u ⟨w1,rfl,hW⟩ hall
  simp only[asm13Mk,sld_yes (hall 0 (by decide)),sld_yes (hall 1 (by decide)),sld_yes (hall 2 (by decide)),sld_yes (hall 3 (by decide)),sld_yes (hall 4 (by decide)),sld_yes (hall 5 (by decide)),sld_yes (hall 6 (by decide))]
  obtain⟨d1,_,hB⟩:=hW.2 (hall 3 (by decide))
  obtain rfl:=hB (hall 4 (by decide))
  exact HKt.out w1 (Below.trans (Below.drew (Below.refl _ _)) d1)
def asm15Mk (R N7 g9:Nat) (a:Option Addr) (len cap:Nat) (la:Option Addr) (ll lc:Nat) (z:Int)  (c1 c2 c3 c8 c10 c11 c12 c13 c14 c15 c16 c17 c18 c19 c20 c21 c22 c23 c24 c25 c26 c27 c28 c29 c30 c31 c32 c33 c34 c35 c36 c37 c38 c39 c40 c41 c42 c43 c44 c45 c46 c47 c48 c49 c50 c51 c52 c58 c59 c60 c61 c62 c63 c64 c65 c66 c67 c68 c69 c70 c71 c72 c73 c74 c75 c76 c77 c78 c79 c80 c81 c82 c83 c84 c85 c86 c87 c88 c89 c90 c91 c92 c93 c94 c95 c96 c97 c98 c99 c100 c101 c102 c103 c104 c105 c106 c107 c108 c109 c110 c111 c112 c113 c114 c115 c116 c117 c118 c119 c120 c121 d5 d6 d53 d54 d55 d56 d57:Value)  (L:Array Bool):Act:={ tmps:=#[.slice a len cap,c1,c2,c3,.pointer (some ⟨R,0,none⟩),sld d5 L 6 (.int .i64 4),sld d6 L 7 (.int .i64 z),.pointer (some ⟨N7,0,none⟩),c8,.pointer (some ⟨g9,0,none⟩),c10,c11,c12,c13,c14,c15,c16,c17,c18,c19,c20,c21,c22,c23,c24,c25,c26,c27,c28,c29,c30,c31,c32,c33,c34,c35,c36,c37,c38,c39,c40,c41,c42,c43,c44,c45,c46,c47,c48,c49,c50,c51,c52,sld d53 L 0 (.agg #[.slice none 0 0,.slice none 0 0,.int .i64 0,.int .i64 0]),sld d54 L 1 (.slice a len cap),sld d55 L 2 (.pointer (some ⟨g9,0,none⟩)),sld d56 L 3 (.slice la ll lc),sld d57 L 4 (.int .i64 z),c58,c59,c60,c61,c62,c63,c64,c65,c66,c67,c68,c69,c70,c71,c72,c73,c74,c75,c76,c77,c78,c79,c80,c81,c82,c83,c84,c85,c86,c87,c88,c89,c90,c91,c92,c93,c94,c95,c96,c97,c98,c99,c100,c101,c102,c103,c104,c105,c106,c107,c108,c109,c110,c111,c112,c113,c114,c115,c116,c117,c118,c119,c120,c121],defers:=[] }
set_option maxRecDepth 100000 in
theorem asm15 (R N7 g9:Nat) (a:Option Addr) (len cap:Nat) (la:Option Addr) (ll lc:Nat) (z:Int) {c1 c2 c3 c8 c10 c11 c12 c13 c14 c15 c16 c17 c18 c19 c20 c21 c22 c23 c24 c25 c26 c27 c28 c29 c30 c31 c32 c33 c34 c35 c36 c37 c38 c39 c40 c41 c42 c43 c44 c45 c46 c47 c48 c49 c50 c51 c52 c58 c59 c60 c61 c62 c63 c64 c65 c66 c67 c68 c69 c70 c71 c72 c73 c74 c75 c76 c77 c78 c79 c80 c81 c82 c83 c84 c85 c86 c87 c88 c89 c90 c91 c92 c93 c94 c95 c96 c97 c98 c99 c100 c101 c102 c103 c104 c105 c106 c107 c108 c109 c110 c111 c112 c113 c114 c115 c116 c117 c118 c119 c120 c121 d5 d6 d53 d54 d55 d56 d57:Value} (Y:World) (hN:Y.heap[N7]?=some (.cells #[.slice none 0 0,.slice none 0 0,.int .i64 0,.int .i64 0] 28 (0,0))) (hR:Y.heap[R]?=some (.cells #[.slice none 0 0,.slice none 0 0,.int .i64 0,.int .i64 0] 28 (0,0))) (hl:Y.cell? ⟨g9,0,none⟩=some (.slice la ll lc)) (hT:Calls Tryz.prog 24 #[.slice a len cap,.slice la ll lc] Y.drew fun e w'=>e=.returned (.int .i64 z)/\Below Y.drew.heap.size Y.drew w') {Q:Exit->Act->World->Prop}
  (hK:∀ w1,Below Y.heap.size Y w1->Q .normal { tmps:=#[.slice a len cap,c1,c2,c3,.pointer (some ⟨R,0,none⟩),.int .i64 4,.int .i64 z,.pointer (some ⟨N7,0,none⟩),c8,.pointer (some ⟨g9,0,none⟩),c10,c11,c12,c13,c14,c15,c16,c17,c18,c19,c20,c21,c22,c23,c24,c25,c26,c27,c28,c29,c30,c31,c32,c33,c34,c35,c36,c37,c38,c39,c40,c41,c42,c43,c44,c45,c46,c47,c48,c49,c50,c51,c52,.agg #[.slice none 0 0,.slice none 0 0,.int .i64 0,.int .i64 0],.slice a len cap,.pointer (some ⟨g9,0,none⟩),.slice la ll lc,.int .i64 z,c58,c59,c60,c61,c62,c63,c64,c65,c66,c67,c68,c69,c70,c71,c72,c73,c74,c75,c76,c77,c78,c79,c80,c81,c82,c83,c84,c85,c86,c87,c88,c89,c90,c91,c92,c93,c94,c95,c96,c97,c98,c99,c100,c101,c102,c103,c104,c105,c106,c107,c108,c109,c110,c111,c112,c113,c114,c115,c116,c117,c118,c119,c120,c121],defers:=[] } (st4 w1 R)) :
  (asmC 15).wp Tryz.prog Q { tmps:=#[.slice a len cap,c1,c2,c3,.pointer (some ⟨R,0,none⟩),d5,d6,.pointer (some ⟨N7,0,none⟩),c8,.pointer (some ⟨g9,0,none⟩),c10,c11,c12,c13,c14,c15,c16,c17,c18,c19,c20,c21,c22,c23,c24,c25,c26,c27,c28,c29,c30,c31,c32,c33,c34,c35,c36,c37,c38,c39,c40,c41,c42,c43,c44,c45,c46,c47,c48,c49,c50,c51,c52,d53,d54,d55,d56,d57,c58,c59,c60,c61,c62,c63,c64,c65,c66,c67,c68,c69,c70,c71,c72,c73,c74,c75,c76,c77,c78,c79,c80,c81,c82,c83,c84,c85,c86,c87,c88,c89,c90,c91,c92,c93,c94,c95,c96,c97,c98,c99,c100,c101,c102,c103,c104,c105,c106,c107,c108,c109,c110,c111,c112,c113,c114,c115,c116,c117,c118,c119,c120,c121],defers:=[] } Y:=by
 have HKt:Hid _:=hK
 clear hK
 have j0:=cell_of_row Y.drew _ 0 _ 28 (0,0) hN
 have j1:=cell_of_row Y.drew _ 1 _ 28 (0,0) hN
 have j2:=cell_of_row Y.drew _ 2 _ 28 (0,0) hN
 have j3:=cell_of_row Y.drew _ 3 _ 28 (0,0) hN
 have r0:=cell_of_row Y.drew _ 0 _ 28 (0,0) hR
 have r1:=cell_of_row Y.drew _ 1 _ 28 (0,0) hR
 have r2:=cell_of_row Y.drew _ 2 _ 28 (0,0) hR
 have r3:=cell_of_row Y.drew _ 3 _ 28 (0,0) hR
 simp only[List.getElem?_toArray,List.getElem?_cons_zero,List.getElem?_cons_succ]at j0 j1 j2 j3 r0 r1 r2 r3
 have rf:∀ j,Y.drew.frozen? ⟨R,j,none⟩=false:=fun j=>frozen_of_row Y.drew _ j _ 28 hR
 have jl:Y.drew.cell? ⟨g9,0,none⟩=some (.slice la ll lc):=hl
 clear hl
 have HT:Hid _:=hT
 clear hT hN hR
 conv=>arg 2;whnf
 dsimp only
 refine wp_region_any (by kernel_rfl) ?_
 change wpAny _ _ _ _ _ _ _ (World.drew _)
 refine wpAny_inw (fun L act0 u=>∃ w1,act0=asm15Mk R N7 g9 a len cap la ll lc z  c1 c2 c3 c8 c10 c11 c12 c13 c14 c15 c16 c17 c18 c19 c20 c21 c22 c23 c24 c25 c26 c27 c28 c29 c30 c31 c32 c33 c34 c35 c36 c37 c38 c39 c40 c41 c42 c43 c44 c45 c46 c47 c48 c49 c50 c51 c52 c58 c59 c60 c61 c62 c63 c64 c65 c66 c67 c68 c69 c70 c71 c72 c73 c74 c75 c76 c77 c78 c79 c80 c81 c82 c83 c84 c85 c86 c87 c88 c89 c90 c91 c92 c93 c94 c95 c96 c97 c98 c99 c100 c101 c102 c103 c104 c105 c106 c107 c108 c109 c110 c111 c112 c113 c114 c115 c116 c117 c118 c119 c120 c121 d5 d6 d53 d54 d55 d56 d57  L/\TwoW Y.drew (fun u=>Below Y.drew.heap.size Y.drew u) (fun u=>u=st4 w1 R) 4 5 w1 L u) ?done (by kernel_rfl) ?step _ 8 _ _ (by kernel_rfl) ?init (by decide)
 case init=>exact⟨Y,by simp only[asm15Mk,sld_no (up_init _ _)],TwoW.init⟩
 case step=>
  intro L act w i o hI hlt hs nl hC hd ho K hK
  obtain⟨w1,rfl,hW⟩:=hI
  have hi_lt:i<8:=(Array.getElem?_eq_some_iff.1 ho).1
  rcases (show i=0\/i=1\/i=2\/i=3\/i=4\/i=5\/i=6\/i=7 by omega) with rfl | rfl | rfl | rfl | rfl | rfl | rfl | rfl
  ·change some _=some o at ho
   cases ho
   have n5:up L 5=false:=hC.no nl 5 rfl (by kernel_rfl)
   have x0:=hW.cell n5 j0 (fun q=>below_cell q j0)
   have x1:=hW.cell n5 j1 (fun q=>below_cell q j1)
   have x2:=hW.cell n5 j2 (fun q=>below_cell q j2)
   have x3:=hW.cell n5 j3 (fun q=>below_cell q j3)
   simp only[asm15Mk]
   go_simp
   exact hK _ _ ⟨w1,by simp only[asm15Mk,sld_set hlt,reduceIte,Nat.reduceEqDiff];try rfl,(hW.keep hlt (by decide) (by decide))⟩
  ·change some _=some o at ho
   cases ho
   simp only[asm15Mk]
   go_simp
   exact hK _ _ ⟨w1,by simp only[asm15Mk,sld_set hlt,reduceIte,Nat.reduceEqDiff];try rfl,(hW.keep hlt (by decide) (by decide))⟩
  ·change some _=some o at ho
   cases ho
   simp only[asm15Mk]
   go_simp
   exact hK _ _ ⟨w1,by simp only[asm15Mk,sld_set hlt,reduceIte,Nat.reduceEqDiff];try rfl,(hW.keep hlt (by decide) (by decide))⟩
  ·change some _=some o at ho
   cases ho
   have q2:up L 2=true:=hd { on:=2,ground:=.data } (by simp) rfl
   have n4:up L 4=false:=hC.no nl 4 rfl (by kernel_rfl)
   obtain rfl:=hW.1 n4
   simp only[asm15Mk,sld_yes q2]
   go_simp
   exact hK _ _ ⟨w1,by simp only[asm15Mk,sld_set hlt,sld_yes q2,reduceIte,Nat.reduceEqDiff];try rfl,(hW.keep hlt (by decide) (by decide))⟩
  ·change some _=some o at ho
   cases ho
   have q1:up L 1=true:=hd { on:=1,ground:=.data } (by simp) rfl
   have q3:up L 3=true:=hd { on:=3,ground:=.data } (by simp) rfl
   have n5:up L 5=false:=hC.no nl 5 rfl (by kernel_rfl)
   obtain rfl:=hW.1 nl
   simp only[asm15Mk,sld_yes q1,sld_yes q3]
   go_simp
   refine Calls.mono HT.out ?_
   rintro e w2 ⟨rfl,d1⟩
   go_simp
   exact hK _ _ ⟨w2,by simp only[asm15Mk,sld_set hlt,sld_yes q1,sld_yes q3,reduceIte,Nat.reduceEqDiff];try rfl,TwoW.first hlt (by decide) n5 d1⟩
  ·change some _=some o at ho
   cases ho
   have q0:up L 0=true:=hd { on:=0,ground:=.data } (by simp) rfl
   have q4:up L 4=true:=hd { on:=4,ground:=.chain } (by simp) rfl
   obtain⟨d1,y4,_⟩:=hW.2 q4
   obtain rfl:=y4 nl
   have x0:=below_cell d1 r0
   have x1:=below_cell d1 r1
   have x2:=below_cell d1 r2
   have x3:=below_cell d1 r3
   have xf:∀ j,w.frozen? ⟨R,j,none⟩=false:=fun j=>(Below.frozen d1 (p:=⟨R,j,none⟩) (show R<_ from block_lt_of_cell r0)).trans (rf j)
   simp only[asm15Mk,sld_yes q0]
   go_simp
   exact hK _ _ ⟨w,by simp only[asm15Mk,sld_set hlt,sld_yes q0,reduceIte,Nat.reduceEqDiff];try rfl,hW.second hlt q4 rfl⟩
  ·change some _=some o at ho
   cases ho
   simp only[asm15Mk]
   go_simp
   exact hK _ _ ⟨w1,by simp only[asm15Mk,sld_set hlt,reduceIte,Nat.reduceEqDiff];try rfl,(hW.keep hlt (by decide) (by decide))⟩
  ·change some _=some o at ho
   cases ho
   have q4:up L 4=true:=hd { on:=4,ground:=.data } (by simp) rfl
   simp only[asm15Mk,sld_yes q4]
   go_simp
   exact hK _ _ ⟨w1,by simp only[asm15Mk,sld_set hlt,sld_yes q4,reduceIte,Nat.reduceEqDiff];try rfl,(hW.keep hlt (by decide) (by decide))⟩
 case done=>
  rintro L a u ⟨w1,rfl,hW⟩ hall
  simp only[asm15Mk,sld_yes (hall 0 (by decide)),sld_yes (hall 1 (by decide)),sld_yes (hall 2 (by decide)),sld_yes (hall 3 (by decide)),sld_yes (hall 4 (by decide)),sld_yes (hall 5 (by decide)),sld_yes (hall 6 (by decide)),sld_yes (hall 7 (by decide))]
  obtain⟨d1,_,hB⟩:=hW.2 (hall 4 (by decide))
  obtain rfl:=hB (hall 5 (by decide))
  exact HKt.out w1 (Below.trans (Below.drew (Below.refl _ _)) d1)
end Go.Proofs.YtlbomnnldkeocaaGreat.W
namespace Go.Proofs.YtlbomnnldkeocaaGreat.Pl
def fk (xs:List Ln) (k:Nat) (s:ByteArray):Option Nat:=(List.range k).find? fun i=>decide ((gl xs i).k=1) && decide ((gl xs i).s=s)
theorem fk_lb (xs:List Ln) (s:ByteArray):fk xs xs.length s=lb xs s:=rfl
theorem fk_succ (xs:List Ln) (k:Nat) (s:ByteArray):fk xs (k+1) s=match fk xs k s with | some i=>some i | none=>if (gl xs k).k=1/\(gl xs k).s=s then some k else none:=by
 unfold fk
 rw[List.range_succ,List.find?_append]
 cases (List.range k).find? (fun i=>decide ((gl xs i).k=1) && decide ((gl xs i).s=s)) with
 | some i=>rfl
 | none=>
  by_cases h:(gl xs k).k=1/\(gl xs k).s=s
  ·rw[if_pos h];simp[h.1,h.2]
  ·rw[if_neg h]
   simp only[Option.none_or,List.find?_cons,List.find?_nil]
   split
   ·rename_i q
    simp only[Bool.and_eq_true,decide_eq_true_eq]at q
    exact absurd q h
   ·rfl
theorem fk_some {xs:List Ln} {k:Nat} {s:ByteArray} {i:Nat} (h:fk xs k s=some i):i<k/\(gl xs i).k=1/\(gl xs i).s=s:=by
 unfold fk at h
 obtain⟨h1,h2,_⟩:=List.find?_range_eq_some.1 h
 simp only[Bool.and_eq_true,decide_eq_true_eq]at h1
 exact⟨List.mem_range.1 h2,h1.1,h1.2⟩
theorem fk_none {xs:List Ln} {k:Nat} {s:ByteArray} (h:fk xs k s=none):∀ j,j<k->(gl xs j).k=1->(gl xs j).s≠s:=by
 unfold fk at h
 rw[List.find?_eq_none]at h
 intro j hj h1 h2
 have:=h j (List.mem_range.2 hj)
 simp[h1,h2]at this
theorem key_inj {s t:ByteArray} (h:s.data.toList=t.data.toList):s=t:=by
 obtain⟨⟨a⟩⟩:=s
 obtain⟨⟨b⟩⟩:=t
 have:a=b:=h
 rw[this]
end Go.Proofs.YtlbomnnldkeocaaGreat.Pl
namespace Go.Proofs.YtlbomnnldkeocaaGreat.W
open Go.RowKit Go.Maps Go.WideMaps
def rdM:Value->Option (DataW Nat × List MemPlace)
 | .pointer none=>some (.nil,[])
 | .pointer (some ⟨b,0,none⟩)=>some (.held b,[])
 | _=>none
theorem rdM_nil {v:Value} {ps:List MemPlace} (h:rdM v=some (.nil,ps)):v=.pointer none:=by
 unfold rdM at h
 split at h
 ·rfl
 ·injection h with h;injection h with h _;cases h
 ·cases h
theorem rdM_held {v:Value} {b:Nat} {ps:List MemPlace} (h:rdM v=some (.held b,ps)):v=.pointer (some ⟨b,0,none⟩):=by
 unfold rdM at h
 split at h
 ·injection h with h;injection h with h _;cases h
 ·injection h with h;injection h with h _;injection h with h;rw[h]
 ·cases h
theorem infopm:(Tryz.prog.info? 115).map (fun i=>(i.zero,i.size,i.bytes))=some (some (.pointer none),1,8):=by kernel_rfl
theorem zero_pm (w:World):(zeroValue 115).run Tryz.prog w=.ok (.pointer none) w:=by
 obtain⟨i0,hi,hz,_,_⟩:=info_parts infopm
 simp[zeroValue,typeInfo,hi,hz]
structure Lbm (xs:List Pl.Ln) (B:Nat) (u:World) (gm k:Nat) (mb:Nat->Nat) (d:Nat->Bool) (ad:Nat->Int):Prop where
 map:∃ D:DataW Nat,IsMap D/\u.ownsMap Tryz.prog 9 rdM gm k D/\(∀ s:ByteArray,D.atKey (.string s.data.toList) .nil=match Pl.fk xs k s with | none=>.nil | some i=>.held (mb i))/\∀ s:ByteArray,Maps.has D (.string s.data.toList)=(Pl.fk xs k s).isSome
 mks:∀ i,i<k->(Pl.gl xs i).k=1->B<=mb i/\u.heap[mb i]?=some (.cells #[.int .i64 (i:Nat),.bool (d i),.int .i64 (ad i)] 117 (0,0))
variable {xs:List Pl.Ln} {B:Nat} {u u':World} {gm k:Nat} {mb:Nat->Nat} {d:Nat->Bool} {ad:Nat->Int}
theorem Lbm.keep (h:Lbm xs B u gm k mb d ad) (hb:Below u.heap.size u u'):Lbm xs B u' gm k mb d ad:=by
 obtain⟨D,h1,h2,h3,h5⟩:=h.map
 refine⟨⟨D,h1,h2.kept (grown_below hb) (by simp),h3,h5⟩,fun i hi hk=>?_⟩
 obtain⟨q1,q2⟩:=h.mks i hi hk
 exact⟨q1,(hb.block _ (Array.getElem?_eq_some_iff.1 q2).1).trans q2⟩
theorem Lbm.only (h:Lbm xs B u gm k mb d ad) {g:Nat} (hb:OnlyC g u u') (hg:gm≠g) (hm:∀ i,i<k->(Pl.gl xs i).k=1->mb i≠g):Lbm xs B u' gm k mb d ad:=by
 obtain⟨D,h1,h2,h3,h5⟩:=h.map
 refine⟨⟨D,h1,h2.kept hb.grown (fun c=>hg (by injection c)),h3,h5⟩,fun i hi hk=>?_⟩
 obtain⟨q1,q2⟩:=h.mks i hi hk
 exact⟨q1,(hb.block _ (Array.getElem?_eq_some_iff.1 q2).1 (hm i hi hk)).trans q2⟩
theorem Lbm.look (h:Lbm xs B u gm k mb d ad) {s:ByteArray} (hs:s.size<=maxLen):(Instr.lookup 67 (.map (some gm)) (.string s) false).run Tryz.prog u=.ok (.pointer (match Pl.fk xs k s with | none=>none | some i=>some ⟨mb i,0,none⟩)) u:=by
 obtain⟨D,h1,h2,h3,h5⟩:=h.map
 obtain⟨v,ps,hr,hv⟩:=h2.lookup (string_keyed Tryz.underlying9) Tryz.underlying67 (zero_pm u) (zd:=.nil) (zp:=[]) rfl (keyOf_string_mk Tryz.underlying9 hs)
 rw[h3 s]at hv
 rw[hr]
 cases hf:Pl.fk xs k s with
 | none=>rw[hf]at hv;rw[rdM_nil hv]
 | some i=>rw[hf]at hv;rw[rdM_held hv]
theorem Lbm.next (h:Lbm xs B u gm k mb d ad) (hk:(Pl.gl xs k).k≠1):Lbm xs B u gm (k+1) mb d ad:=by
 obtain⟨D,h1,h2,h3,h5⟩:=h.map
 refine⟨⟨D,h1,h2.mono (by omega),fun s=>?_,fun s=>?_⟩,fun i hi hki=>h.mks i ?_ hki⟩
 ·rw[h3 s,Pl.fk_succ]
  cases Pl.fk xs k s with
  | some i=>rfl
  | none=>simp[hk]
 ·rw[h5 s,Pl.fk_succ]
  cases Pl.fk xs k s with
  | some i=>rfl
  | none=>simp[hk]
 ·rcases Nat.lt_or_ge i k with q | q
  ·exact q
  ·have:i=k:=by omega
   rw[this]at hki;exact absurd hki hk
theorem Lbm.put (h:Lbm xs B u gm k mb d ad) (hk:(Pl.gl xs k).k=1) (hf:Pl.fk xs k (Pl.gl xs k).s=none) (hs:(Pl.gl xs k).s.size<=maxLen) (hn:k<maxLen) {g:Nat} (hg:B<=g) (hrow:u.heap[g]?=some (.cells #[.int .i64 (k:Nat),.bool false,.int .i64 0] 117 (0,0))) (hd:∀ i,d i=false) (ha:∀ i,ad i=0) :
  ∃ Y2,(Instr.mapUpdate 67 (.map (some gm)) (.string (Pl.gl xs k).s) (.pointer (some ⟨g,0,none⟩))).run Tryz.prog u=.ok () Y2/\Lbm xs B Y2 gm (k+1) (fun i=>if i=k then g else mb i) d ad/\u.grownBy Y2 (some gm):=by
 obtain⟨D,h1,h2,h3,h5⟩:=h.map
 obtain⟨Y2,hr,ho,hgr⟩:=h2.update (string_keyed Tryz.underlying9) Tryz.underlying67 hn (keyOf_string_mk Tryz.underlying9 hs) (val:=.pointer (some ⟨g,0,none⟩)) (d:=.held g) (ps:=[]) rfl
 have hgm:∀ {b:Nat} {cur:Array Value} {t:TypeId} {f:Nat × Nat},u.heap[b]?=some (.cells cur t f)->Y2.heap[b]?=some (.cells cur t f):=fun {b cur t f} hb=>by
  refine (hgr.block b (Array.getElem?_eq_some_iff.1 hb).1 (fun c=>?_)).trans hb
  have:b=gm:=by injection c
  subst this
  obtain⟨es,cl,hm,_⟩:=h2
  rw[hb]at hm
  injection hm with hm
  cases hm
 refine⟨Y2,hr,⟨⟨_,h1.put _ _,ho,fun s=>?_,fun s=>?_⟩,fun i hi hki=>?_⟩,hgr⟩
 ·by_cases e:(Pl.gl xs k).s=s
  ·subst e
   rw[atKey_put_same h1 (by trivial),Pl.fk_succ,hf]
   simp[hk]
  ·rw[atKey_put_other (fun hc=>e (Pl.key_inj (Lit.string.inj hc).symm)),h3 s,Pl.fk_succ]
   cases hq:Pl.fk xs k s with
   | some i=>
    have hik:=(Pl.fk_some hq).1
    show DataW.held (mb i)=.held (if i=k then g else mb i)
    rw[if_neg (Nat.ne_of_lt hik)]
   | none=>simp[e]
 ·by_cases e:(Pl.gl xs k).s=s
  ·subst e
   rw[has_put_same h1 (by trivial),Pl.fk_succ,hf]
   simp[hk]
  ·rw[has_put_other (fun hc=>e (Pl.key_inj (Lit.string.inj hc).symm)),h5 s,Pl.fk_succ]
   cases hq:Pl.fk xs k s with
   | some i=>rfl
   | none=>simp[e]
 ·by_cases e:i=k
  ·subst e
   rw[if_pos rfl,hd,ha]
   exact⟨hg,hgm hrow⟩
  ·rw[if_neg e]
   obtain⟨q1,q2⟩:=h.mks i (by omega) hki
   exact⟨q1,hgm q2⟩
noncomputable def secC (n:Nat):Code:=((Tryz.f31.body.bind (codeR n)).getD .skip)
def sec7Mk (ga gm h k hm:Nat) (s:ByteArray) (Y2:World)  (c1 c2 c5 c6 c7 c8 c9 c10 c11 c12 c13 c14 c15 c16 c17 c18 c19 c20 c21 c22 c23 c24 c25 c26 c36 d27 d28 d29 d30 d31 d32 d33 d34 d35:Value)  (L:Array Bool):Act:={ tmps:=#[.pointer (some ⟨ga,0,none⟩),c1,c2,.int .i64 (k:Nat),.pointer (some ⟨h,0,none⟩),c5,c6,c7,c8,c9,c10,c11,c12,c13,c14,c15,c16,c17,c18,c19,c20,c21,c22,c23,c24,c25,c26,sld d27 L 0 (.pointer (some ⟨ga,0,none⟩)),sld d28 L 1 (.pointer (some ⟨ga,0,none⟩)),sld d29 L 2 (.pointer (some ⟨ga,2,none⟩)),sld d30 L 3 (.map (some gm)),sld d31 L 4 (.pointer (some ⟨h,6,none⟩)),sld d32 L 5 (.string s),sld d33 L 6 (.int .i64 (k:Nat)),sld d34 L 7 (.agg #[.int .i64 (k:Nat),.bool false,.int .i64 0]),sld d35 L 8 (.pointer (some ⟨hm,0,none⟩)),c36],defers:=[] }
set_option maxRecDepth 100000 in
theorem sec7 (ga gm h k hm:Nat) (s:ByteArray) (Y2:World) {c1 c2 c5 c6 c7 c8 c9 c10 c11 c12 c13 c14 c15 c16 c17 c18 c19 c20 c21 c22 c23 c24 c25 c26 c36 d27 d28 d29 d30 d31 d32 d33 d34 d35:Value} (Y:World) (hh:hm=Y.heap.size) (m2:Y.cell? ⟨ga,2,none⟩=some (.map (some gm))) (l6:Y.cell? ⟨h,6,none⟩=some (.string s)) (hup:(Instr.mapUpdate 67 (.map (some gm)) (.string s) (.pointer (some ⟨hm,0,none⟩))).run Tryz.prog (Y.drew.alloc (.cells #[.int .i64 (k:Nat),.bool false,.int .i64 0] 117))=.ok () Y2) {Q:Exit->Act->World->Prop}
  (hK:Q .normal { tmps:=#[.pointer (some ⟨ga,0,none⟩),c1,c2,.int .i64 (k:Nat),.pointer (some ⟨h,0,none⟩),c5,c6,c7,c8,c9,c10,c11,c12,c13,c14,c15,c16,c17,c18,c19,c20,c21,c22,c23,c24,c25,c26,.pointer (some ⟨ga,0,none⟩),.pointer (some ⟨ga,0,none⟩),.pointer (some ⟨ga,2,none⟩),.map (some gm),.pointer (some ⟨h,6,none⟩),.string s,.int .i64 (k:Nat),.agg #[.int .i64 (k:Nat),.bool false,.int .i64 0],.pointer (some ⟨hm,0,none⟩),c36],defers:=[] } Y2) :
  (secC 7).wp Tryz.prog Q { tmps:=#[.pointer (some ⟨ga,0,none⟩),c1,c2,.int .i64 (k:Nat),.pointer (some ⟨h,0,none⟩),c5,c6,c7,c8,c9,c10,c11,c12,c13,c14,c15,c16,c17,c18,c19,c20,c21,c22,c23,c24,c25,c26,d27,d28,d29,d30,d31,d32,d33,d34,d35,c36],defers:=[] } Y:=by
 have HKt:Hid _:=hK
 clear hK
 have HUP:Hid _:=hup
 have j2:Y.drew.cell? ⟨ga,2,none⟩=some (.map (some gm)):=m2
 have j6:Y.drew.cell? ⟨h,6,none⟩=some (.string s):=l6
 subst hh
 clear hup m2 l6
 conv=>arg 2;whnf
 dsimp only
 refine wp_region_any (by kernel_rfl) ?_
 change wpAny _ _ _ _ _ _ _ (World.drew _)
 refine wpAny_inw (fun L act0 u=>∃ w1,act0=sec7Mk ga gm h k Y.heap.size s Y2  c1 c2 c5 c6 c7 c8 c9 c10 c11 c12 c13 c14 c15 c16 c17 c18 c19 c20 c21 c22 c23 c24 c25 c26 c36 d27 d28 d29 d30 d31 d32 d33 d34 d35  L/\TwoW Y.drew (fun u=>u=Y.drew.alloc (.cells #[.int .i64 (k:Nat),.bool false,.int .i64 0] 117)) (fun u=>u=Y2) 8 9 w1 L u) ?done (by kernel_rfl) ?step _ 10 _ _ (by kernel_rfl) ?init (by decide)
 case init=>exact⟨Y,by simp only[sec7Mk,sld_no (up_init _ _)],TwoW.init⟩
 case step=>
  intro L act w i o hI hlt hs nl hC hd ho K hK
  obtain⟨w1,rfl,hW⟩:=hI
  have hi_lt:i<10:=(Array.getElem?_eq_some_iff.1 ho).1
  rcases (show i=0\/i=1\/i=2\/i=3\/i=4\/i=5\/i=6\/i=7\/i=8\/i=9 by omega) with rfl | rfl | rfl | rfl | rfl | rfl | rfl | rfl | rfl | rfl
  ·change some _=some o at ho
   cases ho
   simp only[sec7Mk]
   go_simp
   exact hK _ _ ⟨w1,by simp only[sec7Mk,sld_set hlt,reduceIte,Nat.reduceEqDiff];try rfl,(hW.keep hlt (by decide) (by decide))⟩
  ·change some _=some o at ho
   cases ho
   have q0:up L 0=true:=hd { on:=0,ground:=.data } (by simp) rfl
   simp only[sec7Mk,sld_yes q0]
   go_simp
   exact hK _ _ ⟨w1,by simp only[sec7Mk,sld_set hlt,sld_yes q0,reduceIte,Nat.reduceEqDiff];try rfl,(hW.keep hlt (by decide) (by decide))⟩
  ·change some _=some o at ho
   cases ho
   have q1:up L 1=true:=hd { on:=1,ground:=.data } (by simp) rfl
   simp only[sec7Mk,sld_yes q1]
   go_simp
   exact hK _ _ ⟨w1,by simp only[sec7Mk,sld_set hlt,sld_yes q1,reduceIte,Nat.reduceEqDiff];try rfl,(hW.keep hlt (by decide) (by decide))⟩
  ·change some _=some o at ho
   cases ho
   have q2:up L 2=true:=hd { on:=2,ground:=.data } (by simp) rfl
   have n9:up L 9=false:=hC.no nl 9 rfl (by kernel_rfl)
   have xo:=hW.cell n9 j2 (fun q=>by rw[q];exact below_cell (below_alloc _ _) j2)
   simp only[sec7Mk,sld_yes q2]
   go_simp
   exact hK _ _ ⟨w1,by simp only[sec7Mk,sld_set hlt,sld_yes q2,reduceIte,Nat.reduceEqDiff];try rfl,(hW.keep hlt (by decide) (by decide))⟩
  ·change some _=some o at ho
   cases ho
   simp only[sec7Mk]
   go_simp
   exact hK _ _ ⟨w1,by simp only[sec7Mk,sld_set hlt,reduceIte,Nat.reduceEqDiff];try rfl,(hW.keep hlt (by decide) (by decide))⟩
  ·change some _=some o at ho
   cases ho
   have q4:up L 4=true:=hd { on:=4,ground:=.data } (by simp) rfl
   have n9:up L 9=false:=hC.no nl 9 rfl (by kernel_rfl)
   have xo:=hW.cell n9 j6 (fun q=>by rw[q];exact below_cell (below_alloc _ _) j6)
   simp only[sec7Mk,sld_yes q4]
   go_simp
   exact hK _ _ ⟨w1,by simp only[sec7Mk,sld_set hlt,sld_yes q4,reduceIte,Nat.reduceEqDiff];try rfl,(hW.keep hlt (by decide) (by decide))⟩
  ·change some _=some o at ho
   cases ho
   simp only[sec7Mk]
   go_simp
   exact hK _ _ ⟨w1,by simp only[sec7Mk,sld_set hlt,reduceIte,Nat.reduceEqDiff];try rfl,(hW.keep hlt (by decide) (by decide))⟩
  ·change some _=some o at ho
   cases ho
   have q6:up L 6=true:=hd { on:=6,ground:=.data } (by simp) rfl
   simp only[sec7Mk,sld_yes q6]
   go_simp
   exact hK _ _ ⟨w1,by simp only[sec7Mk,sld_set hlt,sld_yes q6,reduceIte,Nat.reduceEqDiff];try rfl,(hW.keep hlt (by decide) (by decide))⟩
  ·change some _=some o at ho
   cases ho
   have q7:up L 7=true:=hd { on:=7,ground:=.data } (by simp) rfl
   have n9:up L 9=false:=hC.no nl 9 rfl (by kernel_rfl)
   obtain rfl:=hW.1 nl
   simp only[sec7Mk,sld_yes q7]
   go_simp
   exact hK _ _ ⟨_,by simp only[sec7Mk,sld_set hlt,sld_yes q7,reduceIte,Nat.reduceEqDiff];try rfl,TwoW.first hlt (by decide) n9 rfl⟩
  ·change some _=some o at ho
   cases ho
   have q3:up L 3=true:=hd { on:=3,ground:=.data } (by simp) rfl
   have q5:up L 5=true:=hd { on:=5,ground:=.data } (by simp) rfl
   have q8:up L 8=true:=hd { on:=8,ground:=.data } (by simp) rfl
   obtain⟨d1,y4,_⟩:=hW.2 q8
   obtain rfl:=y4 nl
   have hu:=HUP.out
   rw[<- d1]at hu
   clear d1
   simp only[sec7Mk,sld_yes q3,sld_yes q5,sld_yes q8]
   go_simp
   exact hK _ _ ⟨w,by simp only[sec7Mk,sld_set hlt,sld_yes q3,sld_yes q5,sld_yes q8,reduceIte,Nat.reduceEqDiff];try rfl,hW.second hlt q8 rfl⟩
 case done=>
  rintro L a u ⟨w1,rfl,hW⟩ hall
  simp only[sec7Mk,sld_yes (hall 0 (by decide)),sld_yes (hall 1 (by decide)),sld_yes (hall 2 (by decide)),sld_yes (hall 3 (by decide)),sld_yes (hall 4 (by decide)),sld_yes (hall 5 (by decide)),sld_yes (hall 6 (by decide)),sld_yes (hall 7 (by decide)),sld_yes (hall 8 (by decide)),sld_yes (hall 9 (by decide))]
  obtain⟨d1,_,hB⟩:=hW.2 (hall 8 (by decide))
  obtain rfl:=hB (hall 9 (by decide))
  exact HKt.out
theorem OnlyC.low {g B:Nat} {u u':World} (h:OnlyC g u u') (hg:B<=g) (hB:B<=u.heap.size):Below B u u':=⟨h.os,h.tape,h.output,h.size,fun k hk=>h.block k (by omega) (by omega)⟩
theorem OnlyC.refl (g:Nat) (u:World):OnlyC g u u:=⟨rfl,rfl,rfl,Nat.le_refl _,fun _ _ _=>rfl⟩
structure Amb (lo:Nat) (xs:List Pl.Ln) (w u:World) (ga gm:Nat) (a:Option Addr) (len cap:Nat) (stack:Int) (ec:Pl.Cur):Prop where
 row:u.heap[ga]?=some (.cells #[.slice a len cap,.int .i64 stack,.map (some gm),.bool ec.d,.int .i64 ec.t,.int .i64 ec.b] 71 (0,0))
 low:Below w.heap.size w u
 ln:LRow lo w a len cap xs
 hga:w.heap.size<=ga
 hgm:w.heap.size<=gm
 ne:ga≠gm
variable {lo:Nat} {xs:List Pl.Ln} {w u u':World} {ga gm:Nat} {a:Option Addr} {len cap:Nat} {stack:Int} {ec:Pl.Cur}
theorem Amb.lt (h:Amb lo xs w u ga gm a len cap stack ec):ga<u.heap.size:=(Array.getElem?_eq_some_iff.1 h.row).1
theorem Amb.cell (h:Amb lo xs w u ga gm a len cap stack ec) (j:Nat):u.cell? ⟨ga,j,none⟩=(#[.slice a len cap,.int .i64 stack,.map (some gm),.bool ec.d,.int .i64 ec.t,.int .i64 ec.b]:Array Value)[j]?:=cell_of_row _ _ j _ 71 (0,0) h.row
theorem Amb.fz (h:Amb lo xs w u ga gm a len cap stack ec) (j:Nat):u.frozen? ⟨ga,j,none⟩=false:=frozen_of_row _ _ j _ 71 h.row
theorem Amb.keep (h:Amb lo xs w u ga gm a len cap stack ec) (hb:Below u.heap.size u u'):Amb lo xs w u' ga gm a len cap stack ec:=⟨(hb.block ga h.lt).trans h.row,h.low.trans (hb.mono h.low.size),h.ln,h.hga,h.hgm,h.ne⟩
theorem Amb.only (h:Amb lo xs w u ga gm a len cap stack ec) {g:Nat} (hb:OnlyC g u u') (hg:w.heap.size<=g) (hn:ga≠g):Amb lo xs w u' ga gm a len cap stack ec:=⟨(hb.block ga h.lt hn).trans h.row,h.low.trans (hb.low hg h.low.size),h.ln,h.hga,h.hgm,h.ne⟩
theorem Amb.lines (h:Amb lo xs w u ga gm a len cap stack ec):LRow lo u a len cap xs:=h.ln.keep h.low
set_option maxRecDepth 100000 in
theorem secondLabel_is (h:Amb lo xs w u ga gm a len cap stack ec) (hm:Lbm xs u.heap.size u gm 0 (fun _=>0) (fun _=>false) (fun _=>0)) (hn:len<=20000):Calls Tryz.prog 31 #[.pointer (some ⟨ga,0,none⟩)] u fun e u'=>e=.returned (.int .i64 (Pl.fst1 (Pl.twice xs) len))/\OnlyC gm u u'/\(Pl.fst1 (Pl.twice xs) len=-1->∃ mb,Lbm xs u.heap.size u' gm len mb (fun _=>false) (fun _=>0)):=by
 have HA:Hid (Amb lo xs w u ga gm a len cap stack ec):=h
 have HL0:Hid (Lbm xs u.heap.size u gm 0 (fun _=>0) (fun _=>false) (fun _=>0)):=hm
 have hxl:xs.length=len:=h.ln.len.1
 have HXL:Hid (xs.length=len):=hxl
 have m0:=h.cell 0
 simp only[List.getElem?_toArray,List.getElem?_cons_zero]at m0
 have hgl:gm<u.heap.size:=by obtain⟨D,_,h2,_⟩:=hm.map;exact h2.lt
 clear h hm hxl
 go_enter Tryz.func31,Tryz.ntmps31
 go_wp2_with fail
 go_loopw [10] (fun i wr=>∃ k:Nat,k<=len/\i=.int .i64 k/\(∀ j,j<k->Pl.twice xs j=false)/\OnlyC gm u wr/\∃ mb,Lbm xs u.heap.size wr gm k mb (fun _=>false) (fun _=>0)) (fun i _=>len-(intOf i).toNat)
 case atStart=>exact⟨0,Nat.zero_le _,rfl,fun j hj=>absurd hj (Nat.not_lt_zero _),OnlyC.refl _ _,_,HL0.out⟩
 case round=>
  obtain⟨k,hk,rfl,hall,hon,mb,hlb⟩:=hrel
  have HT:Hid (∀ j,j<k->Pl.twice xs j=false):=hall
  have HO:Hid (OnlyC gm u wr):=hon
  have HB:Hid (Lbm xs u.heap.size wr gm k mb (fun _=>false) (fun _=>0)):=hlb
  have HAw:Hid (Amb lo xs w wr ga gm a len cap stack ec):=HA.out.only hon HA.out.hgm HA.out.ne
  clear hall hon hlb
  by_cases hlt:k<len
  ·have hi:(k:Int)<(len:Int):=by omega
   obtain⟨b,off,haL,hlo,hb1,hsz,z0,z1,z2,z3,z4,z5,z6,z7⟩:=HAw.out.lines.at k hlt
   subst haL
   have HTK:Hid (∀ i,Pl.fk xs k (Pl.gl xs k).s=some i->(Pl.gl xs k).k=1->Pl.twice xs k=true):=fun i hi hk1=>by
    obtain⟨q1,q2,q3⟩:=Pl.fk_some hi
    exact (Pl.twice_iff (by rw[HXL.out];exact hlt)).2 ⟨hk1,i,q1,q2,q3⟩
   have HTN:Hid (Pl.fk xs k (Pl.gl xs k).s=none->Pl.twice xs k=false):=fun hf=>by
    cases hc:Pl.twice xs k
    ·rfl
    ·obtain⟨_,j,hj,q1,q2⟩:=(Pl.twice_iff (by rw[HXL.out];exact hlt)).1 hc
     exact absurd q2 (Pl.fk_none hf j hj q1)
   have HNK:Hid ((Pl.gl xs k).k≠1->Pl.twice xs k=false):=fun q=>by unfold Pl.twice;simp[q]
   by_cases e1:(Pl.gl xs k).k=1
   ·have HK1:Hid ((Pl.gl xs k).k=1):=e1
    have hlook:∀ (o:Obj) (n:Nat),(Instr.lookup 67 (.map (some gm)) (.string (Pl.gl xs k).s) false).run Tryz.prog ((wr.alloc o).drewN n)=.ok (.pointer (match Pl.fk xs k (Pl.gl xs k).s with | none=>none | some i=>some ⟨mb i,0,none⟩)) ((wr.alloc o).drewN n):=fun o n=>((HB.out.keep (below_alloc wr o)).keep (below_drewN (Below.refl _ _) n)).look hsz
    have m2:∀ (o:Obj),(wr.alloc o).cell? ⟨ga,2,none⟩=some (.map (some gm)):=fun o=>(HAw.out.keep (below_alloc wr o)).cell 2
    have HSZ:Hid ((Pl.gl xs k).s.size<=maxLen):=hsz
    rw[e1]at z0
    cases hf:Pl.fk xs k (Pl.gl xs k).s with
    | some i=>
     have HTW:Hid (Pl.twice xs k=true):=HTK.out i hf e1
     rw[hf]at hlook
     clear hf e1 hsz
     generalize Pl.gl xs k=x at *
     go_upto_region 5 with fail
     have hlk:=hlook (.cells #[.int .i64 1,.int .i64 x.op,.int .i64 x.rd,.int .i64 x.r1,.int .i64 x.r2,.int .i64 x.im,.string x.s,.int .i64 x.n] 51)
     have hm2:=m2 (.cells #[.int .i64 1,.int .i64 x.op,.int .i64 x.rd,.int .i64 x.r1,.int .i64 x.r2,.int .i64 x.im,.string x.s,.int .i64 x.n] 51)
     have hl6:(wr.alloc (.cells #[.int .i64 1,.int .i64 x.op,.int .i64 x.rd,.int .i64 x.r1,.int .i64 x.r2,.int .i64 x.im,.string x.s,.int .i64 x.n] 51)).cell? ⟨wr.heap.size,6,none⟩=some (.string x.s):=cell_of_row _ _ 6 _ 51 (0,0) (heap_alloc_new wr _)
     have HOU:Hid (∀ n,OnlyC gm u ((wr.alloc (.cells #[.int .i64 1,.int .i64 x.op,.int .i64 x.rd,.int .i64 x.r1,.int .i64 x.r2,.int .i64 x.im,.string x.s,.int .i64 x.n] 51)).drewN n)):=fun n=>HO.out.trans (OnlyC.of (below_drewN (below_alloc wr _) n))
     clear hlook m2
     generalize wr.alloc (.cells #[.int .i64 1,.int .i64 x.op,.int .i64 x.rd,.int .i64 x.r1,.int .i64 x.r2,.int .i64 x.im,.string x.s,.int .i64 x.n] 51)=W1 at *
     go_quiet (fail)
     go_wp2_with fail
     go_ret
     have hf1:=Pl.fst1_at (Pl.twice xs) len k hlt HTW.out HT.out
     exact⟨by rw[hf1];rfl,HOU.out _,fun q=>by rw[hf1]at q;omega⟩
    | none=>
     have HTW:Hid (Pl.twice xs k=false):=HTN.out hf
     have HFN:Hid (Pl.fk xs k (Pl.gl xs k).s=none):=hf
     rw[hf]at hlook
     clear hf e1 hsz
     generalize hgx:Pl.gl xs k=x at *
     have HXE:Hid (Pl.gl xs k=x):=hgx
     clear hgx
     go_upto_region 5 with fail
     have hlk:=hlook (.cells #[.int .i64 1,.int .i64 x.op,.int .i64 x.rd,.int .i64 x.r1,.int .i64 x.r2,.int .i64 x.im,.string x.s,.int .i64 x.n] 51)
     have hm2:=m2 (.cells #[.int .i64 1,.int .i64 x.op,.int .i64 x.rd,.int .i64 x.r1,.int .i64 x.r2,.int .i64 x.im,.string x.s,.int .i64 x.n] 51)
     have hl6:(wr.alloc (.cells #[.int .i64 1,.int .i64 x.op,.int .i64 x.rd,.int .i64 x.r1,.int .i64 x.r2,.int .i64 x.im,.string x.s,.int .i64 x.n] 51)).cell? ⟨wr.heap.size,6,none⟩=some (.string x.s):=cell_of_row _ _ 6 _ 51 (0,0) (heap_alloc_new wr _)
     have HBW:Hid (Below wr.heap.size wr (wr.alloc (.cells #[.int .i64 1,.int .i64 x.op,.int .i64 x.rd,.int .i64 x.r1,.int .i64 x.r2,.int .i64 x.im,.string x.s,.int .i64 x.n] 51))):=below_alloc wr _
     clear hlook m2
     generalize wr.alloc (.cells #[.int .i64 1,.int .i64 x.op,.int .i64 x.rd,.int .i64 x.r1,.int .i64 x.r2,.int .i64 x.im,.string x.s,.int .i64 x.n] 51)=W1 at *
     go_quiet (fail)
     go_upto_region 7 with fail
     rename_i nq
     have hbd:Below wr.heap.size wr ((W1.drewN nq).drew.alloc (.cells #[.int .i64 (k:Nat),.bool false,.int .i64 0] 117)):=Below.alloc (Below.drew (below_drewN HBW.out _)) HBW.out.size _
     have hmz:u.heap.size<=(W1.drewN nq).heap.size:=Nat.le_trans HO.out.size HBW.out.size
     obtain⟨Y2,hup,hl2,hg2⟩:=(HB.out.keep hbd).put (by rw[HXE.out];exact HK1.out) (by rw[HXE.out];exact HFN.out) (by rw[HXE.out];exact HSZ.out) (by unfold maxLen;omega) (g:=(W1.drewN nq).heap.size) hmz (new_at rfl) (fun _=>rfl) (fun _=>rfl)
     rw[HXE.out]at hup
     refine sec7 ga gm wr.heap.size k (W1.drewN nq).heap.size x.s Y2 (W1.drewN nq) rfl hm2 hl6 hup ?_
     have HO2:Hid (OnlyC gm u Y2):=by
      refine (HO.out.trans (OnlyC.of hbd)).trans ⟨hg2.os,hg2.tape,hg2.output,hg2.size,fun j hj hn=>hg2.block j hj (fun c=>hn (by injection c))⟩
     have HL2:Hid (Lbm xs u.heap.size Y2 gm (k+1) _ (fun _=>false) (fun _=>0)):=hl2
     clear hl2 hup hg2 hbd
     go_wp2_with fail
     exact⟨⟨k+1,hlt,by go_num,Pl.all_next HT.out HTW.out,HO2.out,_,HL2.out⟩,by simp[intOf];omega⟩
   ·have HTW:Hid (Pl.twice xs k=false):=HNK.out e1
    have HK1:Hid ((Pl.gl xs k).k≠1):=e1
    have e2:((Pl.gl xs k).k == 1)=false:=by simpa using e1
    have e3:((Pl.gl xs k).k != 1)=true:=by simpa using e1
    have HNX:Hid (∀ o,OnlyC gm u (wr.alloc o)/\Lbm xs u.heap.size (wr.alloc o) gm (k+1) mb (fun _=>false) (fun _=>0)):=fun o=>⟨HO.out.trans (OnlyC.of (below_alloc wr o)),(HB.out.keep (below_alloc wr o)).next HK1.out⟩
    clear e1 hsz
    generalize Pl.gl xs k=x at *
    go_wp2_with fail
    exact⟨⟨k+1,hlt,by go_num,Pl.all_next HT.out HTW.out,(HNX.out _).1,mb,(HNX.out _).2⟩,by simp[intOf];omega⟩
  ·have hi:¬ (k:Int)<(len:Int):=by omega
   have hkk:k=len:=by omega
   have HKL:Hid (k=len):=hkk
   clear hkk
   go_wp2
   go_ret
   have hf:=Pl.fst1_none (Pl.twice xs) len (fun j hj=>HT.out j (by rw[HKL.out];exact hj))
   exact⟨by rw[hf];rfl,HO.out,fun _=>⟨mb,by have:=HB.out;rw[HKL.out]at this;exact this⟩⟩
end Go.Proofs.YtlbomnnldkeocaaGreat.W
