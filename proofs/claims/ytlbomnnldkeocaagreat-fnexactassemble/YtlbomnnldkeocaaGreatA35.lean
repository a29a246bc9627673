import Derived.Test.YtlbomnnldkeocaaGreatA34
set_option linter.unusedVariables false
set_option linter.unusedSimpArgs false
set_option maxHeartbeats 16000000
namespace Go.Proofs.YtlbomnnldkeocaaGreat.W
open Go.RowKit
set_option maxRecDepth 100000 in
theorem fil_1 {lo:Nat} (xs:List Pl.Ln) (F R g k:Nat) (a:Option Addr) (len cap:Nat) (la:Option Addr) (ll lc:Nat) (aa:Option Addr) (ac:Nat) (vc vd:Value) {c1 c2 c5 c8 c9 c10 c11 c12 c13 c14 c15 c16 c17 c18 c19 c20 c21 c22 c23 c24 c25 c26 c27 c28 c29 c30 c31 c32 c33 c34 c35 c36 c37 c38 c39 c40 c41 c42 c43 c44 c45 c46 c47 c48 c49 c50 c51 c52 c53 c54 c55 c56 c57 c58 c59 c60 c61 c62 c63 c64 c65 c66 c67 c68 c69 c70 c71 c72 c73 c74 c75 c76 c77 c78 c79 c80 c81 c82 c83 c84 c85 c86 c87 c88 c89 c90 c91 c92 c93 c94 c95 c96 c97 c98 c99 c100 c101 c102 c103 c104 c105 c106 c107 c108 c109 c110 c111 c112 c113 c114 c115 c116 c117 c118 c119 c120 c121 c122 c123 c124 c125 c126 c127 c128 c129 c130 c131 c132 c133 c134 c135 c136 c137 c138 c139 c140 c141 c142 c143 c144:Value} (w0 Y:World) (hE:FilE lo xs Y F R a len cap la ll lc aa ac) (hF:FilS w0 Y g vc vd (Pl.codeL ewI xs k) (Pl.dataL xs k)) (hK:∀ i,i<xs.length->LnK (Pl.gl xs i)) (hS:∀ i,i<xs.length->Pl.stray xs i=false) (hL:Pl.lost xs k=false) (hk:k<len) (hn:len<=20000) (hR:R<w0.heap.size) (hq:(Pl.gl xs k).k=1) {Q:Exit->Act->World->Prop}
  (hN:∀ (s5 s8 s9 s10 s11 s12 s13 s14 s15 s16 s26 s27 s28 s29 s30 s31 s32 s33 s34 s35 s36 s37 s38 s39 s40 s41 s42 s43 s44 s45 s46 s47 s48 s49 s50 s51 s52 s53 s54 s55 s56 s57 s58 s59 s60 s61 s62 s63 s64 s65 s66 s67 s68 s69 s70 s71 s72 s73 s74 s75 s76 s77 s78 s79 s80 s81 s82 s83 s84 s85 s86 s87 s88 s89 s90 s91 s92 s93 s94 s95 s96 s97 s98 s99 s100 s101 s102 s103 s104 s105 s106 s107 s108 s109 s110 s111 s112 s113 s114 s115 s116 s117 s118 s119 s120 s121 s122 s123 s124 s125 s126 s127 s128 s129 s130 s131 s132 s133 s134 s135 s136 s137 s138 s139 s140 s141 s142 s143:Value) (u:World) (vc' vd':Value),Pl.badJ xs k=false->FilS w0 u g vc' vd' (Pl.codeL ewI xs (k+1)) (Pl.dataL xs (k+1))->Q .normal { tmps:=#[.slice a len cap,c1,c2,.pointer (some ⟨F,0,none⟩),.pointer (some ⟨R,0,none⟩),s5,.pointer (some ⟨g,0,none⟩),.int .i64 (k:Nat),s8,s9,s10,s11,s12,s13,s14,s15,s16,c17,c18,c19,c20,c21,c22,c23,c24,c25,s26,s27,s28,s29,s30,s31,s32,s33,s34,s35,s36,s37,s38,s39,s40,s41,s42,s43,s44,s45,s46,s47,s48,s49,s50,s51,s52,s53,s54,s55,s56,s57,s58,s59,s60,s61,s62,s63,s64,s65,s66,s67,s68,s69,s70,s71,s72,s73,s74,s75,s76,s77,s78,s79,s80,s81,s82,s83,s84,s85,s86,s87,s88,s89,s90,s91,s92,s93,s94,s95,s96,s97,s98,s99,s100,s101,s102,s103,s104,s105,s106,s107,s108,s109,s110,s111,s112,s113,s114,s115,s116,s117,s118,s119,s120,s121,s122,s123,s124,s125,s126,s127,s128,s129,s130,s131,s132,s133,s134,s135,s136,s137,s138,s139,s140,s141,s142,s143,c144],defers:=[] } u)
  (hX:∀ (s8 s9 s10 s11 s12 s13 s14 s15 s16 s26 s27 s28 s29 s30 s31 s32 s33 s34 s35 s36 s37 s38 s39 s40 s41 s42 s43 s44 s45 s46 s47 s48 s49 s50 s51 s52 s53 s54 s55 s56 s57 s58 s59 s60 s61 s62 s63 s64 s65 s66 s67 s68 s69 s70 s71 s72 s73 s74 s75 s76 s77 s78 s79 s80 s81 s82 s83 s84 s85 s86 s87 s88 s89 s90 s91 s92 s93 s94 s95 s96 s97 s98 s99 s100 s101 s102 s103 s104 s105 s106 s107 s108 s109 s110 s111 s112 s113 s114 s115 s116 s117 s118 s119 s120 s121 s122 s123 s124 s125 s126 s127 s128 s129 s130 s131 s132 s133 s134 s135 s136 s137 s138 s139 s140 s141 s142 s143:Value) (u:World) (a9:Option Addr) (n9 y9:Nat) (b9:Option Addr) (m9 z9:Nat),Pl.badJ xs k=true->u.heap[R]?=some (.cells #[.slice a9 n9 y9,.slice b9 m9 z9,.int .i64 0,.int .i64 0] 28 (0,0))->Below R w0 u->Q .ret { tmps:=#[.slice a len cap,c1,c2,.pointer (some ⟨F,0,none⟩),.pointer (some ⟨R,0,none⟩),.int .i64 (k:Nat),.pointer (some ⟨g,0,none⟩),.int .i64 (k:Nat),s8,s9,s10,s11,s12,s13,s14,s15,s16,c17,c18,c19,c20,c21,c22,c23,c24,c25,s26,s27,s28,s29,s30,s31,s32,s33,s34,s35,s36,s37,s38,s39,s40,s41,s42,s43,s44,s45,s46,s47,s48,s49,s50,s51,s52,s53,s54,s55,s56,s57,s58,s59,s60,s61,s62,s63,s64,s65,s66,s67,s68,s69,s70,s71,s72,s73,s74,s75,s76,s77,s78,s79,s80,s81,s82,s83,s84,s85,s86,s87,s88,s89,s90,s91,s92,s93,s94,s95,s96,s97,s98,s99,s100,s101,s102,s103,s104,s105,s106,s107,s108,s109,s110,s111,s112,s113,s114,s115,s116,s117,s118,s119,s120,s121,s122,s123,s124,s125,s126,s127,s128,s129,s130,s131,s132,s133,s134,s135,s136,s137,s138,s139,s140,s141,s142,s143,c144],defers:=[] } u) :
  (filB 1).wp Tryz.prog Q { tmps:=#[.slice a len cap,c1,c2,.pointer (some ⟨F,0,none⟩),.pointer (some ⟨R,0,none⟩),c5,.pointer (some ⟨g,0,none⟩),.int .i64 (k:Nat),c8,c9,c10,c11,c12,c13,c14,c15,c16,c17,c18,c19,c20,c21,c22,c23,c24,c25,c26,c27,c28,c29,c30,c31,c32,c33,c34,c35,c36,c37,c38,c39,c40,c41,c42,c43,c44,c45,c46,c47,c48,c49,c50,c51,c52,c53,c54,c55,c56,c57,c58,c59,c60,c61,c62,c63,c64,c65,c66,c67,c68,c69,c70,c71,c72,c73,c74,c75,c76,c77,c78,c79,c80,c81,c82,c83,c84,c85,c86,c87,c88,c89,c90,c91,c92,c93,c94,c95,c96,c97,c98,c99,c100,c101,c102,c103,c104,c105,c106,c107,c108,c109,c110,c111,c112,c113,c114,c115,c116,c117,c118,c119,c120,c121,c122,c123,c124,c125,c126,c127,c128,c129,c130,c131,c132,c133,c134,c135,c136,c137,c138,c139,c140,c141,c142,c143,c144],defers:=[] } Y:=by
 have HNt:Hid (∀ (s5 s8 s9 s10 s11 s12 s13 s14 s15 s16 s26 s27 s28 s29 s30 s31 s32 s33 s34 s35 s36 s37 s38 s39 s40 s41 s42 s43 s44 s45 s46 s47 s48 s49 s50 s51 s52 s53 s54 s55 s56 s57 s58 s59 s60 s61 s62 s63 s64 s65 s66 s67 s68 s69 s70 s71 s72 s73 s74 s75 s76 s77 s78 s79 s80 s81 s82 s83 s84 s85 s86 s87 s88 s89 s90 s91 s92 s93 s94 s95 s96 s97 s98 s99 s100 s101 s102 s103 s104 s105 s106 s107 s108 s109 s110 s111 s112 s113 s114 s115 s116 s117 s118 s119 s120 s121 s122 s123 s124 s125 s126 s127 s128 s129 s130 s131 s132 s133 s134 s135 s136 s137 s138 s139 s140 s141 s142 s143:Value) (u:World) (vc' vd':Value),Pl.badJ xs k=false->FilS w0 u g vc' vd' (Pl.codeL ewI xs (k+1)) (Pl.dataL xs (k+1))->Q .normal { tmps:=#[.slice a len cap,c1,c2,.pointer (some ⟨F,0,none⟩),.pointer (some ⟨R,0,none⟩),s5,.pointer (some ⟨g,0,none⟩),.int .i64 (k:Nat),s8,s9,s10,s11,s12,s13,s14,s15,s16,c17,c18,c19,c20,c21,c22,c23,c24,c25,s26,s27,s28,s29,s30,s31,s32,s33,s34,s35,s36,s37,s38,s39,s40,s41,s42,s43,s44,s45,s46,s47,s48,s49,s50,s51,s52,s53,s54,s55,s56,s57,s58,s59,s60,s61,s62,s63,s64,s65,s66,s67,s68,s69,s70,s71,s72,s73,s74,s75,s76,s77,s78,s79,s80,s81,s82,s83,s84,s85,s86,s87,s88,s89,s90,s91,s92,s93,s94,s95,s96,s97,s98,s99,s100,s101,s102,s103,s104,s105,s106,s107,s108,s109,s110,s111,s112,s113,s114,s115,s116,s117,s118,s119,s120,s121,s122,s123,s124,s125,s126,s127,s128,s129,s130,s131,s132,s133,s134,s135,s136,s137,s138,s139,s140,s141,s142,s143,c144],defers:=[] } u):=hN
 have HXt:Hid (∀ (s8 s9 s10 s11 s12 s13 s14 s15 s16 s26 s27 s28 s29 s30 s31 s32 s33 s34 s35 s36 s37 s38 s39 s40 s41 s42 s43 s44 s45 s46 s47 s48 s49 s50 s51 s52 s53 s54 s55 s56 s57 s58 s59 s60 s61 s62 s63 s64 s65 s66 s67 s68 s69 s70 s71 s72 s73 s74 s75 s76 s77 s78 s79 s80 s81 s82 s83 s84 s85 s86 s87 s88 s89 s90 s91 s92 s93 s94 s95 s96 s97 s98 s99 s100 s101 s102 s103 s104 s105 s106 s107 s108 s109 s110 s111 s112 s113 s114 s115 s116 s117 s118 s119 s120 s121 s122 s123 s124 s125 s126 s127 s128 s129 s130 s131 s132 s133 s134 s135 s136 s137 s138 s139 s140 s141 s142 s143:Value) (u:World) (a9:Option Addr) (n9 y9:Nat) (b9:Option Addr) (m9 z9:Nat),Pl.badJ xs k=true->u.heap[R]?=some (.cells #[.slice a9 n9 y9,.slice b9 m9 z9,.int .i64 0,.int .i64 0] 28 (0,0))->Below R w0 u->Q .ret { tmps:=#[.slice a len cap,c1,c2,.pointer (some ⟨F,0,none⟩),.pointer (some ⟨R,0,none⟩),.int .i64 (k:Nat),.pointer (some ⟨g,0,none⟩),.int .i64 (k:Nat),s8,s9,s10,s11,s12,s13,s14,s15,s16,c17,c18,c19,c20,c21,c22,c23,c24,c25,s26,s27,s28,s29,s30,s31,s32,s33,s34,s35,s36,s37,s38,s39,s40,s41,s42,s43,s44,s45,s46,s47,s48,s49,s50,s51,s52,s53,s54,s55,s56,s57,s58,s59,s60,s61,s62,s63,s64,s65,s66,s67,s68,s69,s70,s71,s72,s73,s74,s75,s76,s77,s78,s79,s80,s81,s82,s83,s84,s85,s86,s87,s88,s89,s90,s91,s92,s93,s94,s95,s96,s97,s98,s99,s100,s101,s102,s103,s104,s105,s106,s107,s108,s109,s110,s111,s112,s113,s114,s115,s116,s117,s118,s119,s120,s121,s122,s123,s124,s125,s126,s127,s128,s129,s130,s131,s132,s133,s134,s135,s136,s137,s138,s139,s140,s141,s142,s143,c144],defers:=[] } u):=hX
 have HE:Hid (FilE lo xs Y F R a len cap la ll lc aa ac):=hE
 have hxl:xs.length=len:=hE.ln.len.1
 have HXL:Hid (xs.length=len):=hxl
 have hK1:=hK k (by omega)
 have HKn:Hid (LnK (Pl.gl xs k)):=hK1
 obtain⟨a6,y6,hv6⟩:=own_slice hF.od
 subst hv6
 have HF:Hid (FilS w0 Y g vc (.slice a6 (Pl.dataL xs k).length y6) (Pl.codeL ewI xs k) (Pl.dataL xs k)):=hF
 have HFB:Hid ((Pl.ins xs k).any (fun y=>!y.ok || (Pl.isJ (Pl.gl xs k).k && Pl.inD xs (Pl.gl xs k).s))=Pl.badJ xs k):=Pl.fill_bad xs k hK1.i
 have HIN:Hid (Pl.ins xs k=Pl.insA (Pl.gl xs k) (Pl.cu xs k).at (Pl.adr xs (Pl.gl xs k).s)):=rfl
 have hadr:=adr_bd hK (by omega) (Pl.gl xs k).s
 have hatb:=at_bd hK (by omega) (k:=k) (by omega)
 have HCS:Hid (Pl.codeL ewI xs (k+1)=Pl.codeL ewI xs k ++ (Pl.ins xs k).map ewI):=Pl.codeL_succ _ _ _
 have HDS:Hid (Pl.dataL xs (k+1)=Pl.dataL xs k ++ Pl.dat xs k):=Pl.dataL_succ _ _
 have hlen2:=Pl.laid_len ewI xs (fun i hi=>(hK i hi).b) hS k (by omega)
 have hcb:=Pl.cu_bd xs (fun i hi=>(hK i hi).b) k (by omega)
 have hcl:(Pl.codeL ewI xs k).length<=100000:=by omega
 have hdl:(Pl.dataL xs k).length<=1310720000:=by omega
 have HB0:Hid (((Pl.dataL xs k).length:Int)=(Pl.cu xs k).b):=hlen2.2
 have hg0:=hF.hg
 have hgY:g<Y.heap.size:=hF.lt
 have hsn:¬ (Pl.gl xs k).s=⟨#[]⟩:=fun c=>hK1.sym (by omega) (by rw[c];rfl)
 have hlb:Pl.lb xs (Pl.gl xs k).s≠none:=fun c=>by
  have:=hL
  unfold Pl.lost at this
  rw[c]at this
  simp[hsn]at this
 obtain⟨p,bl,ol,hla,hp,hwh,ca,cd,hbl⟩:=hE.sym hlb
 subst hla
 have HW:Hid (∀ u,Below Y.heap.size Y u->Calls Tryz.prog 26 #[.slice (some ⟨bl,ol,none⟩) ll lc,.string (Pl.gl xs k).s] u fun e w'=>e=.returned (.int .i64 (p:Nat))/\w'=u):=fun u hu=>by rw[<- hwh];exact l4Where_is _ _ _ xs _ _ u (HE.out.keep hu).lb
 have HCA:Hid (∀ u,Below Y.heap.size Y u->u.cell? ⟨bl,ol+p*4+2,none⟩=some (.int .i64 (Pl.adr xs (Pl.gl xs k).s))/\u.cell? ⟨bl,ol+p*4+3,none⟩=some (.bool (!Pl.inD xs (Pl.gl xs k).s))):=fun u hu=>⟨below_cell hu ca,below_cell hu cd⟩
 have hpl:(p:Int)<(ll:Int):=by omega
 have hll:(ll:Int)<=20000:=by
  have h1:=hE.lb.1
  have h2:(Pl.lbs xs xs.length).length<=xs.length:=by unfold Pl.lbs;refine Nat.le_trans (List.length_filter_le _ _) (by simp)
  omega
 have se:(Pl.gl xs k).s.toList.isEmpty=false:=by rw[<- Pl.str_nil];simpa using hsn
 clear hwh
 have HDD:Hid (Pl.dataL xs (k+1)=Pl.dataL xs k):=by show _=_;rw[HDS.out,Pl.dat_text xs k (by omega),List.append_nil]
 have HZ:Hid (Pl.dsz (Pl.gl xs k) 0=0):=Pl.dsz_text _ _ (by omega)
 have HIS:Hid (∀ u,InsSaid (Pl.gl xs k) (Pl.cu xs k).at (Pl.adr xs (Pl.gl xs k).s) u):=fun u=>l4Insts_is _ _ _ u hK1.b.k (by omega) (by omega) hK1.i.w4 (fun q=>by have:=hK1.far (.inl q);omega)
 have hat:=hE.ats hk
 obtain⟨ba,oa,haa,hba,cat⟩:=hat
 subst haa
 obtain⟨b0,off,haL,hlo,hb1,hsz,z0,z1,z2,z3,z4,z5,z6,z7⟩:=hE.ln.at k hk
 subst haL
 have hi:(k:Int)<(len:Int):=by omega
 have HLB:Hid (Pl.LnB (Pl.gl xs k)):=hK1.b
 have hf0:=hE.f0
 have hF0:F<Y.heap.size:=block_lt_of_cell hf0
 clear hE hF hN hX hK hS hL hK1 hlen2 hcb hsz
 conv=>arg 2;whnf
 dsimp only
 generalize hx:Pl.gl xs k=x at *
 have HXE:Hid (Pl.gl xs k=x):=hx
 clear hx
 have hkk:x.k=1:=hq
 have HKK:Hid (x.k=1):=hkk
 rw[hkk]at z0
 clear hq hkk
 have c8a:=(HCA.out (Y.alloc (.cells #[.int .i64 1,.int .i64 x.op,.int .i64 x.rd,.int .i64 x.r1,.int .i64 x.r2,.int .i64 x.im,.string x.s,.int .i64 x.n] 51)) (below_alloc _ _)).1
 have c8d:=(HCA.out (Y.alloc (.cells #[.int .i64 1,.int .i64 x.op,.int .i64 x.rd,.int .i64 x.r1,.int .i64 x.r2,.int .i64 x.im,.string x.s,.int .i64 x.n] 51)) (below_alloc _ _)).2
 have hf0':(Y.alloc (.cells #[.int .i64 1,.int .i64 x.op,.int .i64 x.rd,.int .i64 x.r1,.int .i64 x.r2,.int .i64 x.im,.string x.s,.int .i64 x.n] 51)).cell? ⟨F,0,none⟩=some (.slice (some ⟨bl,ol,none⟩) ll lc):=below_cell (below_alloc _ _) hf0
 go_upto_region 12 with (go_at_call 26;refine (HW.out _ (below_alloc _ _)).mono ?_;rintro e u9 ⟨rfl,rfl⟩)
 have hrow:(Y.alloc (.cells #[.int .i64 1,.int .i64 x.op,.int .i64 x.rd,.int .i64 x.r1,.int .i64 x.r2,.int .i64 x.im,.string x.s,.int .i64 x.n] 51)).heap[Y.heap.size]?=some (.cells #[.int .i64 1,.int .i64 x.op,.int .i64 x.rd,.int .i64 x.r1,.int .i64 x.r2,.int .i64 x.im,.string x.s,.int .i64 x.n] 51 (0,0)):=heap_alloc_new Y _
 have HLN:Hid (∀ w1:World,w1.heap[Y.heap.size]?=some (.cells #[.int .i64 1,.int .i64 x.op,.int .i64 x.rd,.int .i64 x.r1,.int .i64 x.r2,.int .i64 x.im,.string x.s,.int .i64 x.n] 51 (0,0))->∀ j,w1.cell? ⟨Y.heap.size,j,none⟩=(#[.int .i64 1,.int .i64 x.op,.int .i64 x.rd,.int .i64 x.r1,.int .i64 x.r2,.int .i64 x.im,.string x.s,.int .i64 x.n]:Array Value)[j]?):=fun w1 hw1 j=>cell_of_row _ _ j _ 51 (0,0) hw1
 have HRW:Hid ((Y.alloc (.cells #[.int .i64 1,.int .i64 x.op,.int .i64 x.rd,.int .i64 x.r1,.int .i64 x.r2,.int .i64 x.im,.string x.s,.int .i64 x.n] 51)).heap[Y.heap.size]?=some (.cells #[.int .i64 1,.int .i64 x.op,.int .i64 x.rd,.int .i64 x.r1,.int .i64 x.r2,.int .i64 x.im,.string x.s,.int .i64 x.n] 51 (0,0))):=hrow
 refine fil12 F Y.heap.size k ba oa len ac x (Pl.cu xs k).at (Pl.adr xs x.s) (Y.alloc (.cells #[.int .i64 1,.int .i64 x.op,.int .i64 x.rd,.int .i64 x.r1,.int .i64 x.r2,.int .i64 x.im,.string x.s,.int .i64 x.n] 51)) (below_cell (below_alloc _ _) HE.out.f1) hk hn (below_cell (below_alloc _ _) cat) (by rw[HKK.out];exact HLN.out _ HRW.out 0) (HLN.out _ HRW.out 1) (HLN.out _ HRW.out 2) (HLN.out _ HRW.out 3) (HLN.out _ HRW.out 4) (HLN.out _ HRW.out 5) (HLN.out _ HRW.out 6) (HLN.out _ HRW.out 7) (HIS.out _) ?_
 intro ai ni ci w1 hI hw1
 have HI:Hid (InsRow (Y.alloc (.cells #[.int .i64 1,.int .i64 x.op,.int .i64 x.rd,.int .i64 x.r1,.int .i64 x.r2,.int .i64 x.im,.string x.s,.int .i64 x.n] 51)).heap.size w1 ai ni (Pl.insA x (Pl.cu xs k).at (Pl.adr xs x.s))):=hI
 have HW1:Hid (Below (Y.alloc (.cells #[.int .i64 1,.int .i64 x.op,.int .i64 x.rd,.int .i64 x.r1,.int .i64 x.r2,.int .i64 x.im,.string x.s,.int .i64 x.n] 51)).heap.size (Y.alloc (.cells #[.int .i64 1,.int .i64 x.op,.int .i64 x.rd,.int .i64 x.r1,.int .i64 x.r2,.int .i64 x.im,.string x.s,.int .i64 x.n] 51)) w1):=hw1
 have HR1:Hid (w1.heap[Y.heap.size]?=some (.cells #[.int .i64 1,.int .i64 x.op,.int .i64 x.rd,.int .i64 x.r1,.int .i64 x.r2,.int .i64 x.im,.string x.s,.int .i64 x.n] 51 (0,0))):=(hw1.block Y.heap.size (by simp)).trans hrow
 have HF1:Hid (FilS w0 w1 g vc (.slice a6 (Pl.dataL xs k).length y6) (Pl.codeL ewI xs k) (Pl.dataL xs k)):=(HF.out.keep (below_alloc _ _)).keep hw1
 have k0:=HLN.out _ HR1.out 0
 simp only[List.getElem?_toArray,List.getElem?_cons_zero]at k0
 clear hI hw1 hrow
 go_upto_block 2 with fail
 refine fil_loop k g R false (!Pl.inD xs x.s) (Pl.insA x (Pl.cu xs k).at (Pl.adr xs x.s)) ai ni ci vc _ (Pl.codeL ewI xs k) (Pl.dataL xs k) w0 w1 HF1.out HI.out ((HE.out.keep (Below.trans (below_alloc Y _) (HW1.out.mono (by simp)))).r) hR (by simp;omega) hcl ?N ?X
 case X=>
  intros
  rename_i hany hrw hbe
  refine HXt.out _ _ _ _ _ _ _ _ _ _ _ _ _ _ _ _ _ _ _ _ _ _ _ _ _ _ _ _ _ _ _ _ _ _ _ _ _ _ _ _ _ _ _ _ _ _ _ _ _ _ _ _ _ _ _ _ _ _ _ _ _ _ _ _ _ _ _ _ _ _ _ _ _ _ _ _ _ _ _ _ _ _ _ _ _ _ _ _ _ _ _ _ _ _ _ _ _ _ _ _ _ _ _ _ _ _ _ _ _ _ _ _ _ _ _ _ _ _ _ _ _ _ _ _ _ _ _ _ _ _ _ _ _ _ ?_ hrw hbe
  rw[<- HFB.out,HIN.out]
  simpa [Pl.isJ,HKK.out] using hany
 case N=>
  intro v5 v14 v15 v16 v71 v72 v73 v74 v75 v76 v77 v78 v79 v80 v81 v82 v83 v84 v85 v86 v87 v88 v89 v90 v91 v92 v93 v94 v95 v96 v97 v98 v99 v100 v101 u vc2 hany hs2 hby
  have HS2:Hid (FilS w0 u g vc2 (.slice a6 (Pl.dataL xs k).length y6) (Pl.codeL ewI xs (k+1)) (Pl.dataL xs k)):=by show FilS _ _ _ _ _ _ _;rw[HCS.out,HIN.out];exact hs2
  have HBJ:Hid (Pl.badJ xs k=false):=by
   show _=_
   rw[<- HFB.out,HIN.out]
   simpa [Pl.isJ,HKK.out] using hany
  have HR2:Hid (u.heap[Y.heap.size]?=some (.cells #[.int .i64 1,.int .i64 x.op,.int .i64 x.rd,.int .i64 x.r1,.int .i64 x.r2,.int .i64 x.im,.string x.s,.int .i64 x.n] 51 (0,0))):=hby.block _ _ (by omega) HR1.out (fun c q=>by injection q with _ q2 _;exact absurd q2 (by decide))
  have l0:=HLN.out _ HR2.out 0;have l6:=HLN.out _ HR2.out 6
  simp only[List.getElem?_toArray,List.getElem?_cons_zero,List.getElem?_cons_succ]at l0 l6
  clear hany hs2 hby k0
  go_upto_region 25 with fail
  refine fil25 g Y.heap.size (Pl.dataL xs k).length _ x 0 a6 y6 (DatA w0 (Pl.dataL xs k)) u HS2.out.c1 (by rw[HKK.out];exact HLN.out _ HR2.out 0) (HLN.out _ HR2.out 1) (HLN.out _ HR2.out 2) (HLN.out _ HR2.out 3) (HLN.out _ HR2.out 4) (HLN.out _ HR2.out 5) (HLN.out _ HR2.out 6) (HLN.out _ HR2.out 7) (fun _ _ _ _ h1 h2=>DatA.old HS2.out h1 h2) (fun u3=>by have h5:=l4Count8_is x 0 HLB.out (by omega) u3;rw[HZ.out]at h5;exact h5) (fun u3 h3=>put_no (HS2.out.keep h3) x.n) ?_
  intro a2 y2 u3 u4 h3 h4
  have HFN:Hid (FilS w0 (u4.setCell ⟨g,1,none⟩ (.slice a2 (Pl.dataL xs k).length y2)) g vc2 (.slice a2 (Pl.dataL xs k).length y2) (Pl.codeL ewI xs (k+1)) (Pl.dataL xs (k+1))):=by show FilS _ _ _ _ _ _ _;rw[HDD.out];exact DatA.fin HS2.out h3 h4
  clear h3 h4
  go_wp2_with fail
  have hfn:=HFN.out
  exact HNt.out _ _ _ _ _ _ _ _ _ _ _ _ _ _ _ _ _ _ _ _ _ _ _ _ _ _ _ _ _ _ _ _ _ _ _ _ _ _ _ _ _ _ _ _ _ _ _ _ _ _ _ _ _ _ _ _ _ _ _ _ _ _ _ _ _ _ _ _ _ _ _ _ _ _ _ _ _ _ _ _ _ _ _ _ _ _ _ _ _ _ _ _ _ _ _ _ _ _ _ _ _ _ _ _ _ _ _ _ _ _ _ _ _ _ _ _ _ _ _ _ _ _ _ _ _ _ _ _ _ _ _ HBJ.out hfn
set_option maxRecDepth 100000 in
theorem fil_3 {lo:Nat} (xs:List Pl.Ln) (F R g k:Nat) (a:Option Addr) (len cap:Nat) (la:Option Addr) (ll lc:Nat) (aa:Option Addr) (ac:Nat) (vc vd:Value) {c1 c2 c5 c8 c9 c10 c11 c12 c13 c14 c15 c16 c17 c18 c19 c20 c21 c22 c23 c24 c25 c26 c27 c28 c29 c30 c31 c32 c33 c34 c35 c36 c37 c38 c39 c40 c41 c42 c43 c44 c45 c46 c47 c48 c49 c50 c51 c52 c53 c54 c55 c56 c57 c58 c59 c60 c61 c62 c63 c64 c65 c66 c67 c68 c69 c70 c71 c72 c73 c74 c75 c76 c77 c78 c79 c80 c81 c82 c83 c84 c85 c86 c87 c88 c89 c90 c91 c92 c93 c94 c95 c96 c97 c98 c99 c100 c101 c102 c103 c104 c105 c106 c107 c108 c109 c110 c111 c112 c113 c114 c115 c116 c117 c118 c119 c120 c121 c122 c123 c124 c125 c126 c127 c128 c129 c130 c131 c132 c133 c134 c135 c136 c137 c138 c139 c140 c141 c142 c143 c144:Value} (w0 Y:World) (hE:FilE lo xs Y F R a len cap la ll lc aa ac) (hF:FilS w0 Y g vc vd (Pl.codeL ewI xs k) (Pl.dataL xs k)) (hK:∀ i,i<xs.length->LnK (Pl.gl xs i)) (hS:∀ i,i<xs.length->Pl.stray xs i=false) (hL:Pl.lost xs k=false) (hk:k<len) (hn:len<=20000) (hR:R<w0.heap.size) (hq:(Pl.gl xs k).k=3) {Q:Exit->Act->World->Prop}
  (hN:∀ (s5 s8 s9 s10 s11 s12 s13 s14 s15 s16 s26 s27 s28 s29 s30 s31 s32 s33 s34 s35 s36 s37 s38 s39 s40 s41 s42 s43 s44 s45 s46 s47 s48 s49 s50 s51 s52 s53 s54 s55 s56 s57 s58 s59 s60 s61 s62 s63 s64 s65 s66 s67 s68 s69 s70 s71 s72 s73 s74 s75 s76 s77 s78 s79 s80 s81 s82 s83 s84 s85 s86 s87 s88 s89 s90 s91 s92 s93 s94 s95 s96 s97 s98 s99 s100 s101 s102 s103 s104 s105 s106 s107 s108 s109 s110 s111 s112 s113 s114 s115 s116 s117 s118 s119 s120 s121 s122 s123 s124 s125 s126 s127 s128 s129 s130 s131 s132 s133 s134 s135 s136 s137 s138 s139 s140 s141 s142 s143:Value) (u:World) (vc' vd':Value),Pl.badJ xs k=false->FilS w0 u g vc' vd' (Pl.codeL ewI xs (k+1)) (Pl.dataL xs (k+1))->Q .normal { tmps:=#[.slice a len cap,c1,c2,.pointer (some ⟨F,0,none⟩),.pointer (some ⟨R,0,none⟩),s5,.pointer (some ⟨g,0,none⟩),.int .i64 (k:Nat),s8,s9,s10,s11,s12,s13,s14,s15,s16,c17,c18,c19,c20,c21,c22,c23,c24,c25,s26,s27,s28,s29,s30,s31,s32,s33,s34,s35,s36,s37,s38,s39,s40,s41,s42,s43,s44,s45,s46,s47,s48,s49,s50,s51,s52,s53,s54,s55,s56,s57,s58,s59,s60,s61,s62,s63,s64,s65,s66,s67,s68,s69,s70,s71,s72,s73,s74,s75,s76,s77,s78,s79,s80,s81,s82,s83,s84,s85,s86,s87,s88,s89,s90,s91,s92,s93,s94,s95,s96,s97,s98,s99,s100,s101,s102,s103,s104,s105,s106,s107,s108,s109,s110,s111,s112,s113,s114,s115,s116,s117,s118,s119,s120,s121,s122,s123,s124,s125,s126,s127,s128,s129,s130,s131,s132,s133,s134,s135,s136,s137,s138,s139,s140,s141,s142,s143,c144],defers:=[] } u)
  (hX:∀ (s8 s9 s10 s11 s12 s13 s14 s15 s16 s26 s27 s28 s29 s30 s31 s32 s33 s34 s35 s36 s37 s38 s39 s40 s41 s42 s43 s44 s45 s46 s47 s48 s49 s50 s51 s52 s53 s54 s55 s56 s57 s58 s59 s60 s61 s62 s63 s64 s65 s66 s67 s68 s69 s70 s71 s72 s73 s74 s75 s76 s77 s78 s79 s80 s81 s82 s83 s84 s85 s86 s87 s88 s89 s90 s91 s92 s93 s94 s95 s96 s97 s98 s99 s100 s101 s102 s103 s104 s105 s106 s107 s108 s109 s110 s111 s112 s113 s114 s115 s116 s117 s118 s119 s120 s121 s122 s123 s124 s125 s126 s127 s128 s129 s130 s131 s132 s133 s134 s135 s136 s137 s138 s139 s140 s141 s142 s143:Value) (u:World) (a9:Option Addr) (n9 y9:Nat) (b9:Option Addr) (m9 z9:Nat),Pl.badJ xs k=true->u.heap[R]?=some (.cells #[.slice a9 n9 y9,.slice b9 m9 z9,.int .i64 0,.int .i64 0] 28 (0,0))->Below R w0 u->Q .ret { tmps:=#[.slice a len cap,c1,c2,.pointer (some ⟨F,0,none⟩),.pointer (some ⟨R,0,none⟩),.int .i64 (k:Nat),.pointer (some ⟨g,0,none⟩),.int .i64 (k:Nat),s8,s9,s10,s11,s12,s13,s14,s15,s16,c17,c18,c19,c20,c21,c22,c23,c24,c25,s26,s27,s28,s29,s30,s31,s32,s33,s34,s35,s36,s37,s38,s39,s40,s41,s42,s43,s44,s45,s46,s47,s48,s49,s50,s51,s52,s53,s54,s55,s56,s57,s58,s59,s60,s61,s62,s63,s64,s65,s66,s67,s68,s69,s70,s71,s72,s73,s74,s75,s76,s77,s78,s79,s80,s81,s82,s83,s84,s85,s86,s87,s88,s89,s90,s91,s92,s93,s94,s95,s96,s97,s98,s99,s100,s101,s102,s103,s104,s105,s106,s107,s108,s109,s110,s111,s112,s113,s114,s115,s116,s117,s118,s119,s120,s121,s122,s123,s124,s125,s126,s127,s128,s129,s130,s131,s132,s133,s134,s135,s136,s137,s138,s139,s140,s141,s142,s143,c144],defers:=[] } u) :
  (filB 1).wp Tryz.prog Q { tmps:=#[.slice a len cap,c1,c2,.pointer (some ⟨F,0,none⟩),.pointer (some ⟨R,0,none⟩),c5,.pointer (some ⟨g,0,none⟩),.int .i64 (k:Nat),c8,c9,c10,c11,c12,c13,c14,c15,c16,c17,c18,c19,c20,c21,c22,c23,c24,c25,c26,c27,c28,c29,c30,c31,c32,c33,c34,c35,c36,c37,c38,c39,c40,c41,c42,c43,c44,c45,c46,c47,c48,c49,c50,c51,c52,c53,c54,c55,c56,c57,c58,c59,c60,c61,c62,c63,c64,c65,c66,c67,c68,c69,c70,c71,c72,c73,c74,c75,c76,c77,c78,c79,c80,c81,c82,c83,c84,c85,c86,c87,c88,c89,c90,c91,c92,c93,c94,c95,c96,c97,c98,c99,c100,c101,c102,c103,c104,c105,c106,c107,c108,c109,c110,c111,c112,c113,c114,c115,c116,c117,c118,c119,c120,c121,c122,c123,c124,c125,c126,c127,c128,c129,c130,c131,c132,c133,c134,c135,c136,c137,c138,c139,c140,c141,c142,c143,c144],defers:=[] } Y:=by
 have HNt:Hid (∀ (s5 s8 s9 s10 s11 s12 s13 s14 s15 s16 s26 s27 s28 s29 s30 s31 s32 s33 s34 s35 s36 s37 s38 s39 s40 s41 s42 s43 s44 s45 s46 s47 s48 s49 s50 s51 s52 s53 s54 s55 s56 s57 s58 s59 s60 s61 s62 s63 s64 s65 s66 s67 s68 s69 s70 s71 s72 s73 s74 s75 s76 s77 s78 s79 s80 s81 s82 s83 s84 s85 s86 s87 s88 s89 s90 s91 s92 s93 s94 s95 s96 s97 s98 s99 s100 s101 s102 s103 s104 s105 s106 s107 s108 s109 s110 s111 s112 s113 s114 s115 s116 s117 s118 s119 s120 s121 s122 s123 s124 s125 s126 s127 s128 s129 s130 s131 s132 s133 s134 s135 s136 s137 s138 s139 s140 s141 s142 s143:Value) (u:World) (vc' vd':Value),Pl.badJ xs k=false->FilS w0 u g vc' vd' (Pl.codeL ewI xs (k+1)) (Pl.dataL xs (k+1))->Q .normal { tmps:=#[.slice a len cap,c1,c2,.pointer (some ⟨F,0,none⟩),.pointer (some ⟨R,0,none⟩),s5,.pointer (some ⟨g,0,none⟩),.int .i64 (k:Nat),s8,s9,s10,s11,s12,s13,s14,s15,s16,c17,c18,c19,c20,c21,c22,c23,c24,c25,s26,s27,s28,s29,s30,s31,s32,s33,s34,s35,s36,s37,s38,s39,s40,s41,s42,s43,s44,s45,s46,s47,s48,s49,s50,s51,s52,s53,s54,s55,s56,s57,s58,s59,s60,s61,s62,s63,s64,s65,s66,s67,s68,s69,s70,s71,s72,s73,s74,s75,s76,s77,s78,s79,s80,s81,s82,s83,s84,s85,s86,s87,s88,s89,s90,s91,s92,s93,s94,s95,s96,s97,s98,s99,s100,s101,s102,s103,s104,s105,s106,s107,s108,s109,s110,s111,s112,s113,s114,s115,s116,s117,s118,s119,s120,s121,s122,s123,s124,s125,s126,s127,s128,s129,s130,s131,s132,s133,s134,s135,s136,s137,s138,s139,s140,s141,s142,s143,c144],defers:=[] } u):=hN
 have HXt:Hid (∀ (s8 s9 s10 s11 s12 s13 s14 s15 s16 s26 s27 s28 s29 s30 s31 s32 s33 s34 s35 s36 s37 s38 s39 s40 s41 s42 s43 s44 s45 s46 s47 s48 s49 s50 s51 s52 s53 s54 s55 s56 s57 s58 s59 s60 s61 s62 s63 s64 s65 s66 s67 s68 s69 s70 s71 s72 s73 s74 s75 s76 s77 s78 s79 s80 s81 s82 s83 s84 s85 s86 s87 s88 s89 s90 s91 s92 s93 s94 s95 s96 s97 s98 s99 s100 s101 s102 s103 s104 s105 s106 s107 s108 s109 s110 s111 s112 s113 s114 s115 s116 s117 s118 s119 s120 s121 s122 s123 s124 s125 s126 s127 s128 s129 s130 s131 s132 s133 s134 s135 s136 s137 s138 s139 s140 s141 s142 s143:Value) (u:World) (a9:Option Addr) (n9 y9:Nat) (b9:Option Addr) (m9 z9:Nat),Pl.badJ xs k=true->u.heap[R]?=some (.cells #[.slice a9 n9 y9,.slice b9 m9 z9,.int .i64 0,.int .i64 0] 28 (0,0))->Below R w0 u->Q .ret { tmps:=#[.slice a len cap,c1,c2,.pointer (some ⟨F,0,none⟩),.pointer (some ⟨R,0,none⟩),.int .i64 (k:Nat),.pointer (some ⟨g,0,none⟩),.int .i64 (k:Nat),s8,s9,s10,s11,s12,s13,s14,s15,s16,c17,c18,c19,c20,c21,c22,c23,c24,c25,s26,s27,s28,s29,s30,s31,s32,s33,s34,s35,s36,s37,s38,s39,s40,s41,s42,s43,s44,s45,s46,s47,s48,s49,s50,s51,s52,s53,s54,s55,s56,s57,s58,s59,s60,s61,s62,s63,s64,s65,s66,s67,s68,s69,s70,s71,s72,s73,s74,s75,s76,s77,s78,s79,s80,s81,s82,s83,s84,s85,s86,s87,s88,s89,s90,s91,s92,s93,s94,s95,s96,s97,s98,s99,s100,s101,s102,s103,s104,s105,s106,s107,s108,s109,s110,s111,s112,s113,s114,s115,s116,s117,s118,s119,s120,s121,s122,s123,s124,s125,s126,s127,s128,s129,s130,s131,s132,s133,s134,s135,s136,s137,s138,s139,s140,s141,s142,s143,c144],defers:=[] } u):=hX
 have HE:Hid (FilE lo xs Y F R a len cap la ll lc aa ac):=hE
 have hxl:xs.length=len:=hE.ln.len.1
 have HXL:Hid (xs.length=len):=hxl
 have hK1:=hK k (by omega)
 have HKn:Hid (LnK (Pl.gl xs k)):=hK1
 obtain⟨a6,y6,hv6⟩:=own_slice hF.od
 subst hv6
 have HF:Hid (FilS w0 Y g vc (.slice a6 (Pl.dataL xs k).length y6) (Pl.codeL ewI xs k) (Pl.dataL xs k)):=hF
 have HFB:Hid ((Pl.ins xs k).any (fun y=>!y.ok || (Pl.isJ (Pl.gl xs k).k && Pl.inD xs (Pl.gl xs k).s))=Pl.badJ xs k):=Pl.fill_bad xs k hK1.i
 have HIN:Hid (Pl.ins xs k=Pl.insA (Pl.gl xs k) (Pl.cu xs k).at (Pl.adr xs (Pl.gl xs k).s)):=rfl
 have hadr:=adr_bd hK (by omega) (Pl.gl xs k).s
 have hatb:=at_bd hK (by omega) (k:=k) (by omega)
 have HCS:Hid (Pl.codeL ewI xs (k+1)=Pl.codeL ewI xs k ++ (Pl.ins xs k).map ewI):=Pl.codeL_succ _ _ _
 have HDS:Hid (Pl.dataL xs (k+1)=Pl.dataL xs k ++ Pl.dat xs k):=Pl.dataL_succ _ _
 have hlen2:=Pl.laid_len ewI xs (fun i hi=>(hK i hi).b) hS k (by omega)
 have hcb:=Pl.cu_bd xs (fun i hi=>(hK i hi).b) k (by omega)
 have hcl:(Pl.codeL ewI xs k).length<=100000:=by omega
 have hdl:(Pl.dataL xs k).length<=1310720000:=by omega
 have HB0:Hid (((Pl.dataL xs k).length:Int)=(Pl.cu xs k).b):=hlen2.2
 have hg0:=hF.hg
 have hgY:g<Y.heap.size:=hF.lt
 have hsn:¬ (Pl.gl xs k).s=⟨#[]⟩:=fun c=>hK1.sym (by omega) (by rw[c];rfl)
 have hlb:Pl.lb xs (Pl.gl xs k).s≠none:=fun c=>by
  have:=hL
  unfold Pl.lost at this
  rw[c]at this
  simp[hsn]at this
 obtain⟨p,bl,ol,hla,hp,hwh,ca,cd,hbl⟩:=hE.sym hlb
 subst hla
 have HW:Hid (∀ u,Below Y.heap.size Y u->Calls Tryz.prog 26 #[.slice (some ⟨bl,ol,none⟩) ll lc,.string (Pl.gl xs k).s] u fun e w'=>e=.returned (.int .i64 (p:Nat))/\w'=u):=fun u hu=>by rw[<- hwh];exact l4Where_is _ _ _ xs _ _ u (HE.out.keep hu).lb
 have HCA:Hid (∀ u,Below Y.heap.size Y u->u.cell? ⟨bl,ol+p*4+2,none⟩=some (.int .i64 (Pl.adr xs (Pl.gl xs k).s))/\u.cell? ⟨bl,ol+p*4+3,none⟩=some (.bool (!Pl.inD xs (Pl.gl xs k).s))):=fun u hu=>⟨below_cell hu ca,below_cell hu cd⟩
 have hpl:(p:Int)<(ll:Int):=by omega
 have hll:(ll:Int)<=20000:=by
  have h1:=hE.lb.1
  have h2:(Pl.lbs xs xs.length).length<=xs.length:=by unfold Pl.lbs;refine Nat.le_trans (List.length_filter_le _ _) (by simp)
  omega
 have se:(Pl.gl xs k).s.toList.isEmpty=false:=by rw[<- Pl.str_nil];simpa using hsn
 clear hwh
 have HDD:Hid (Pl.dataL xs (k+1)=Pl.dataL xs k):=by show _=_;rw[HDS.out,Pl.dat_text xs k (by omega),List.append_nil]
 have HZ:Hid (Pl.dsz (Pl.gl xs k) 0=0):=Pl.dsz_text _ _ (by omega)
 have HIS:Hid (∀ u,InsSaid (Pl.gl xs k) (Pl.cu xs k).at (Pl.adr xs (Pl.gl xs k).s) u):=fun u=>l4Insts_is _ _ _ u hK1.b.k (by omega) (by omega) hK1.i.w4 (fun q=>by have:=hK1.far (.inl q);omega)
 have hat:=hE.ats hk
 obtain⟨ba,oa,haa,hba,cat⟩:=hat
 subst haa
 obtain⟨b0,off,haL,hlo,hb1,hsz,z0,z1,z2,z3,z4,z5,z6,z7⟩:=hE.ln.at k hk
 subst haL
 have hi:(k:Int)<(len:Int):=by omega
 have HLB:Hid (Pl.LnB (Pl.gl xs k)):=hK1.b
 have hf0:=hE.f0
 have hF0:F<Y.heap.size:=block_lt_of_cell hf0
 clear hE hF hN hX hK hS hL hK1 hlen2 hcb hsz
 conv=>arg 2;whnf
 dsimp only
 generalize hx:Pl.gl xs k=x at *
 have HXE:Hid (Pl.gl xs k=x):=hx
 clear hx
 have hkk:x.k=3:=hq
 have HKK:Hid (x.k=3):=hkk
 rw[hkk]at z0
 clear hq hkk
 have c8a:=(HCA.out (Y.alloc (.cells #[.int .i64 3,.int .i64 x.op,.int .i64 x.rd,.int .i64 x.r1,.int .i64 x.r2,.int .i64 x.im,.string x.s,.int .i64 x.n] 51)) (below_alloc _ _)).1
 have c8d:=(HCA.out (Y.alloc (.cells #[.int .i64 3,.int .i64 x.op,.int .i64 x.rd,.int .i64 x.r1,.int .i64 x.r2,.int .i64 x.im,.string x.s,.int .i64 x.n] 51)) (below_alloc _ _)).2
 have hf0':(Y.alloc (.cells #[.int .i64 3,.int .i64 x.op,.int .i64 x.rd,.int .i64 x.r1,.int .i64 x.r2,.int .i64 x.im,.string x.s,.int .i64 x.n] 51)).cell? ⟨F,0,none⟩=some (.slice (some ⟨bl,ol,none⟩) ll lc):=below_cell (below_alloc _ _) hf0
 go_upto_region 12 with (go_at_call 26;refine (HW.out _ (below_alloc _ _)).mono ?_;rintro e u9 ⟨rfl,rfl⟩)
 have hrow:(Y.alloc (.cells #[.int .i64 3,.int .i64 x.op,.int .i64 x.rd,.int .i64 x.r1,.int .i64 x.r2,.int .i64 x.im,.string x.s,.int .i64 x.n] 51)).heap[Y.heap.size]?=some (.cells #[.int .i64 3,.int .i64 x.op,.int .i64 x.rd,.int .i64 x.r1,.int .i64 x.r2,.int .i64 x.im,.string x.s,.int .i64 x.n] 51 (0,0)):=heap_alloc_new Y _
 have HLN:Hid (∀ w1:World,w1.heap[Y.heap.size]?=some (.cells #[.int .i64 3,.int .i64 x.op,.int .i64 x.rd,.int .i64 x.r1,.int .i64 x.r2,.int .i64 x.im,.string x.s,.int .i64 x.n] 51 (0,0))->∀ j,w1.cell? ⟨Y.heap.size,j,none⟩=(#[.int .i64 3,.int .i64 x.op,.int .i64 x.rd,.int .i64 x.r1,.int .i64 x.r2,.int .i64 x.im,.string x.s,.int .i64 x.n]:Array Value)[j]?):=fun w1 hw1 j=>cell_of_row _ _ j _ 51 (0,0) hw1
 have HRW:Hid ((Y.alloc (.cells #[.int .i64 3,.int .i64 x.op,.int .i64 x.rd,.int .i64 x.r1,.int .i64 x.r2,.int .i64 x.im,.string x.s,.int .i64 x.n] 51)).heap[Y.heap.size]?=some (.cells #[.int .i64 3,.int .i64 x.op,.int .i64 x.rd,.int .i64 x.r1,.int .i64 x.r2,.int .i64 x.im,.string x.s,.int .i64 x.n] 51 (0,0))):=hrow
 refine fil12 F Y.heap.size k ba oa len ac x (Pl.cu xs k).at (Pl.adr xs x.s) (Y.alloc (.cells #[.int .i64 3,.int .i64 x.op,.int .i64 x.rd,.int .i64 x.r1,.int .i64 x.r2,.int .i64 x.im,.string x.s,.int .i64 x.n] 51)) (below_cell (below_alloc _ _) HE.out.f1) hk hn (below_cell (below_alloc _ _) cat) (by rw[HKK.out];exact HLN.out _ HRW.out 0) (HLN.out _ HRW.out 1) (HLN.out _ HRW.out 2) (HLN.out _ HRW.out 3) (HLN.out _ HRW.out 4) (HLN.out _ HRW.out 5) (HLN.out _ HRW.out 6) (HLN.out _ HRW.out 7) (HIS.out _) ?_
 intro ai ni ci w1 hI hw1
 have HI:Hid (InsRow (Y.alloc (.cells #[.int .i64 3,.int .i64 x.op,.int .i64 x.rd,.int .i64 x.r1,.int .i64 x.r2,.int .i64 x.im,.string x.s,.int .i64 x.n] 51)).heap.size w1 ai ni (Pl.insA x (Pl.cu xs k).at (Pl.adr xs x.s))):=hI
 have HW1:Hid (Below (Y.alloc (.cells #[.int .i64 3,.int .i64 x.op,.int .i64 x.rd,.int .i64 x.r1,.int .i64 x.r2,.int .i64 x.im,.string x.s,.int .i64 x.n] 51)).heap.size (Y.alloc (.cells #[.int .i64 3,.int .i64 x.op,.int .i64 x.rd,.int .i64 x.r1,.int .i64 x.r2,.int .i64 x.im,.string x.s,.int .i64 x.n] 51)) w1):=hw1
 have HR1:Hid (w1.heap[Y.heap.size]?=some (.cells #[.int .i64 3,.int .i64 x.op,.int .i64 x.rd,.int .i64 x.r1,.int .i64 x.r2,.int .i64 x.im,.string x.s,.int .i64 x.n] 51 (0,0))):=(hw1.block Y.heap.size (by simp)).trans hrow
 have HF1:Hid (FilS w0 w1 g vc (.slice a6 (Pl.dataL xs k).length y6) (Pl.codeL ewI xs k) (Pl.dataL xs k)):=(HF.out.keep (below_alloc _ _)).keep hw1
 have k0:=HLN.out _ HR1.out 0
 simp only[List.getElem?_toArray,List.getElem?_cons_zero]at k0
 clear hI hw1 hrow
 go_upto_block 2 with fail
 refine fil_loop k g R true (!Pl.inD xs x.s) (Pl.insA x (Pl.cu xs k).at (Pl.adr xs x.s)) ai ni ci vc _ (Pl.codeL ewI xs k) (Pl.dataL xs k) w0 w1 HF1.out HI.out ((HE.out.keep (Below.trans (below_alloc Y _) (HW1.out.mono (by simp)))).r) hR (by simp;omega) hcl ?N ?X
 case X=>
  intros
  rename_i hany hrw hbe
  refine HXt.out _ _ _ _ _ _ _ _ _ _ _ _ _ _ _ _ _ _ _ _ _ _ _ _ _ _ _ _ _ _ _ _ _ _ _ _ _ _ _ _ _ _ _ _ _ _ _ _ _ _ _ _ _ _ _ _ _ _ _ _ _ _ _ _ _ _ _ _ _ _ _ _ _ _ _ _ _ _ _ _ _ _ _ _ _ _ _ _ _ _ _ _ _ _ _ _ _ _ _ _ _ _ _ _ _ _ _ _ _ _ _ _ _ _ _ _ _ _ _ _ _ _ _ _ _ _ _ _ _ _ _ _ _ _ ?_ hrw hbe
  rw[<- HFB.out,HIN.out]
  simpa [Pl.isJ,HKK.out] using hany
 case N=>
  intro v5 v14 v15 v16 v71 v72 v73 v74 v75 v76 v77 v78 v79 v80 v81 v82 v83 v84 v85 v86 v87 v88 v89 v90 v91 v92 v93 v94 v95 v96 v97 v98 v99 v100 v101 u vc2 hany hs2 hby
  have HS2:Hid (FilS w0 u g vc2 (.slice a6 (Pl.dataL xs k).length y6) (Pl.codeL ewI xs (k+1)) (Pl.dataL xs k)):=by show FilS _ _ _ _ _ _ _;rw[HCS.out,HIN.out];exact hs2
  have HBJ:Hid (Pl.badJ xs k=false):=by
   show _=_
   rw[<- HFB.out,HIN.out]
   simpa [Pl.isJ,HKK.out] using hany
  have HR2:Hid (u.heap[Y.heap.size]?=some (.cells #[.int .i64 3,.int .i64 x.op,.int .i64 x.rd,.int .i64 x.r1,.int .i64 x.r2,.int .i64 x.im,.string x.s,.int .i64 x.n] 51 (0,0))):=hby.block _ _ (by omega) HR1.out (fun c q=>by injection q with _ q2 _;exact absurd q2 (by decide))
  have l0:=HLN.out _ HR2.out 0;have l6:=HLN.out _ HR2.out 6
  simp only[List.getElem?_toArray,List.getElem?_cons_zero,List.getElem?_cons_succ]at l0 l6
  clear hany hs2 hby k0
  go_upto_region 25 with fail
  refine fil25 g Y.heap.size (Pl.dataL xs k).length _ x 0 a6 y6 (DatA w0 (Pl.dataL xs k)) u HS2.out.c1 (by rw[HKK.out];exact HLN.out _ HR2.out 0) (HLN.out _ HR2.out 1) (HLN.out _ HR2.out 2) (HLN.out _ HR2.out 3) (HLN.out _ HR2.out 4) (HLN.out _ HR2.out 5) (HLN.out _ HR2.out 6) (HLN.out _ HR2.out 7) (fun _ _ _ _ h1 h2=>DatA.old HS2.out h1 h2) (fun u3=>by have h5:=l4Count8_is x 0 HLB.out (by omega) u3;rw[HZ.out]at h5;exact h5) (fun u3 h3=>put_no (HS2.out.keep h3) x.n) ?_
  intro a2 y2 u3 u4 h3 h4
  have HFN:Hid (FilS w0 (u4.setCell ⟨g,1,none⟩ (.slice a2 (Pl.dataL xs k).length y2)) g vc2 (.slice a2 (Pl.dataL xs k).length y2) (Pl.codeL ewI xs (k+1)) (Pl.dataL xs (k+1))):=by show FilS _ _ _ _ _ _ _;rw[HDD.out];exact DatA.fin HS2.out h3 h4
  clear h3 h4
  go_wp2_with fail
  have hfn:=HFN.out
  exact HNt.out _ _ _ _ _ _ _ _ _ _ _ _ _ _ _ _ _ _ _ _ _ _ _ _ _ _ _ _ _ _ _ _ _ _ _ _ _ _ _ _ _ _ _ _ _ _ _ _ _ _ _ _ _ _ _ _ _ _ _ _ _ _ _ _ _ _ _ _ _ _ _ _ _ _ _ _ _ _ _ _ _ _ _ _ _ _ _ _ _ _ _ _ _ _ _ _ _ _ _ _ _ _ _ _ _ _ _ _ _ _ _ _ _ _ _ _ _ _ _ _ _ _ _ _ _ _ _ _ _ _ _ HBJ.out hfn
set_option maxRecDepth 100000 in
theorem fil_5 {lo:Nat} (xs:List Pl.Ln) (F R g k:Nat) (a:Option Addr) (len cap:Nat) (la:Option Addr) (ll lc:Nat) (aa:Option Addr) (ac:Nat) (vc vd:Value) {c1 c2 c5 c8 c9 c10 c11 c12 c13 c14 c15 c16 c17 c18 c19 c20 c21 c22 c23 c24 c25 c26 c27 c28 c29 c30 c31 c32 c33 c34 c35 c36 c37 c38 c39 c40 c41 c42 c43 c44 c45 c46 c47 c48 c49 c50 c51 c52 c53 c54 c55 c56 c57 c58 c59 c60 c61 c62 c63 c64 c65 c66 c67 c68 c69 c70 c71 c72 c73 c74 c75 c76 c77 c78 c79 c80 c81 c82 c83 c84 c85 c86 c87 c88 c89 c90 c91 c92 c93 c94 c95 c96 c97 c98 c99 c100 c101 c102 c103 c104 c105 c106 c107 c108 c109 c110 c111 c112 c113 c114 c115 c116 c117 c118 c119 c120 c121 c122 c123 c124 c125 c126 c127 c128 c129 c130 c131 c132 c133 c134 c135 c136 c137 c138 c139 c140 c141 c142 c143 c144:Value} (w0 Y:World) (hE:FilE lo xs Y F R a len cap la ll lc aa ac) (hF:FilS w0 Y g vc vd (Pl.codeL ewI xs k) (Pl.dataL xs k)) (hK:∀ i,i<xs.length->LnK (Pl.gl xs i)) (hS:∀ i,i<xs.length->Pl.stray xs i=false) (hL:Pl.lost xs k=false) (hk:k<len) (hn:len<=20000) (hR:R<w0.heap.size) (hq:(Pl.gl xs k).k=5) {Q:Exit->Act->World->Prop}
  (hN:∀ (s5 s8 s9 s10 s11 s12 s13 s14 s15 s16 s26 s27 s28 s29 s30 s31 s32 s33 s34 s35 s36 s37 s38 s39 s40 s41 s42 s43 s44 s45 s46 s47 s48 s49 s50 s51 s52 s53 s54 s55 s56 s57 s58 s59 s60 s61 s62 s63 s64 s65 s66 s67 s68 s69 s70 s71 s72 s73 s74 s75 s76 s77 s78 s79 s80 s81 s82 s83 s84 s85 s86 s87 s88 s89 s90 s91 s92 s93 s94 s95 s96 s97 s98 s99 s100 s101 s102 s103 s104 s105 s106 s107 s108 s109 s110 s111 s112 s113 s114 s115 s116 s117 s118 s119 s120 s121 s122 s123 s124 s125 s126 s127 s128 s129 s130 s131 s132 s133 s134 s135 s136 s137 s138 s139 s140 s141 s142 s143:Value) (u:World) (vc' vd':Value),Pl.badJ xs k=false->FilS w0 u g vc' vd' (Pl.codeL ewI xs (k+1)) (Pl.dataL xs (k+1))->Q .normal { tmps:=#[.slice a len cap,c1,c2,.pointer (some ⟨F,0,none⟩),.pointer (some ⟨R,0,none⟩),s5,.pointer (some ⟨g,0,none⟩),.int .i64 (k:Nat),s8,s9,s10,s11,s12,s13,s14,s15,s16,c17,c18,c19,c20,c21,c22,c23,c24,c25,s26,s27,s28,s29,s30,s31,s32,s33,s34,s35,s36,s37,s38,s39,s40,s41,s42,s43,s44,s45,s46,s47,s48,s49,s50,s51,s52,s53,s54,s55,s56,s57,s58,s59,s60,s61,s62,s63,s64,s65,s66,s67,s68,s69,s70,s71,s72,s73,s74,s75,s76,s77,s78,s79,s80,s81,s82,s83,s84,s85,s86,s87,s88,s89,s90,s91,s92,s93,s94,s95,s96,s97,s98,s99,s100,s101,s102,s103,s104,s105,s106,s107,s108,s109,s110,s111,s112,s113,s114,s115,s116,s117,s118,s119,s120,s121,s122,s123,s124,s125,s126,s127,s128,s129,s130,s131,s132,s133,s134,s135,s136,s137,s138,s139,s140,s141,s142,s143,c144],defers:=[] } u)
  (hX:∀ (s8 s9 s10 s11 s12 s13 s14 s15 s16 s26 s27 s28 s29 s30 s31 s32 s33 s34 s35 s36 s37 s38 s39 s40 s41 s42 s43 s44 s45 s46 s47 s48 s49 s50 s51 s52 s53 s54 s55 s56 s57 s58 s59 s60 s61 s62 s63 s64 s65 s66 s67 s68 s69 s70 s71 s72 s73 s74 s75 s76 s77 s78 s79 s80 s81 s82 s83 s84 s85 s86 s87 s88 s89 s90 s91 s92 s93 s94 s95 s96 s97 s98 s99 s100 s101 s102 s103 s104 s105 s106 s107 s108 s109 s110 s111 s112 s113 s114 s115 s116 s117 s118 s119 s120 s121 s122 s123 s124 s125 s126 s127 s128 s129 s130 s131 s132 s133 s134 s135 s136 s137 s138 s139 s140 s141 s142 s143:Value) (u:World) (a9:Option Addr) (n9 y9:Nat) (b9:Option Addr) (m9 z9:Nat),Pl.badJ xs k=true->u.heap[R]?=some (.cells #[.slice a9 n9 y9,.slice b9 m9 z9,.int .i64 0,.int .i64 0] 28 (0,0))->Below R w0 u->Q .ret { tmps:=#[.slice a len cap,c1,c2,.pointer (some ⟨F,0,none⟩),.pointer (some ⟨R,0,none⟩),.int .i64 (k:Nat),.pointer (some ⟨g,0,none⟩),.int .i64 (k:Nat),s8,s9,s10,s11,s12,s13,s14,s15,s16,c17,c18,c19,c20,c21,c22,c23,c24,c25,s26,s27,s28,s29,s30,s31,s32,s33,s34,s35,s36,s37,s38,s39,s40,s41,s42,s43,s44,s45,s46,s47,s48,s49,s50,s51,s52,s53,s54,s55,s56,s57,s58,s59,s60,s61,s62,s63,s64,s65,s66,s67,s68,s69,s70,s71,s72,s73,s74,s75,s76,s77,s78,s79,s80,s81,s82,s83,s84,s85,s86,s87,s88,s89,s90,s91,s92,s93,s94,s95,s96,s97,s98,s99,s100,s101,s102,s103,s104,s105,s106,s107,s108,s109,s110,s111,s112,s113,s114,s115,s116,s117,s118,s119,s120,s121,s122,s123,s124,s125,s126,s127,s128,s129,s130,s131,s132,s133,s134,s135,s136,s137,s138,s139,s140,s141,s142,s143,c144],defers:=[] } u) :
  (filB 1).wp Tryz.prog Q { tmps:=#[.slice a len cap,c1,c2,.pointer (some ⟨F,0,none⟩),.pointer (some ⟨R,0,none⟩),c5,.pointer (some ⟨g,0,none⟩),.int .i64 (k:Nat),c8,c9,c10,c11,c12,c13,c14,c15,c16,c17,c18,c19,c20,c21,c22,c23,c24,c25,c26,c27,c28,c29,c30,c31,c32,c33,c34,c35,c36,c37,c38,c39,c40,c41,c42,c43,c44,c45,c46,c47,c48,c49,c50,c51,c52,c53,c54,c55,c56,c57,c58,c59,c60,c61,c62,c63,c64,c65,c66,c67,c68,c69,c70,c71,c72,c73,c74,c75,c76,c77,c78,c79,c80,c81,c82,c83,c84,c85,c86,c87,c88,c89,c90,c91,c92,c93,c94,c95,c96,c97,c98,c99,c100,c101,c102,c103,c104,c105,c106,c107,c108,c109,c110,c111,c112,c113,c114,c115,c116,c117,c118,c119,c120,c121,c122,c123,c124,c125,c126,c127,c128,c129,c130,c131,c132,c133,c134,c135,c136,c137,c138,c139,c140,c141,c142,c143,c144],defers:=[] } Y:=by
 have HNt:Hid (∀ (s5 s8 s9 s10 s11 s12 s13 s14 s15 s16 s26 s27 s28 s29 s30 s31 s32 s33 s34 s35 s36 s37 s38 s39 s40 s41 s42 s43 s44 s45 s46 s47 s48 s49 s50 s51 s52 s53 s54 s55 s56 s57 s58 s59 s60 s61 s62 s63 s64 s65 s66 s67 s68 s69 s70 s71 s72 s73 s74 s75 s76 s77 s78 s79 s80 s81 s82 s83 s84 s85 s86 s87 s88 s89 s90 s91 s92 s93 s94 s95 s96 s97 s98 s99 s100 s101 s102 s103 s104 s105 s106 s107 s108 s109 s110 s111 s112 s113 s114 s115 s116 s117 s118 s119 s120 s121 s122 s123 s124 s125 s126 s127 s128 s129 s130 s131 s132 s133 s134 s135 s136 s137 s138 s139 s140 s141 s142 s143:Value) (u:World) (vc' vd':Value),Pl.badJ xs k=false->FilS w0 u g vc' vd' (Pl.codeL ewI xs (k+1)) (Pl.dataL xs (k+1))->Q .normal { tmps:=#[.slice a len cap,c1,c2,.pointer (some ⟨F,0,none⟩),.pointer (some ⟨R,0,none⟩),s5,.pointer (some ⟨g,0,none⟩),.int .i64 (k:Nat),s8,s9,s10,s11,s12,s13,s14,s15,s16,c17,c18,c19,c20,c21,c22,c23,c24,c25,s26,s27,s28,s29,s30,s31,s32,s33,s34,s35,s36,s37,s38,s39,s40,s41,s42,s43,s44,s45,s46,s47,s48,s49,s50,s51,s52,s53,s54,s55,s56,s57,s58,s59,s60,s61,s62,s63,s64,s65,s66,s67,s68,s69,s70,s71,s72,s73,s74,s75,s76,s77,s78,s79,s80,s81,s82,s83,s84,s85,s86,s87,s88,s89,s90,s91,s92,s93,s94,s95,s96,s97,s98,s99,s100,s101,s102,s103,s104,s105,s106,s107,s108,s109,s110,s111,s112,s113,s114,s115,s116,s117,s118,s119,s120,s121,s122,s123,s124,s125,s126,s127,s128,s129,s130,s131,s132,s133,s134,s135,s136,s137,s138,s139,s140,s141,s142,s143,c144],defers:=[] } u):=hN
 have HXt:Hid (∀ (s8 s9 s10 s11 s12 s13 s14 s15 s16 s26 s27 s28 s29 s30 s31 s32 s33 s34 s35 s36 s37 s38 s39 s40 s41 s42 s43 s44 s45 s46 s47 s48 s49 s50 s51 s52 s53 s54 s55 s56 s57 s58 s59 s60 s61 s62 s63 s64 s65 s66 s67 s68 s69 s70 s71 s72 s73 s74 s75 s76 s77 s78 s79 s80 s81 s82 s83 s84 s85 s86 s87 s88 s89 s90 s91 s92 s93 s94 s95 s96 s97 s98 s99 s100 s101 s102 s103 s104 s105 s106 s107 s108 s109 s110 s111 s112 s113 s114 s115 s116 s117 s118 s119 s120 s121 s122 s123 s124 s125 s126 s127 s128 s129 s130 s131 s132 s133 s134 s135 s136 s137 s138 s139 s140 s141 s142 s143:Value) (u:World) (a9:Option Addr) (n9 y9:Nat) (b9:Option Addr) (m9 z9:Nat),Pl.badJ xs k=true->u.heap[R]?=some (.cells #[.slice a9 n9 y9,.slice b9 m9 z9,.int .i64 0,.int .i64 0] 28 (0,0))->Below R w0 u->Q .ret { tmps:=#[.slice a len cap,c1,c2,.pointer (some ⟨F,0,none⟩),.pointer (some ⟨R,0,none⟩),.int .i64 (k:Nat),.pointer (some ⟨g,0,none⟩),.int .i64 (k:Nat),s8,s9,s10,s11,s12,s13,s14,s15,s16,c17,c18,c19,c20,c21,c22,c23,c24,c25,s26,s27,s28,s29,s30,s31,s32,s33,s34,s35,s36,s37,s38,s39,s40,s41,s42,s43,s44,s45,s46,s47,s48,s49,s50,s51,s52,s53,s54,s55,s56,s57,s58,s59,s60,s61,s62,s63,s64,s65,s66,s67,s68,s69,s70,s71,s72,s73,s74,s75,s76,s77,s78,s79,s80,s81,s82,s83,s84,s85,s86,s87,s88,s89,s90,s91,s92,s93,s94,s95,s96,s97,s98,s99,s100,s101,s102,s103,s104,s105,s106,s107,s108,s109,s110,s111,s112,s113,s114,s115,s116,s117,s118,s119,s120,s121,s122,s123,s124,s125,s126,s127,s128,s129,s130,s131,s132,s133,s134,s135,s136,s137,s138,s139,s140,s141,s142,s143,c144],defers:=[] } u):=hX
 have HE:Hid (FilE lo xs Y F R a len cap la ll lc aa ac):=hE
 have hxl:xs.length=len:=hE.ln.len.1
 have HXL:Hid (xs.length=len):=hxl
 have hK1:=hK k (by omega)
 have HKn:Hid (LnK (Pl.gl xs k)):=hK1
 obtain⟨a6,y6,hv6⟩:=own_slice hF.od
 subst hv6
 have HF:Hid (FilS w0 Y g vc (.slice a6 (Pl.dataL xs k).length y6) (Pl.codeL ewI xs k) (Pl.dataL xs k)):=hF
 have HFB:Hid ((Pl.ins xs k).any (fun y=>!y.ok || (Pl.isJ (Pl.gl xs k).k && Pl.inD xs (Pl.gl xs k).s))=Pl.badJ xs k):=Pl.fill_bad xs k hK1.i
 have HIN:Hid (Pl.ins xs k=Pl.insA (Pl.gl xs k) (Pl.cu xs k).at (Pl.adr xs (Pl.gl xs k).s)):=rfl
 have hadr:=adr_bd hK (by omega) (Pl.gl xs k).s
 have hatb:=at_bd hK (by omega) (k:=k) (by omega)
 have HCS:Hid (Pl.codeL ewI xs (k+1)=Pl.codeL ewI xs k ++ (Pl.ins xs k).map ewI):=Pl.codeL_succ _ _ _
 have HDS:Hid (Pl.dataL xs (k+1)=Pl.dataL xs k ++ Pl.dat xs k):=Pl.dataL_succ _ _
 have hlen2:=Pl.laid_len ewI xs (fun i hi=>(hK i hi).b) hS k (by omega)
 have hcb:=Pl.cu_bd xs (fun i hi=>(hK i hi).b) k (by omega)
 have hcl:(Pl.codeL ewI xs k).length<=100000:=by omega
 have hdl:(Pl.dataL xs k).length<=1310720000:=by omega
 have HB0:Hid (((Pl.dataL xs k).length:Int)=(Pl.cu xs k).b):=hlen2.2
 have hg0:=hF.hg
 have hgY:g<Y.heap.size:=hF.lt
 have hsn:¬ (Pl.gl xs k).s=⟨#[]⟩:=fun c=>hK1.sym (by omega) (by rw[c];rfl)
 have hlb:Pl.lb xs (Pl.gl xs k).s≠none:=fun c=>by
  have:=hL
  unfold Pl.lost at this
  rw[c]at this
  simp[hsn]at this
 obtain⟨p,bl,ol,hla,hp,hwh,ca,cd,hbl⟩:=hE.sym hlb
 subst hla
 have HW:Hid (∀ u,Below Y.heap.size Y u->Calls Tryz.prog 26 #[.slice (some ⟨bl,ol,none⟩) ll lc,.string (Pl.gl xs k).s] u fun e w'=>e=.returned (.int .i64 (p:Nat))/\w'=u):=fun u hu=>by rw[<- hwh];exact l4Where_is _ _ _ xs _ _ u (HE.out.keep hu).lb
 have HCA:Hid (∀ u,Below Y.heap.size Y u->u.cell? ⟨bl,ol+p*4+2,none⟩=some (.int .i64 (Pl.adr xs (Pl.gl xs k).s))/\u.cell? ⟨bl,ol+p*4+3,none⟩=some (.bool (!Pl.inD xs (Pl.gl xs k).s))):=fun u hu=>⟨below_cell hu ca,below_cell hu cd⟩
 have hpl:(p:Int)<(ll:Int):=by omega
 have hll:(ll:Int)<=20000:=by
  have h1:=hE.lb.1
  have h2:(Pl.lbs xs xs.length).length<=xs.length:=by unfold Pl.lbs;refine Nat.le_trans (List.length_filter_le _ _) (by simp)
  omega
 have se:(Pl.gl xs k).s.toList.isEmpty=false:=by rw[<- Pl.str_nil];simpa using hsn
 clear hwh
 have HDD:Hid (Pl.dataL xs (k+1)=Pl.dataL xs k):=by show _=_;rw[HDS.out,Pl.dat_text xs k (by omega),List.append_nil]
 have HZ:Hid (Pl.dsz (Pl.gl xs k) 0=0):=Pl.dsz_text _ _ (by omega)
 have HIS:Hid (∀ u,InsSaid (Pl.gl xs k) (Pl.cu xs k).at (Pl.adr xs (Pl.gl xs k).s) u):=fun u=>l4Insts_is _ _ _ u hK1.b.k (by omega) (by omega) hK1.i.w4 (fun q=>by have:=hK1.far (.inl q);omega)
 have hat:=hE.ats hk
 obtain⟨ba,oa,haa,hba,cat⟩:=hat
 subst haa
 obtain⟨b0,off,haL,hlo,hb1,hsz,z0,z1,z2,z3,z4,z5,z6,z7⟩:=hE.ln.at k hk
 subst haL
 have hi:(k:Int)<(len:Int):=by omega
 have HLB:Hid (Pl.LnB (Pl.gl xs k)):=hK1.b
 have hf0:=hE.f0
 have hF0:F<Y.heap.size:=block_lt_of_cell hf0
 clear hE hF hN hX hK hS hL hK1 hlen2 hcb hsz
 conv=>arg 2;whnf
 dsimp only
 generalize hx:Pl.gl xs k=x at *
 have HXE:Hid (Pl.gl xs k=x):=hx
 clear hx
 have hkk:x.k=5:=hq
 have HKK:Hid (x.k=5):=hkk
 rw[hkk]at z0
 clear hq hkk
 have c8a:=(HCA.out (Y.alloc (.cells #[.int .i64 5,.int .i64 x.op,.int .i64 x.rd,.int .i64 x.r1,.int .i64 x.r2,.int .i64 x.im,.string x.s,.int .i64 x.n] 51)) (below_alloc _ _)).1
 have c8d:=(HCA.out (Y.alloc (.cells #[.int .i64 5,.int .i64 x.op,.int .i64 x.rd,.int .i64 x.r1,.int .i64 x.r2,.int .i64 x.im,.string x.s,.int .i64 x.n] 51)) (below_alloc _ _)).2
 have hf0':(Y.alloc (.cells #[.int .i64 5,.int .i64 x.op,.int .i64 x.rd,.int .i64 x.r1,.int .i64 x.r2,.int .i64 x.im,.string x.s,.int .i64 x.n] 51)).cell? ⟨F,0,none⟩=some (.slice (some ⟨bl,ol,none⟩) ll lc):=below_cell (below_alloc _ _) hf0
 go_upto_region 12 with (go_at_call 26;refine (HW.out _ (below_alloc _ _)).mono ?_;rintro e u9 ⟨rfl,rfl⟩)
 have hrow:(Y.alloc (.cells #[.int .i64 5,.int .i64 x.op,.int .i64 x.rd,.int .i64 x.r1,.int .i64 x.r2,.int .i64 x.im,.string x.s,.int .i64 x.n] 51)).heap[Y.heap.size]?=some (.cells #[.int .i64 5,.int .i64 x.op,.int .i64 x.rd,.int .i64 x.r1,.int .i64 x.r2,.int .i64 x.im,.string x.s,.int .i64 x.n] 51 (0,0)):=heap_alloc_new Y _
 have HLN:Hid (∀ w1:World,w1.heap[Y.heap.size]?=some (.cells #[.int .i64 5,.int .i64 x.op,.int .i64 x.rd,.int .i64 x.r1,.int .i64 x.r2,.int .i64 x.im,.string x.s,.int .i64 x.n] 51 (0,0))->∀ j,w1.cell? ⟨Y.heap.size,j,none⟩=(#[.int .i64 5,.int .i64 x.op,.int .i64 x.rd,.int .i64 x.r1,.int .i64 x.r2,.int .i64 x.im,.string x.s,.int .i64 x.n]:Array Value)[j]?):=fun w1 hw1 j=>cell_of_row _ _ j _ 51 (0,0) hw1
 have HRW:Hid ((Y.alloc (.cells #[.int .i64 5,.int .i64 x.op,.int .i64 x.rd,.int .i64 x.r1,.int .i64 x.r2,.int .i64 x.im,.string x.s,.int .i64 x.n] 51)).heap[Y.heap.size]?=some (.cells #[.int .i64 5,.int .i64 x.op,.int .i64 x.rd,.int .i64 x.r1,.int .i64 x.r2,.int .i64 x.im,.string x.s,.int .i64 x.n] 51 (0,0))):=hrow
 refine fil12 F Y.heap.size k ba oa len ac x (Pl.cu xs k).at (Pl.adr xs x.s) (Y.alloc (.cells #[.int .i64 5,.int .i64 x.op,.int .i64 x.rd,.int .i64 x.r1,.int .i64 x.r2,.int .i64 x.im,.string x.s,.int .i64 x.n] 51)) (below_cell (below_alloc _ _) HE.out.f1) hk hn (below_cell (below_alloc _ _) cat) (by rw[HKK.out];exact HLN.out _ HRW.out 0) (HLN.out _ HRW.out 1) (HLN.out _ HRW.out 2) (HLN.out _ HRW.out 3) (HLN.out _ HRW.out 4) (HLN.out _ HRW.out 5) (HLN.out _ HRW.out 6) (HLN.out _ HRW.out 7) (HIS.out _) ?_
 intro ai ni ci w1 hI hw1
 have HI:Hid (InsRow (Y.alloc (.cells #[.int .i64 5,.int .i64 x.op,.int .i64 x.rd,.int .i64 x.r1,.int .i64 x.r2,.int .i64 x.im,.string x.s,.int .i64 x.n] 51)).heap.size w1 ai ni (Pl.insA x (Pl.cu xs k).at (Pl.adr xs x.s))):=hI
 have HW1:Hid (Below (Y.alloc (.cells #[.int .i64 5,.int .i64 x.op,.int .i64 x.rd,.int .i64 x.r1,.int .i64 x.r2,.int .i64 x.im,.string x.s,.int .i64 x.n] 51)).heap.size (Y.alloc (.cells #[.int .i64 5,.int .i64 x.op,.int .i64 x.rd,.int .i64 x.r1,.int .i64 x.r2,.int .i64 x.im,.string x.s,.int .i64 x.n] 51)) w1):=hw1
 have HR1:Hid (w1.heap[Y.heap.size]?=some (.cells #[.int .i64 5,.int .i64 x.op,.int .i64 x.rd,.int .i64 x.r1,.int .i64 x.r2,.int .i64 x.im,.string x.s,.int .i64 x.n] 51 (0,0))):=(hw1.block Y.heap.size (by simp)).trans hrow
 have HF1:Hid (FilS w0 w1 g vc (.slice a6 (Pl.dataL xs k).length y6) (Pl.codeL ewI xs k) (Pl.dataL xs k)):=(HF.out.keep (below_alloc _ _)).keep hw1
 have k0:=HLN.out _ HR1.out 0
 simp only[List.getElem?_toArray,List.getElem?_cons_zero]at k0
 clear hI hw1 hrow
 go_upto_block 2 with fail
 refine fil_loop k g R false (!Pl.inD xs x.s) (Pl.insA x (Pl.cu xs k).at (Pl.adr xs x.s)) ai ni ci vc _ (Pl.codeL ewI xs k) (Pl.dataL xs k) w0 w1 HF1.out HI.out ((HE.out.keep (Below.trans (below_alloc Y _) (HW1.out.mono (by simp)))).r) hR (by simp;omega) hcl ?N ?X
 case X=>
  intros
  rename_i hany hrw hbe
  refine HXt.out _ _ _ _ _ _ _ _ _ _ _ _ _ _ _ _ _ _ _ _ _ _ _ _ _ _ _ _ _ _ _ _ _ _ _ _ _ _ _ _ _ _ _ _ _ _ _ _ _ _ _ _ _ _ _ _ _ _ _ _ _ _ _ _ _ _ _ _ _ _ _ _ _ _ _ _ _ _ _ _ _ _ _ _ _ _ _ _ _ _ _ _ _ _ _ _ _ _ _ _ _ _ _ _ _ _ _ _ _ _ _ _ _ _ _ _ _ _ _ _ _ _ _ _ _ _ _ _ _ _ _ _ _ _ ?_ hrw hbe
  rw[<- HFB.out,HIN.out]
  simpa [Pl.isJ,HKK.out] using hany
 case N=>
  intro v5 v14 v15 v16 v71 v72 v73 v74 v75 v76 v77 v78 v79 v80 v81 v82 v83 v84 v85 v86 v87 v88 v89 v90 v91 v92 v93 v94 v95 v96 v97 v98 v99 v100 v101 u vc2 hany hs2 hby
  have HS2:Hid (FilS w0 u g vc2 (.slice a6 (Pl.dataL xs k).length y6) (Pl.codeL ewI xs (k+1)) (Pl.dataL xs k)):=by show FilS _ _ _ _ _ _ _;rw[HCS.out,HIN.out];exact hs2
  have HBJ:Hid (Pl.badJ xs k=false):=by
   show _=_
   rw[<- HFB.out,HIN.out]
   simpa [Pl.isJ,HKK.out] using hany
  have HR2:Hid (u.heap[Y.heap.size]?=some (.cells #[.int .i64 5,.int .i64 x.op,.int .i64 x.rd,.int .i64 x.r1,.int .i64 x.r2,.int .i64 x.im,.string x.s,.int .i64 x.n] 51 (0,0))):=hby.block _ _ (by omega) HR1.out (fun c q=>by injection q with _ q2 _;exact absurd q2 (by decide))
  have l0:=HLN.out _ HR2.out 0;have l6:=HLN.out _ HR2.out 6
  simp only[List.getElem?_toArray,List.getElem?_cons_zero,List.getElem?_cons_succ]at l0 l6
  clear hany hs2 hby k0
  go_upto_region 25 with fail
  refine fil25 g Y.heap.size (Pl.dataL xs k).length _ x 0 a6 y6 (DatA w0 (Pl.dataL xs k)) u HS2.out.c1 (by rw[HKK.out];exact HLN.out _ HR2.out 0) (HLN.out _ HR2.out 1) (HLN.out _ HR2.out 2) (HLN.out _ HR2.out 3) (HLN.out _ HR2.out 4) (HLN.out _ HR2.out 5) (HLN.out _ HR2.out 6) (HLN.out _ HR2.out 7) (fun _ _ _ _ h1 h2=>DatA.old HS2.out h1 h2) (fun u3=>by have h5:=l4Count8_is x 0 HLB.out (by omega) u3;rw[HZ.out]at h5;exact h5) (fun u3 h3=>put_no (HS2.out.keep h3) x.n) ?_
  intro a2 y2 u3 u4 h3 h4
  have HFN:Hid (FilS w0 (u4.setCell ⟨g,1,none⟩ (.slice a2 (Pl.dataL xs k).length y2)) g vc2 (.slice a2 (Pl.dataL xs k).length y2) (Pl.codeL ewI xs (k+1)) (Pl.dataL xs (k+1))):=by show FilS _ _ _ _ _ _ _;rw[HDD.out];exact DatA.fin HS2.out h3 h4
  clear h3 h4
  go_wp2_with fail
  have hfn:=HFN.out
  exact HNt.out _ _ _ _ _ _ _ _ _ _ _ _ _ _ _ _ _ _ _ _ _ _ _ _ _ _ _ _ _ _ _ _ _ _ _ _ _ _ _ _ _ _ _ _ _ _ _ _ _ _ _ _ _ _ _ _ _ _ _ _ _ _ _ _ _ _ _ _ _ _ _ _ _ _ _ _ _ _ _ _ _ _ _ _ _ _ _ _ _ _ _ _ _ _ _ _ _ _ _ _ _ _ _ _ _ _ _ _ _ _ _ _ _ _ _ _ _ _ _ _ _ _ _ _ _ _ _ _ _ _ _ HBJ.out hfn
set_option maxRecDepth 100000 in
theorem fil_7 {lo:Nat} (xs:List Pl.Ln) (F R g k:Nat) (a:Option Addr) (len cap:Nat) (la:Option Addr) (ll lc:Nat) (aa:Option Addr) (ac:Nat) (vc vd:Value) {c1 c2 c5 c8 c9 c10 c11 c12 c13 c14 c15 c16 c17 c18 c19 c20 c21 c22 c23 c24 c25 c26 c27 c28 c29 c30 c31 c32 c33 c34 c35 c36 c37 c38 c39 c40 c41 c42 c43 c44 c45 c46 c47 c48 c49 c50 c51 c52 c53 c54 c55 c56 c57 c58 c59 c60 c61 c62 c63 c64 c65 c66 c67 c68 c69 c70 c71 c72 c73 c74 c75 c76 c77 c78 c79 c80 c81 c82 c83 c84 c85 c86 c87 c88 c89 c90 c91 c92 c93 c94 c95 c96 c97 c98 c99 c100 c101 c102 c103 c104 c105 c106 c107 c108 c109 c110 c111 c112 c113 c114 c115 c116 c117 c118 c119 c120 c121 c122 c123 c124 c125 c126 c127 c128 c129 c130 c131 c132 c133 c134 c135 c136 c137 c138 c139 c140 c141 c142 c143 c144:Value} (w0 Y:World) (hE:FilE lo xs Y F R a len cap la ll lc aa ac) (hF:FilS w0 Y g vc vd (Pl.codeL ewI xs k) (Pl.dataL xs k)) (hK:∀ i,i<xs.length->LnK (Pl.gl xs i)) (hS:∀ i,i<xs.length->Pl.stray xs i=false) (hL:Pl.lost xs k=false) (hk:k<len) (hn:len<=20000) (hR:R<w0.heap.size) (hq:(Pl.gl xs k).k=7) {Q:Exit->Act->World->Prop}
  (hN:∀ (s5 s8 s9 s10 s11 s12 s13 s14 s15 s16 s26 s27 s28 s29 s30 s31 s32 s33 s34 s35 s36 s37 s38 s39 s40 s41 s42 s43 s44 s45 s46 s47 s48 s49 s50 s51 s52 s53 s54 s55 s56 s57 s58 s59 s60 s61 s62 s63 s64 s65 s66 s67 s68 s69 s70 s71 s72 s73 s74 s75 s76 s77 s78 s79 s80 s81 s82 s83 s84 s85 s86 s87 s88 s89 s90 s91 s92 s93 s94 s95 s96 s97 s98 s99 s100 s101 s102 s103 s104 s105 s106 s107 s108 s109 s110 s111 s112 s113 s114 s115 s116 s117 s118 s119 s120 s121 s122 s123 s124 s125 s126 s127 s128 s129 s130 s131 s132 s133 s134 s135 s136 s137 s138 s139 s140 s141 s142 s143:Value) (u:World) (vc' vd':Value),Pl.badJ xs k=false->FilS w0 u g vc' vd' (Pl.codeL ewI xs (k+1)) (Pl.dataL xs (k+1))->Q .normal { tmps:=#[.slice a len cap,c1,c2,.pointer (some ⟨F,0,none⟩),.pointer (some ⟨R,0,none⟩),s5,.pointer (some ⟨g,0,none⟩),.int .i64 (k:Nat),s8,s9,s10,s11,s12,s13,s14,s15,s16,c17,c18,c19,c20,c21,c22,c23,c24,c25,s26,s27,s28,s29,s30,s31,s32,s33,s34,s35,s36,s37,s38,s39,s40,s41,s42,s43,s44,s45,s46,s47,s48,s49,s50,s51,s52,s53,s54,s55,s56,s57,s58,s59,s60,s61,s62,s63,s64,s65,s66,s67,s68,s69,s70,s71,s72,s73,s74,s75,s76,s77,s78,s79,s80,s81,s82,s83,s84,s85,s86,s87,s88,s89,s90,s91,s92,s93,s94,s95,s96,s97,s98,s99,s100,s101,s102,s103,s104,s105,s106,s107,s108,s109,s110,s111,s112,s113,s114,s115,s116,s117,s118,s119,s120,s121,s122,s123,s124,s125,s126,s127,s128,s129,s130,s131,s132,s133,s134,s135,s136,s137,s138,s139,s140,s141,s142,s143,c144],defers:=[] } u)
  (hX:∀ (s8 s9 s10 s11 s12 s13 s14 s15 s16 s26 s27 s28 s29 s30 s31 s32 s33 s34 s35 s36 s37 s38 s39 s40 s41 s42 s43 s44 s45 s46 s47 s48 s49 s50 s51 s52 s53 s54 s55 s56 s57 s58 s59 s60 s61 s62 s63 s64 s65 s66 s67 s68 s69 s70 s71 s72 s73 s74 s75 s76 s77 s78 s79 s80 s81 s82 s83 s84 s85 s86 s87 s88 s89 s90 s91 s92 s93 s94 s95 s96 s97 s98 s99 s100 s101 s102 s103 s104 s105 s106 s107 s108 s109 s110 s111 s112 s113 s114 s115 s116 s117 s118 s119 s120 s121 s122 s123 s124 s125 s126 s127 s128 s129 s130 s131 s132 s133 s134 s135 s136 s137 s138 s139 s140 s141 s142 s143:Value) (u:World) (a9:Option Addr) (n9 y9:Nat) (b9:Option Addr) (m9 z9:Nat),Pl.badJ xs k=true->u.heap[R]?=some (.cells #[.slice a9 n9 y9,.slice b9 m9 z9,.int .i64 0,.int .i64 0] 28 (0,0))->Below R w0 u->Q .ret { tmps:=#[.slice a len cap,c1,c2,.pointer (some ⟨F,0,none⟩),.pointer (some ⟨R,0,none⟩),.int .i64 (k:Nat),.pointer (some ⟨g,0,none⟩),.int .i64 (k:Nat),s8,s9,s10,s11,s12,s13,s14,s15,s16,c17,c18,c19,c20,c21,c22,c23,c24,c25,s26,s27,s28,s29,s30,s31,s32,s33,s34,s35,s36,s37,s38,s39,s40,s41,s42,s43,s44,s45,s46,s47,s48,s49,s50,s51,s52,s53,s54,s55,s56,s57,s58,s59,s60,s61,s62,s63,s64,s65,s66,s67,s68,s69,s70,s71,s72,s73,s74,s75,s76,s77,s78,s79,s80,s81,s82,s83,s84,s85,s86,s87,s88,s89,s90,s91,s92,s93,s94,s95,s96,s97,s98,s99,s100,s101,s102,s103,s104,s105,s106,s107,s108,s109,s110,s111,s112,s113,s114,s115,s116,s117,s118,s119,s120,s121,s122,s123,s124,s125,s126,s127,s128,s129,s130,s131,s132,s133,s134,s135,s136,s137,s138,s139,s140,s141,s142,s143,c144],defers:=[] } u) :
  (filB 1).wp Tryz.prog Q { tmps:=#[.slice a len cap,c1,c2,.pointer (some ⟨F,0,none⟩),.pointer (some ⟨R,0,none⟩),c5,.pointer (some ⟨g,0,none⟩),.int .i64 (k:Nat),c8,c9,c10,c11,c12,c13,c14,c15,c16,c17,c18,c19,c20,c21,c22,c23,c24,c25,c26,c27,c28,c29,c30,c31,c32,c33,c34,c35,c36,c37,c38,c39,c40,c41,c42,c43,c44,c45,c46,c47,c48,c49,c50,c51,c52,c53,c54,c55,c56,c57,c58,c59,c60,c61,c62,c63,c64,c65,c66,c67,c68,c69,c70,c71,c72,c73,c74,c75,c76,c77,c78,c79,c80,c81,c82,c83,c84,c85,c86,c87,c88,c89,c90,c91,c92,c93,c94,c95,c96,c97,c98,c99,c100,c101,c102,c103,c104,c105,c106,c107,c108,c109,c110,c111,c112,c113,c114,c115,c116,c117,c118,c119,c120,c121,c122,c123,c124,c125,c126,c127,c128,c129,c130,c131,c132,c133,c134,c135,c136,c137,c138,c139,c140,c141,c142,c143,c144],defers:=[] } Y:=by
 have HNt:Hid (∀ (s5 s8 s9 s10 s11 s12 s13 s14 s15 s16 s26 s27 s28 s29 s30 s31 s32 s33 s34 s35 s36 s37 s38 s39 s40 s41 s42 s43 s44 s45 s46 s47 s48 s49 s50 s51 s52 s53 s54 s55 s56 s57 s58 s59 s60 s61 s62 s63 s64 s65 s66 s67 s68 s69 s70 s71 s72 s73 s74 s75 s76 s77 s78 s79 s80 s81 s82 s83 s84 s85 s86 s87 s88 s89 s90 s91 s92 s93 s94 s95 s96 s97 s98 s99 s100 s101 s102 s103 s104 s105 s106 s107 s108 s109 s110 s111 s112 s113 s114 s115 s116 s117 s118 s119 s120 s121 s122 s123 s124 s125 s126 s127 s128 s129 s130 s131 s132 s133 s134 s135 s136 s137 s138 s139 s140 s141 s142 s143:Value) (u:World) (vc' vd':Value),Pl.badJ xs k=false->FilS w0 u g vc' vd' (Pl.codeL ewI xs (k+1)) (Pl.dataL xs (k+1))->Q .normal { tmps:=#[.slice a len cap,c1,c2,.pointer (some ⟨F,0,none⟩),.pointer (some ⟨R,0,none⟩),s5,.pointer (some ⟨g,0,none⟩),.int .i64 (k:Nat),s8,s9,s10,s11,s12,s13,s14,s15,s16,c17,c18,c19,c20,c21,c22,c23,c24,c25,s26,s27,s28,s29,s30,s31,s32,s33,s34,s35,s36,s37,s38,s39,s40,s41,s42,s43,s44,s45,s46,s47,s48,s49,s50,s51,s52,s53,s54,s55,s56,s57,s58,s59,s60,s61,s62,s63,s64,s65,s66,s67,s68,s69,s70,s71,s72,s73,s74,s75,s76,s77,s78,s79,s80,s81,s82,s83,s84,s85,s86,s87,s88,s89,s90,s91,s92,s93,s94,s95,s96,s97,s98,s99,s100,s101,s102,s103,s104,s105,s106,s107,s108,s109,s110,s111,s112,s113,s114,s115,s116,s117,s118,s119,s120,s121,s122,s123,s124,s125,s126,s127,s128,s129,s130,s131,s132,s133,s134,s135,s136,s137,s138,s139,s140,s141,s142,s143,c144],defers:=[] } u):=hN
 have HXt:Hid (∀ (s8 s9 s10 s11 s12 s13 s14 s15 s16 s26 s27 s28 s29 s30 s31 s32 s33 s34 s35 s36 s37 s38 s39 s40 s41 s42 s43 s44 s45 s46 s47 s48 s49 s50 s51 s52 s53 s54 s55 s56 s57 s58 s59 s60 s61 s62 s63 s64 s65 s66 s67 s68 s69 s70 s71 s72 s73 s74 s75 s76 s77 s78 s79 s80 s81 s82 s83 s84 s85 s86 s87 s88 s89 s90 s91 s92 s93 s94 s95 s96 s97 s98 s99 s100 s101 s102 s103 s104 s105 s106 s107 s108 s109 s110 s111 s112 s113 s114 s115 s116 s117 s118 s119 s120 s121 s122 s123 s124 s125 s126 s127 s128 s129 s130 s131 s132 s133 s134 s135 s136 s137 s138 s139 s140 s141 s142 s143:Value) (u:World) (a9:Option Addr) (n9 y9:Nat) (b9:Option Addr) (m9 z9:Nat),Pl.badJ xs k=true->u.heap[R]?=some (.cells #[.slice a9 n9 y9,.slice b9 m9 z9,.int .i64 0,.int .i64 0] 28 (0,0))->Below R w0 u->Q .ret { tmps:=#[.slice a len cap,c1,c2,.pointer (some ⟨F,0,none⟩),.pointer (some ⟨R,0,none⟩),.int .i64 (k:Nat),.pointer (some ⟨g,0,none⟩),.int .i64 (k:Nat),s8,s9,s10,s11,s12,s13,s14,s15,s16,c17,c18,c19,c20,c21,c22,c23,c24,c25,s26,s27,s28,s29,s30,s31,s32,s33,s34,s35,s36,s37,s38,s39,s40,s41,s42,s43,s44,s45,s46,s47,s48,s49,s50,s51,s52,s53,s54,s55,s56,s57,s58,s59,s60,s61,s62,s63,s64,s65,s66,s67,s68,s69,s70,s71,s72,s73,s74,s75,s76,s77,s78,s79,s80,s81,s82,s83,s84,s85,s86,s87,s88,s89,s90,s91,s92,s93,s94,s95,s96,s97,s98,s99,s100,s101,s102,s103,s104,s105,s106,s107,s108,s109,s110,s111,s112,s113,s114,s115,s116,s117,s118,s119,s120,s121,s122,s123,s124,s125,s126,s127,s128,s129,s130,s131,s132,s133,s134,s135,s136,s137,s138,s139,s140,s141,s142,s143,c144],defers:=[] } u):=hX
 have HE:Hid (FilE lo xs Y F R a len cap la ll lc aa ac):=hE
 have hxl:xs.length=len:=hE.ln.len.1
 have HXL:Hid (xs.length=len):=hxl
 have hK1:=hK k (by omega)
 have HKn:Hid (LnK (Pl.gl xs k)):=hK1
 obtain⟨a6,y6,hv6⟩:=own_slice hF.od
 subst hv6
 have HF:Hid (FilS w0 Y g vc (.slice a6 (Pl.dataL xs k).length y6) (Pl.codeL ewI xs k) (Pl.dataL xs k)):=hF
 have HFB:Hid ((Pl.ins xs k).any (fun y=>!y.ok || (Pl.isJ (Pl.gl xs k).k && Pl.inD xs (Pl.gl xs k).s))=Pl.badJ xs k):=Pl.fill_bad xs k hK1.i
 have HIN:Hid (Pl.ins xs k=Pl.insA (Pl.gl xs k) (Pl.cu xs k).at (Pl.adr xs (Pl.gl xs k).s)):=rfl
 have hadr:=adr_bd hK (by omega) (Pl.gl xs k).s
 have hatb:=at_bd hK (by omega) (k:=k) (by omega)
 have HCS:Hid (Pl.codeL ewI xs (k+1)=Pl.codeL ewI xs k ++ (Pl.ins xs k).map ewI):=Pl.codeL_succ _ _ _
 have HDS:Hid (Pl.dataL xs (k+1)=Pl.dataL xs k ++ Pl.dat xs k):=Pl.dataL_succ _ _
 have hlen2:=Pl.laid_len ewI xs (fun i hi=>(hK i hi).b) hS k (by omega)
 have hcb:=Pl.cu_bd xs (fun i hi=>(hK i hi).b) k (by omega)
 have hcl:(Pl.codeL ewI xs k).length<=100000:=by omega
 have hdl:(Pl.dataL xs k).length<=1310720000:=by omega
 have HB0:Hid (((Pl.dataL xs k).length:Int)=(Pl.cu xs k).b):=hlen2.2
 have hg0:=hF.hg
 have hgY:g<Y.heap.size:=hF.lt
 have hsn:¬ (Pl.gl xs k).s=⟨#[]⟩:=fun c=>hK1.sym (by omega) (by rw[c];rfl)
 have hlb:Pl.lb xs (Pl.gl xs k).s≠none:=fun c=>by
  have:=hL
  unfold Pl.lost at this
  rw[c]at this
  simp[hsn]at this
 obtain⟨p,bl,ol,hla,hp,hwh,ca,cd,hbl⟩:=hE.sym hlb
 subst hla
 have HW:Hid (∀ u,Below Y.heap.size Y u->Calls Tryz.prog 26 #[.slice (some ⟨bl,ol,none⟩) ll lc,.string (Pl.gl xs k).s] u fun e w'=>e=.returned (.int .i64 (p:Nat))/\w'=u):=fun u hu=>by rw[<- hwh];exact l4Where_is _ _ _ xs _ _ u (HE.out.keep hu).lb
 have HCA:Hid (∀ u,Below Y.heap.size Y u->u.cell? ⟨bl,ol+p*4+2,none⟩=some (.int .i64 (Pl.adr xs (Pl.gl xs k).s))/\u.cell? ⟨bl,ol+p*4+3,none⟩=some (.bool (!Pl.inD xs (Pl.gl xs k).s))):=fun u hu=>⟨below_cell hu ca,below_cell hu cd⟩
 have hpl:(p:Int)<(ll:Int):=by omega
 have hll:(ll:Int)<=20000:=by
  have h1:=hE.lb.1
  have h2:(Pl.lbs xs xs.length).length<=xs.length:=by unfold Pl.lbs;refine Nat.le_trans (List.length_filter_le _ _) (by simp)
  omega
 have se:(Pl.gl xs k).s.toList.isEmpty=false:=by rw[<- Pl.str_nil];simpa using hsn
 clear hwh
 have HDD:Hid (Pl.dataL xs (k+1)=Pl.dataL xs k):=by show _=_;rw[HDS.out,Pl.dat_text xs k (by omega),List.append_nil]
 have HZ:Hid (Pl.dsz (Pl.gl xs k) 0=0):=Pl.dsz_text _ _ (by omega)
 have HIS:Hid (∀ u,InsSaid (Pl.gl xs k) (Pl.cu xs k).at (Pl.adr xs (Pl.gl xs k).s) u):=fun u=>l4Insts_is _ _ _ u hK1.b.k (by omega) (by omega) hK1.i.w4 (fun q=>by have:=hK1.far (.inl q);omega)
 have hat:=hE.ats hk
 obtain⟨ba,oa,haa,hba,cat⟩:=hat
 subst haa
 obtain⟨b0,off,haL,hlo,hb1,hsz,z0,z1,z2,z3,z4,z5,z6,z7⟩:=hE.ln.at k hk
 subst haL
 have hi:(k:Int)<(len:Int):=by omega
 have HLB:Hid (Pl.LnB (Pl.gl xs k)):=hK1.b
 have hf0:=hE.f0
 have hF0:F<Y.heap.size:=block_lt_of_cell hf0
 clear hE hF hN hX hK hS hL hK1 hlen2 hcb hsz
 conv=>arg 2;whnf
 dsimp only
 generalize hx:Pl.gl xs k=x at *
 have HXE:Hid (Pl.gl xs k=x):=hx
 clear hx
 have hkk:x.k=7:=hq
 have HKK:Hid (x.k=7):=hkk
 rw[hkk]at z0
 clear hq hkk
 have c8a:=(HCA.out (Y.alloc (.cells #[.int .i64 7,.int .i64 x.op,.int .i64 x.rd,.int .i64 x.r1,.int .i64 x.r2,.int .i64 x.im,.string x.s,.int .i64 x.n] 51)) (below_alloc _ _)).1
 have c8d:=(HCA.out (Y.alloc (.cells #[.int .i64 7,.int .i64 x.op,.int .i64 x.rd,.int .i64 x.r1,.int .i64 x.r2,.int .i64 x.im,.string x.s,.int .i64 x.n] 51)) (below_alloc _ _)).2
 have hf0':(Y.alloc (.cells #[.int .i64 7,.int .i64 x.op,.int .i64 x.rd,.int .i64 x.r1,.int .i64 x.r2,.int .i64 x.im,.string x.s,.int .i64 x.n] 51)).cell? ⟨F,0,none⟩=some (.slice (some ⟨bl,ol,none⟩) ll lc):=below_cell (below_alloc _ _) hf0
 go_upto_region 12 with (go_at_call 26;refine (HW.out _ (below_alloc _ _)).mono ?_;rintro e u9 ⟨rfl,rfl⟩)
 have hrow:(Y.alloc (.cells #[.int .i64 7,.int .i64 x.op,.int .i64 x.rd,.int .i64 x.r1,.int .i64 x.r2,.int .i64 x.im,.string x.s,.int .i64 x.n] 51)).heap[Y.heap.size]?=some (.cells #[.int .i64 7,.int .i64 x.op,.int .i64 x.rd,.int .i64 x.r1,.int .i64 x.r2,.int .i64 x.im,.string x.s,.int .i64 x.n] 51 (0,0)):=heap_alloc_new Y _
 have HLN:Hid (∀ w1:World,w1.heap[Y.heap.size]?=some (.cells #[.int .i64 7,.int .i64 x.op,.int .i64 x.rd,.int .i64 x.r1,.int .i64 x.r2,.int .i64 x.im,.string x.s,.int .i64 x.n] 51 (0,0))->∀ j,w1.cell? ⟨Y.heap.size,j,none⟩=(#[.int .i64 7,.int .i64 x.op,.int .i64 x.rd,.int .i64 x.r1,.int .i64 x.r2,.int .i64 x.im,.string x.s,.int .i64 x.n]:Array Value)[j]?):=fun w1 hw1 j=>cell_of_row _ _ j _ 51 (0,0) hw1
 have HRW:Hid ((Y.alloc (.cells #[.int .i64 7,.int .i64 x.op,.int .i64 x.rd,.int .i64 x.r1,.int .i64 x.r2,.int .i64 x.im,.string x.s,.int .i64 x.n] 51)).heap[Y.heap.size]?=some (.cells #[.int .i64 7,.int .i64 x.op,.int .i64 x.rd,.int .i64 x.r1,.int .i64 x.r2,.int .i64 x.im,.string x.s,.int .i64 x.n] 51 (0,0))):=hrow
 refine fil12 F Y.heap.size k ba oa len ac x (Pl.cu xs k).at (Pl.adr xs x.s) (Y.alloc (.cells #[.int .i64 7,.int .i64 x.op,.int .i64 x.rd,.int .i64 x.r1,.int .i64 x.r2,.int .i64 x.im,.string x.s,.int .i64 x.n] 51)) (below_cell (below_alloc _ _) HE.out.f1) hk hn (below_cell (below_alloc _ _) cat) (by rw[HKK.out];exact HLN.out _ HRW.out 0) (HLN.out _ HRW.out 1) (HLN.out _ HRW.out 2) (HLN.out _ HRW.out 3) (HLN.out _ HRW.out 4) (HLN.out _ HRW.out 5) (HLN.out _ HRW.out 6) (HLN.out _ HRW.out 7) (HIS.out _) ?_
 intro ai ni ci w1 hI hw1
 have HI:Hid (InsRow (Y.alloc (.cells #[.int .i64 7,.int .i64 x.op,.int .i64 x.rd,.int .i64 x.r1,.int .i64 x.r2,.int .i64 x.im,.string x.s,.int .i64 x.n] 51)).heap.size w1 ai ni (Pl.insA x (Pl.cu xs k).at (Pl.adr xs x.s))):=hI
 have HW1:Hid (Below (Y.alloc (.cells #[.int .i64 7,.int .i64 x.op,.int .i64 x.rd,.int .i64 x.r1,.int .i64 x.r2,.int .i64 x.im,.string x.s,.int .i64 x.n] 51)).heap.size (Y.alloc (.cells #[.int .i64 7,.int .i64 x.op,.int .i64 x.rd,.int .i64 x.r1,.int .i64 x.r2,.int .i64 x.im,.string x.s,.int .i64 x.n] 51)) w1):=hw1
 have HR1:Hid (w1.heap[Y.heap.size]?=some (.cells #[.int .i64 7,.int .i64 x.op,.int .i64 x.rd,.int .i64 x.r1,.int .i64 x.r2,.int .i64 x.im,.string x.s,.int .i64 x.n] 51 (0,0))):=(hw1.block Y.heap.size (by simp)).trans hrow
 have HF1:Hid (FilS w0 w1 g vc (.slice a6 (Pl.dataL xs k).length y6) (Pl.codeL ewI xs k) (Pl.dataL xs k)):=(HF.out.keep (below_alloc _ _)).keep hw1
 have k0:=HLN.out _ HR1.out 0
 simp only[List.getElem?_toArray,List.getElem?_cons_zero]at k0
 clear hI hw1 hrow
 go_upto_block 2 with fail
 refine fil_loop k g R true (!Pl.inD xs x.s) (Pl.insA x (Pl.cu xs k).at (Pl.adr xs x.s)) ai ni ci vc _ (Pl.codeL ewI xs k) (Pl.dataL xs k) w0 w1 HF1.out HI.out ((HE.out.keep (Below.trans (below_alloc Y _) (HW1.out.mono (by simp)))).r) hR (by simp;omega) hcl ?N ?X
 case X=>
  intros
  rename_i hany hrw hbe
  refine HXt.out _ _ _ _ _ _ _ _ _ _ _ _ _ _ _ _ _ _ _ _ _ _ _ _ _ _ _ _ _ _ _ _ _ _ _ _ _ _ _ _ _ _ _ _ _ _ _ _ _ _ _ _ _ _ _ _ _ _ _ _ _ _ _ _ _ _ _ _ _ _ _ _ _ _ _ _ _ _ _ _ _ _ _ _ _ _ _ _ _ _ _ _ _ _ _ _ _ _ _ _ _ _ _ _ _ _ _ _ _ _ _ _ _ _ _ _ _ _ _ _ _ _ _ _ _ _ _ _ _ _ _ _ _ _ ?_ hrw hbe
  rw[<- HFB.out,HIN.out]
  simpa [Pl.isJ,HKK.out] using hany
 case N=>
  intro v5 v14 v15 v16 v71 v72 v73 v74 v75 v76 v77 v78 v79 v80 v81 v82 v83 v84 v85 v86 v87 v88 v89 v90 v91 v92 v93 v94 v95 v96 v97 v98 v99 v100 v101 u vc2 hany hs2 hby
  have HS2:Hid (FilS w0 u g vc2 (.slice a6 (Pl.dataL xs k).length y6) (Pl.codeL ewI xs (k+1)) (Pl.dataL xs k)):=by show FilS _ _ _ _ _ _ _;rw[HCS.out,HIN.out];exact hs2
  have HBJ:Hid (Pl.badJ xs k=false):=by
   show _=_
   rw[<- HFB.out,HIN.out]
   simpa [Pl.isJ,HKK.out] using hany
  have HR2:Hid (u.heap[Y.heap.size]?=some (.cells #[.int .i64 7,.int .i64 x.op,.int .i64 x.rd,.int .i64 x.r1,.int .i64 x.r2,.int .i64 x.im,.string x.s,.int .i64 x.n] 51 (0,0))):=hby.block _ _ (by omega) HR1.out (fun c q=>by injection q with _ q2 _;exact absurd q2 (by decide))
  have l0:=HLN.out _ HR2.out 0;have l6:=HLN.out _ HR2.out 6
  simp only[List.getElem?_toArray,List.getElem?_cons_zero,List.getElem?_cons_succ]at l0 l6
  clear hany hs2 hby k0
  go_upto_region 25 with fail
  refine fil25 g Y.heap.size (Pl.dataL xs k).length _ x 0 a6 y6 (DatA w0 (Pl.dataL xs k)) u HS2.out.c1 (by rw[HKK.out];exact HLN.out _ HR2.out 0) (HLN.out _ HR2.out 1) (HLN.out _ HR2.out 2) (HLN.out _ HR2.out 3) (HLN.out _ HR2.out 4) (HLN.out _ HR2.out 5) (HLN.out _ HR2.out 6) (HLN.out _ HR2.out 7) (fun _ _ _ _ h1 h2=>DatA.old HS2.out h1 h2) (fun u3=>by have h5:=l4Count8_is x 0 HLB.out (by omega) u3;rw[HZ.out]at h5;exact h5) (fun u3 h3=>put_no (HS2.out.keep h3) x.n) ?_
  intro a2 y2 u3 u4 h3 h4
  have HFN:Hid (FilS w0 (u4.setCell ⟨g,1,none⟩ (.slice a2 (Pl.dataL xs k).length y2)) g vc2 (.slice a2 (Pl.dataL xs k).length y2) (Pl.codeL ewI xs (k+1)) (Pl.dataL xs (k+1))):=by show FilS _ _ _ _ _ _ _;rw[HDD.out];exact DatA.fin HS2.out h3 h4
  clear h3 h4
  go_wp2_with fail
  have hfn:=HFN.out
  exact HNt.out _ _ _ _ _ _ _ _ _ _ _ _ _ _ _ _ _ _ _ _ _ _ _ _ _ _ _ _ _ _ _ _ _ _ _ _ _ _ _ _ _ _ _ _ _ _ _ _ _ _ _ _ _ _ _ _ _ _ _ _ _ _ _ _ _ _ _ _ _ _ _ _ _ _ _ _ _ _ _ _ _ _ _ _ _ _ _ _ _ _ _ _ _ _ _ _ _ _ _ _ _ _ _ _ _ _ _ _ _ _ _ _ _ _ _ _ _ _ _ _ _ _ _ _ _ _ _ _ _ _ _ HBJ.out hfn
set_option maxRecDepth 100000 in
theorem fil_8 {lo:Nat} (xs:List Pl.Ln) (F R g k:Nat) (a:Option Addr) (len cap:Nat) (la:Option Addr) (ll lc:Nat) (aa:Option Addr) (ac:Nat) (vc vd:Value) {c1 c2 c5 c8 c9 c10 c11 c12 c13 c14 c15 c16 c17 c18 c19 c20 c21 c22 c23 c24 c25 c26 c27 c28 c29 c30 c31 c32 c33 c34 c35 c36 c37 c38 c39 c40 c41 c42 c43 c44 c45 c46 c47 c48 c49 c50 c51 c52 c53 c54 c55 c56 c57 c58 c59 c60 c61 c62 c63 c64 c65 c66 c67 c68 c69 c70 c71 c72 c73 c74 c75 c76 c77 c78 c79 c80 c81 c82 c83 c84 c85 c86 c87 c88 c89 c90 c91 c92 c93 c94 c95 c96 c97 c98 c99 c100 c101 c102 c103 c104 c105 c106 c107 c108 c109 c110 c111 c112 c113 c114 c115 c116 c117 c118 c119 c120 c121 c122 c123 c124 c125 c126 c127 c128 c129 c130 c131 c132 c133 c134 c135 c136 c137 c138 c139 c140 c141 c142 c143 c144:Value} (w0 Y:World) (hE:FilE lo xs Y F R a len cap la ll lc aa ac) (hF:FilS w0 Y g vc vd (Pl.codeL ewI xs k) (Pl.dataL xs k)) (hK:∀ i,i<xs.length->LnK (Pl.gl xs i)) (hS:∀ i,i<xs.length->Pl.stray xs i=false) (hL:Pl.lost xs k=false) (hk:k<len) (hn:len<=20000) (hR:R<w0.heap.size) (hq:(Pl.gl xs k).k=8) {Q:Exit->Act->World->Prop}
  (hN:∀ (s5 s8 s9 s10 s11 s12 s13 s14 s15 s16 s26 s27 s28 s29 s30 s31 s32 s33 s34 s35 s36 s37 s38 s39 s40 s41 s42 s43 s44 s45 s46 s47 s48 s49 s50 s51 s52 s53 s54 s55 s56 s57 s58 s59 s60 s61 s62 s63 s64 s65 s66 s67 s68 s69 s70 s71 s72 s73 s74 s75 s76 s77 s78 s79 s80 s81 s82 s83 s84 s85 s86 s87 s88 s89 s90 s91 s92 s93 s94 s95 s96 s97 s98 s99 s100 s101 s102 s103 s104 s105 s106 s107 s108 s109 s110 s111 s112 s113 s114 s115 s116 s117 s118 s119 s120 s121 s122 s123 s124 s125 s126 s127 s128 s129 s130 s131 s132 s133 s134 s135 s136 s137 s138 s139 s140 s141 s142 s143:Value) (u:World) (vc' vd':Value),Pl.badJ xs k=false->FilS w0 u g vc' vd' (Pl.codeL ewI xs (k+1)) (Pl.dataL xs (k+1))->Q .normal { tmps:=#[.slice a len cap,c1,c2,.pointer (some ⟨F,0,none⟩),.pointer (some ⟨R,0,none⟩),s5,.pointer (some ⟨g,0,none⟩),.int .i64 (k:Nat),s8,s9,s10,s11,s12,s13,s14,s15,s16,c17,c18,c19,c20,c21,c22,c23,c24,c25,s26,s27,s28,s29,s30,s31,s32,s33,s34,s35,s36,s37,s38,s39,s40,s41,s42,s43,s44,s45,s46,s47,s48,s49,s50,s51,s52,s53,s54,s55,s56,s57,s58,s59,s60,s61,s62,s63,s64,s65,s66,s67,s68,s69,s70,s71,s72,s73,s74,s75,s76,s77,s78,s79,s80,s81,s82,s83,s84,s85,s86,s87,s88,s89,s90,s91,s92,s93,s94,s95,s96,s97,s98,s99,s100,s101,s102,s103,s104,s105,s106,s107,s108,s109,s110,s111,s112,s113,s114,s115,s116,s117,s118,s119,s120,s121,s122,s123,s124,s125,s126,s127,s128,s129,s130,s131,s132,s133,s134,s135,s136,s137,s138,s139,s140,s141,s142,s143,c144],defers:=[] } u)
  (hX:∀ (s8 s9 s10 s11 s12 s13 s14 s15 s16 s26 s27 s28 s29 s30 s31 s32 s33 s34 s35 s36 s37 s38 s39 s40 s41 s42 s43 s44 s45 s46 s47 s48 s49 s50 s51 s52 s53 s54 s55 s56 s57 s58 s59 s60 s61 s62 s63 s64 s65 s66 s67 s68 s69 s70 s71 s72 s73 s74 s75 s76 s77 s78 s79 s80 s81 s82 s83 s84 s85 s86 s87 s88 s89 s90 s91 s92 s93 s94 s95 s96 s97 s98 s99 s100 s101 s102 s103 s104 s105 s106 s107 s108 s109 s110 s111 s112 s113 s114 s115 s116 s117 s118 s119 s120 s121 s122 s123 s124 s125 s126 s127 s128 s129 s130 s131 s132 s133 s134 s135 s136 s137 s138 s139 s140 s141 s142 s143:Value) (u:World) (a9:Option Addr) (n9 y9:Nat) (b9:Option Addr) (m9 z9:Nat),Pl.badJ xs k=true->u.heap[R]?=some (.cells #[.slice a9 n9 y9,.slice b9 m9 z9,.int .i64 0,.int .i64 0] 28 (0,0))->Below R w0 u->Q .ret { tmps:=#[.slice a len cap,c1,c2,.pointer (some ⟨F,0,none⟩),.pointer (some ⟨R,0,none⟩),.int .i64 (k:Nat),.pointer (some ⟨g,0,none⟩),.int .i64 (k:Nat),s8,s9,s10,s11,s12,s13,s14,s15,s16,c17,c18,c19,c20,c21,c22,c23,c24,c25,s26,s27,s28,s29,s30,s31,s32,s33,s34,s35,s36,s37,s38,s39,s40,s41,s42,s43,s44,s45,s46,s47,s48,s49,s50,s51,s52,s53,s54,s55,s56,s57,s58,s59,s60,s61,s62,s63,s64,s65,s66,s67,s68,s69,s70,s71,s72,s73,s74,s75,s76,s77,s78,s79,s80,s81,s82,s83,s84,s85,s86,s87,s88,s89,s90,s91,s92,s93,s94,s95,s96,s97,s98,s99,s100,s101,s102,s103,s104,s105,s106,s107,s108,s109,s110,s111,s112,s113,s114,s115,s116,s117,s118,s119,s120,s121,s122,s123,s124,s125,s126,s127,s128,s129,s130,s131,s132,s133,s134,s135,s136,s137,s138,s139,s140,s141,s142,s143,c144],defers:=[] } u) :
  (filB 1).wp Tryz.prog Q { tmps:=#[.slice a len cap,c1,c2,.pointer (some ⟨F,0,none⟩),.pointer (some ⟨R,0,none⟩),c5,.pointer (some ⟨g,0,none⟩),.int .i64 (k:Nat),c8,c9,c10,c11,c12,c13,c14,c15,c16,c17,c18,c19,c20,c21,c22,c23,c24,c25,c26,c27,c28,c29,c30,c31,c32,c33,c34,c35,c36,c37,c38,c39,c40,c41,c42,c43,c44,c45,c46,c47,c48,c49,c50,c51,c52,c53,c54,c55,c56,c57,c58,c59,c60,c61,c62,c63,c64,c65,c66,c67,c68,c69,c70,c71,c72,c73,c74,c75,c76,c77,c78,c79,c80,c81,c82,c83,c84,c85,c86,c87,c88,c89,c90,c91,c92,c93,c94,c95,c96,c97,c98,c99,c100,c101,c102,c103,c104,c105,c106,c107,c108,c109,c110,c111,c112,c113,c114,c115,c116,c117,c118,c119,c120,c121,c122,c123,c124,c125,c126,c127,c128,c129,c130,c131,c132,c133,c134,c135,c136,c137,c138,c139,c140,c141,c142,c143,c144],defers:=[] } Y:=by
 have HNt:Hid (∀ (s5 s8 s9 s10 s11 s12 s13 s14 s15 s16 s26 s27 s28 s29 s30 s31 s32 s33 s34 s35 s36 s37 s38 s39 s40 s41 s42 s43 s44 s45 s46 s47 s48 s49 s50 s51 s52 s53 s54 s55 s56 s57 s58 s59 s60 s61 s62 s63 s64 s65 s66 s67 s68 s69 s70 s71 s72 s73 s74 s75 s76 s77 s78 s79 s80 s81 s82 s83 s84 s85 s86 s87 s88 s89 s90 s91 s92 s93 s94 s95 s96 s97 s98 s99 s100 s101 s102 s103 s104 s105 s106 s107 s108 s109 s110 s111 s112 s113 s114 s115 s116 s117 s118 s119 s120 s121 s122 s123 s124 s125 s126 s127 s128 s129 s130 s131 s132 s133 s134 s135 s136 s137 s138 s139 s140 s141 s142 s143:Value) (u:World) (vc' vd':Value),Pl.badJ xs k=false->FilS w0 u g vc' vd' (Pl.codeL ewI xs (k+1)) (Pl.dataL xs (k+1))->Q .normal { tmps:=#[.slice a len cap,c1,c2,.pointer (some ⟨F,0,none⟩),.pointer (some ⟨R,0,none⟩),s5,.pointer (some ⟨g,0,none⟩),.int .i64 (k:Nat),s8,s9,s10,s11,s12,s13,s14,s15,s16,c17,c18,c19,c20,c21,c22,c23,c24,c25,s26,s27,s28,s29,s30,s31,s32,s33,s34,s35,s36,s37,s38,s39,s40,s41,s42,s43,s44,s45,s46,s47,s48,s49,s50,s51,s52,s53,s54,s55,s56,s57,s58,s59,s60,s61,s62,s63,s64,s65,s66,s67,s68,s69,s70,s71,s72,s73,s74,s75,s76,s77,s78,s79,s80,s81,s82,s83,s84,s85,s86,s87,s88,s89,s90,s91,s92,s93,s94,s95,s96,s97,s98,s99,s100,s101,s102,s103,s104,s105,s106,s107,s108,s109,s110,s111,s112,s113,s114,s115,s116,s117,s118,s119,s120,s121,s122,s123,s124,s125,s126,s127,s128,s129,s130,s131,s132,s133,s134,s135,s136,s137,s138,s139,s140,s141,s142,s143,c144],defers:=[] } u):=hN
 have HXt:Hid (∀ (s8 s9 s10 s11 s12 s13 s14 s15 s16 s26 s27 s28 s29 s30 s31 s32 s33 s34 s35 s36 s37 s38 s39 s40 s41 s42 s43 s44 s45 s46 s47 s48 s49 s50 s51 s52 s53 s54 s55 s56 s57 s58 s59 s60 s61 s62 s63 s64 s65 s66 s67 s68 s69 s70 s71 s72 s73 s74 s75 s76 s77 s78 s79 s80 s81 s82 s83 s84 s85 s86 s87 s88 s89 s90 s91 s92 s93 s94 s95 s96 s97 s98 s99 s100 s101 s102 s103 s104 s105 s106 s107 s108 s109 s110 s111 s112 s113 s114 s115 s116 s117 s118 s119 s120 s121 s122 s123 s124 s125 s126 s127 s128 s129 s130 s131 s132 s133 s134 s135 s136 s137 s138 s139 s140 s141 s142 s143:Value) (u:World) (a9:Option Addr) (n9 y9:Nat) (b9:Option Addr) (m9 z9:Nat),Pl.badJ xs k=true->u.heap[R]?=some (.cells #[.slice a9 n9 y9,.slice b9 m9 z9,.int .i64 0,.int .i64 0] 28 (0,0))->Below R w0 u->Q .ret { tmps:=#[.slice a len cap,c1,c2,.pointer (some ⟨F,0,none⟩),.pointer (some ⟨R,0,none⟩),.int .i64 (k:Nat),.pointer (some ⟨g,0,none⟩),.int .i64 (k:Nat),s8,s9,s10,s11,s12,s13,s14,s15,s16,c17,c18,c19,c20,c21,c22,c23,c24,c25,s26,s27,s28,s29,s30,s31,s32,s33,s34,s35,s36,s37,s38,s39,s40,s41,s42,s43,s44,s45,s46,s47,s48,s49,s50,s51,s52,s53,s54,s55,s56,s57,s58,s59,s60,s61,s62,s63,s64,s65,s66,s67,s68,s69,s70,s71,s72,s73,s74,s75,s76,s77,s78,s79,s80,s81,s82,s83,s84,s85,s86,s87,s88,s89,s90,s91,s92,s93,s94,s95,s96,s97,s98,s99,s100,s101,s102,s103,s104,s105,s106,s107,s108,s109,s110,s111,s112,s113,s114,s115,s116,s117,s118,s119,s120,s121,s122,s123,s124,s125,s126,s127,s128,s129,s130,s131,s132,s133,s134,s135,s136,s137,s138,s139,s140,s141,s142,s143,c144],defers:=[] } u):=hX
 have HE:Hid (FilE lo xs Y F R a len cap la ll lc aa ac):=hE
 have hxl:xs.length=len:=hE.ln.len.1
 have HXL:Hid (xs.length=len):=hxl
 have hK1:=hK k (by omega)
 have HKn:Hid (LnK (Pl.gl xs k)):=hK1
 obtain⟨a6,y6,hv6⟩:=own_slice hF.od
 subst hv6
 have HF:Hid (FilS w0 Y g vc (.slice a6 (Pl.dataL xs k).length y6) (Pl.codeL ewI xs k) (Pl.dataL xs k)):=hF
 have HFB:Hid ((Pl.ins xs k).any (fun y=>!y.ok || (Pl.isJ (Pl.gl xs k).k && Pl.inD xs (Pl.gl xs k).s))=Pl.badJ xs k):=Pl.fill_bad xs k hK1.i
 have HIN:Hid (Pl.ins xs k=Pl.insA (Pl.gl xs k) (Pl.cu xs k).at (Pl.adr xs (Pl.gl xs k).s)):=rfl
 have hadr:=adr_bd hK (by omega) (Pl.gl xs k).s
 have hatb:=at_bd hK (by omega) (k:=k) (by omega)
 have HCS:Hid (Pl.codeL ewI xs (k+1)=Pl.codeL ewI xs k ++ (Pl.ins xs k).map ewI):=Pl.codeL_succ _ _ _
 have HDS:Hid (Pl.dataL xs (k+1)=Pl.dataL xs k ++ Pl.dat xs k):=Pl.dataL_succ _ _
 have hlen2:=Pl.laid_len ewI xs (fun i hi=>(hK i hi).b) hS k (by omega)
 have hcb:=Pl.cu_bd xs (fun i hi=>(hK i hi).b) k (by omega)
 have hcl:(Pl.codeL ewI xs k).length<=100000:=by omega
 have hdl:(Pl.dataL xs k).length<=1310720000:=by omega
 have HB0:Hid (((Pl.dataL xs k).length:Int)=(Pl.cu xs k).b):=hlen2.2
 have hg0:=hF.hg
 have hgY:g<Y.heap.size:=hF.lt
 have hsn:¬ (Pl.gl xs k).s=⟨#[]⟩:=fun c=>hK1.sym (by omega) (by rw[c];rfl)
 have hlb:Pl.lb xs (Pl.gl xs k).s≠none:=fun c=>by
  have:=hL
  unfold Pl.lost at this
  rw[c]at this
  simp[hsn]at this
 obtain⟨p,bl,ol,hla,hp,hwh,ca,cd,hbl⟩:=hE.sym hlb
 subst hla
 have HW:Hid (∀ u,Below Y.heap.size Y u->Calls Tryz.prog 26 #[.slice (some ⟨bl,ol,none⟩) ll lc,.string (Pl.gl xs k).s] u fun e w'=>e=.returned (.int .i64 (p:Nat))/\w'=u):=fun u hu=>by rw[<- hwh];exact l4Where_is _ _ _ xs _ _ u (HE.out.keep hu).lb
 have HCA:Hid (∀ u,Below Y.heap.size Y u->u.cell? ⟨bl,ol+p*4+2,none⟩=some (.int .i64 (Pl.adr xs (Pl.gl xs k).s))/\u.cell? ⟨bl,ol+p*4+3,none⟩=some (.bool (!Pl.inD xs (Pl.gl xs k).s))):=fun u hu=>⟨below_cell hu ca,below_cell hu cd⟩
 have hpl:(p:Int)<(ll:Int):=by omega
 have hll:(ll:Int)<=20000:=by
  have h1:=hE.lb.1
  have h2:(Pl.lbs xs xs.length).length<=xs.length:=by unfold Pl.lbs;refine Nat.le_trans (List.length_filter_le _ _) (by simp)
  omega
 have se:(Pl.gl xs k).s.toList.isEmpty=false:=by rw[<- Pl.str_nil];simpa using hsn
 clear hwh
 have HDD:Hid (Pl.dataL xs (k+1)=Pl.dataL xs k):=by show _=_;rw[HDS.out,Pl.dat_text xs k (by omega),List.append_nil]
 have HZ:Hid (Pl.dsz (Pl.gl xs k) 0=0):=Pl.dsz_text _ _ (by omega)
 have HIS:Hid (∀ u,InsSaid (Pl.gl xs k) (Pl.cu xs k).at (Pl.adr xs (Pl.gl xs k).s) u):=fun u=>l4Insts_is _ _ _ u hK1.b.k (by omega) (by omega) hK1.i.w4 (fun q=>by have:=hK1.far (.inl q);omega)
 have hat:=hE.ats hk
 obtain⟨ba,oa,haa,hba,cat⟩:=hat
 subst haa
 obtain⟨b0,off,haL,hlo,hb1,hsz,z0,z1,z2,z3,z4,z5,z6,z7⟩:=hE.ln.at k hk
 subst haL
 have hi:(k:Int)<(len:Int):=by omega
 have HLB:Hid (Pl.LnB (Pl.gl xs k)):=hK1.b
 have hf0:=hE.f0
 have hF0:F<Y.heap.size:=block_lt_of_cell hf0
 clear hE hF hN hX hK hS hL hK1 hlen2 hcb hsz
 conv=>arg 2;whnf
 dsimp only
 generalize hx:Pl.gl xs k=x at *
 have HXE:Hid (Pl.gl xs k=x):=hx
 clear hx
 have hkk:x.k=8:=hq
 have HKK:Hid (x.k=8):=hkk
 rw[hkk]at z0
 clear hq hkk
 have c8a:=(HCA.out (Y.alloc (.cells #[.int .i64 8,.int .i64 x.op,.int .i64 x.rd,.int .i64 x.r1,.int .i64 x.r2,.int .i64 x.im,.string x.s,.int .i64 x.n] 51)) (below_alloc _ _)).1
 have c8d:=(HCA.out (Y.alloc (.cells #[.int .i64 8,.int .i64 x.op,.int .i64 x.rd,.int .i64 x.r1,.int .i64 x.r2,.int .i64 x.im,.string x.s,.int .i64 x.n] 51)) (below_alloc _ _)).2
 have hf0':(Y.alloc (.cells #[.int .i64 8,.int .i64 x.op,.int .i64 x.rd,.int .i64 x.r1,.int .i64 x.r2,.int .i64 x.im,.string x.s,.int .i64 x.n] 51)).cell? ⟨F,0,none⟩=some (.slice (some ⟨bl,ol,none⟩) ll lc):=below_cell (below_alloc _ _) hf0
 go_upto_region 12 with (go_at_call 26;refine (HW.out _ (below_alloc _ _)).mono ?_;rintro e u9 ⟨rfl,rfl⟩)
 have hrow:(Y.alloc (.cells #[.int .i64 8,.int .i64 x.op,.int .i64 x.rd,.int .i64 x.r1,.int .i64 x.r2,.int .i64 x.im,.string x.s,.int .i64 x.n] 51)).heap[Y.heap.size]?=some (.cells #[.int .i64 8,.int .i64 x.op,.int .i64 x.rd,.int .i64 x.r1,.int .i64 x.r2,.int .i64 x.im,.string x.s,.int .i64 x.n] 51 (0,0)):=heap_alloc_new Y _
 have HLN:Hid (∀ w1:World,w1.heap[Y.heap.size]?=some (.cells #[.int .i64 8,.int .i64 x.op,.int .i64 x.rd,.int .i64 x.r1,.int .i64 x.r2,.int .i64 x.im,.string x.s,.int .i64 x.n] 51 (0,0))->∀ j,w1.cell? ⟨Y.heap.size,j,none⟩=(#[.int .i64 8,.int .i64 x.op,.int .i64 x.rd,.int .i64 x.r1,.int .i64 x.r2,.int .i64 x.im,.string x.s,.int .i64 x.n]:Array Value)[j]?):=fun w1 hw1 j=>cell_of_row _ _ j _ 51 (0,0) hw1
 have HRW:Hid ((Y.alloc (.cells #[.int .i64 8,.int .i64 x.op,.int .i64 x.rd,.int .i64 x.r1,.int .i64 x.r2,.int .i64 x.im,.string x.s,.int .i64 x.n] 51)).heap[Y.heap.size]?=some (.cells #[.int .i64 8,.int .i64 x.op,.int .i64 x.rd,.int .i64 x.r1,.int .i64 x.r2,.int .i64 x.im,.string x.s,.int .i64 x.n] 51 (0,0))):=hrow
 refine fil12 F Y.heap.size k ba oa len ac x (Pl.cu xs k).at (Pl.adr xs x.s) (Y.alloc (.cells #[.int .i64 8,.int .i64 x.op,.int .i64 x.rd,.int .i64 x.r1,.int .i64 x.r2,.int .i64 x.im,.string x.s,.int .i64 x.n] 51)) (below_cell (below_alloc _ _) HE.out.f1) hk hn (below_cell (below_alloc _ _) cat) (by rw[HKK.out];exact HLN.out _ HRW.out 0) (HLN.out _ HRW.out 1) (HLN.out _ HRW.out 2) (HLN.out _ HRW.out 3) (HLN.out _ HRW.out 4) (HLN.out _ HRW.out 5) (HLN.out _ HRW.out 6) (HLN.out _ HRW.out 7) (HIS.out _) ?_
 intro ai ni ci w1 hI hw1
 have HI:Hid (InsRow (Y.alloc (.cells #[.int .i64 8,.int .i64 x.op,.int .i64 x.rd,.int .i64 x.r1,.int .i64 x.r2,.int .i64 x.im,.string x.s,.int .i64 x.n] 51)).heap.size w1 ai ni (Pl.insA x (Pl.cu xs k).at (Pl.adr xs x.s))):=hI
 have HW1:Hid (Below (Y.alloc (.cells #[.int .i64 8,.int .i64 x.op,.int .i64 x.rd,.int .i64 x.r1,.int .i64 x.r2,.int .i64 x.im,.string x.s,.int .i64 x.n] 51)).heap.size (Y.alloc (.cells #[.int .i64 8,.int .i64 x.op,.int .i64 x.rd,.int .i64 x.r1,.int .i64 x.r2,.int .i64 x.im,.string x.s,.int .i64 x.n] 51)) w1):=hw1
 have HR1:Hid (w1.heap[Y.heap.size]?=some (.cells #[.int .i64 8,.int .i64 x.op,.int .i64 x.rd,.int .i64 x.r1,.int .i64 x.r2,.int .i64 x.im,.string x.s,.int .i64 x.n] 51 (0,0))):=(hw1.block Y.heap.size (by simp)).trans hrow
 have HF1:Hid (FilS w0 w1 g vc (.slice a6 (Pl.dataL xs k).length y6) (Pl.codeL ewI xs k) (Pl.dataL xs k)):=(HF.out.keep (below_alloc _ _)).keep hw1
 have k0:=HLN.out _ HR1.out 0
 simp only[List.getElem?_toArray,List.getElem?_cons_zero]at k0
 clear hI hw1 hrow
 go_upto_block 2 with fail
 refine fil_loop k g R true (!Pl.inD xs x.s) (Pl.insA x (Pl.cu xs k).at (Pl.adr xs x.s)) ai ni ci vc _ (Pl.codeL ewI xs k) (Pl.dataL xs k) w0 w1 HF1.out HI.out ((HE.out.keep (Below.trans (below_alloc Y _) (HW1.out.mono (by simp)))).r) hR (by simp;omega) hcl ?N ?X
 case X=>
  intros
  rename_i hany hrw hbe
  refine HXt.out _ _ _ _ _ _ _ _ _ _ _ _ _ _ _ _ _ _ _ _ _ _ _ _ _ _ _ _ _ _ _ _ _ _ _ _ _ _ _ _ _ _ _ _ _ _ _ _ _ _ _ _ _ _ _ _ _ _ _ _ _ _ _ _ _ _ _ _ _ _ _ _ _ _ _ _ _ _ _ _ _ _ _ _ _ _ _ _ _ _ _ _ _ _ _ _ _ _ _ _ _ _ _ _ _ _ _ _ _ _ _ _ _ _ _ _ _ _ _ _ _ _ _ _ _ _ _ _ _ _ _ _ _ _ ?_ hrw hbe
  rw[<- HFB.out,HIN.out]
  simpa [Pl.isJ,HKK.out] using hany
 case N=>
  intro v5 v14 v15 v16 v71 v72 v73 v74 v75 v76 v77 v78 v79 v80 v81 v82 v83 v84 v85 v86 v87 v88 v89 v90 v91 v92 v93 v94 v95 v96 v97 v98 v99 v100 v101 u vc2 hany hs2 hby
  have HS2:Hid (FilS w0 u g vc2 (.slice a6 (Pl.dataL xs k).length y6) (Pl.codeL ewI xs (k+1)) (Pl.dataL xs k)):=by show FilS _ _ _ _ _ _ _;rw[HCS.out,HIN.out];exact hs2
  have HBJ:Hid (Pl.badJ xs k=false):=by
   show _=_
   rw[<- HFB.out,HIN.out]
   simpa [Pl.isJ,HKK.out] using hany
  have HR2:Hid (u.heap[Y.heap.size]?=some (.cells #[.int .i64 8,.int .i64 x.op,.int .i64 x.rd,.int .i64 x.r1,.int .i64 x.r2,.int .i64 x.im,.string x.s,.int .i64 x.n] 51 (0,0))):=hby.block _ _ (by omega) HR1.out (fun c q=>by injection q with _ q2 _;exact absurd q2 (by decide))
  have l0:=HLN.out _ HR2.out 0;have l6:=HLN.out _ HR2.out 6
  simp only[List.getElem?_toArray,List.getElem?_cons_zero,List.getElem?_cons_succ]at l0 l6
  clear hany hs2 hby k0
  go_upto_region 25 with fail
  refine fil25 g Y.heap.size (Pl.dataL xs k).length _ x 0 a6 y6 (DatA w0 (Pl.dataL xs k)) u HS2.out.c1 (by rw[HKK.out];exact HLN.out _ HR2.out 0) (HLN.out _ HR2.out 1) (HLN.out _ HR2.out 2) (HLN.out _ HR2.out 3) (HLN.out _ HR2.out 4) (HLN.out _ HR2.out 5) (HLN.out _ HR2.out 6) (HLN.out _ HR2.out 7) (fun _ _ _ _ h1 h2=>DatA.old HS2.out h1 h2) (fun u3=>by have h5:=l4Count8_is x 0 HLB.out (by omega) u3;rw[HZ.out]at h5;exact h5) (fun u3 h3=>put_no (HS2.out.keep h3) x.n) ?_
  intro a2 y2 u3 u4 h3 h4
  have HFN:Hid (FilS w0 (u4.setCell ⟨g,1,none⟩ (.slice a2 (Pl.dataL xs k).length y2)) g vc2 (.slice a2 (Pl.dataL xs k).length y2) (Pl.codeL ewI xs (k+1)) (Pl.dataL xs (k+1))):=by show FilS _ _ _ _ _ _ _;rw[HDD.out];exact DatA.fin HS2.out h3 h4
  clear h3 h4
  go_wp2_with fail
  have hfn:=HFN.out
  exact HNt.out _ _ _ _ _ _ _ _ _ _ _ _ _ _ _ _ _ _ _ _ _ _ _ _ _ _ _ _ _ _ _ _ _ _ _ _ _ _ _ _ _ _ _ _ _ _ _ _ _ _ _ _ _ _ _ _ _ _ _ _ _ _ _ _ _ _ _ _ _ _ _ _ _ _ _ _ _ _ _ _ _ _ _ _ _ _ _ _ _ _ _ _ _ _ _ _ _ _ _ _ _ _ _ _ _ _ _ _ _ _ _ _ _ _ _ _ _ _ _ _ _ _ _ _ _ _ _ _ _ _ _ HBJ.out hfn
set_option maxRecDepth 100000 in
theorem fil_t {lo:Nat} (xs:List Pl.Ln) (F R g k:Nat) (a:Option Addr) (len cap:Nat) (la:Option Addr) (ll lc:Nat) (aa:Option Addr) (ac:Nat) (vc vd:Value) {c1 c2 c5 c8 c9 c10 c11 c12 c13 c14 c15 c16 c17 c18 c19 c20 c21 c22 c23 c24 c25 c26 c27 c28 c29 c30 c31 c32 c33 c34 c35 c36 c37 c38 c39 c40 c41 c42 c43 c44 c45 c46 c47 c48 c49 c50 c51 c52 c53 c54 c55 c56 c57 c58 c59 c60 c61 c62 c63 c64 c65 c66 c67 c68 c69 c70 c71 c72 c73 c74 c75 c76 c77 c78 c79 c80 c81 c82 c83 c84 c85 c86 c87 c88 c89 c90 c91 c92 c93 c94 c95 c96 c97 c98 c99 c100 c101 c102 c103 c104 c105 c106 c107 c108 c109 c110 c111 c112 c113 c114 c115 c116 c117 c118 c119 c120 c121 c122 c123 c124 c125 c126 c127 c128 c129 c130 c131 c132 c133 c134 c135 c136 c137 c138 c139 c140 c141 c142 c143 c144:Value} (w0 Y:World) (hE:FilE lo xs Y F R a len cap la ll lc aa ac) (hF:FilS w0 Y g vc vd (Pl.codeL ewI xs k) (Pl.dataL xs k)) (hK:∀ i,i<xs.length->LnK (Pl.gl xs i)) (hS:∀ i,i<xs.length->Pl.stray xs i=false) (hL:Pl.lost xs k=false) (hk:k<len) (hn:len<=20000) (hR:R<w0.heap.size) (hq:(Pl.gl xs k).k=2\/(Pl.gl xs k).k=4\/(Pl.gl xs k).k=6\/(Pl.gl xs k).k=9\/(Pl.gl xs k).k=10\/(Pl.gl xs k).k=11) {Q:Exit->Act->World->Prop}
  (hN:∀ (s5 s8 s9 s10 s11 s12 s13 s14 s15 s16 s26 s27 s28 s29 s30 s31 s32 s33 s34 s35 s36 s37 s38 s39 s40 s41 s42 s43 s44 s45 s46 s47 s48 s49 s50 s51 s52 s53 s54 s55 s56 s57 s58 s59 s60 s61 s62 s63 s64 s65 s66 s67 s68 s69 s70 s71 s72 s73 s74 s75 s76 s77 s78 s79 s80 s81 s82 s83 s84 s85 s86 s87 s88 s89 s90 s91 s92 s93 s94 s95 s96 s97 s98 s99 s100 s101 s102 s103 s104 s105 s106 s107 s108 s109 s110 s111 s112 s113 s114 s115 s116 s117 s118 s119 s120 s121 s122 s123 s124 s125 s126 s127 s128 s129 s130 s131 s132 s133 s134 s135 s136 s137 s138 s139 s140 s141 s142 s143:Value) (u:World) (vc' vd':Value),Pl.badJ xs k=false->FilS w0 u g vc' vd' (Pl.codeL ewI xs (k+1)) (Pl.dataL xs (k+1))->Q .normal { tmps:=#[.slice a len cap,c1,c2,.pointer (some ⟨F,0,none⟩),.pointer (some ⟨R,0,none⟩),s5,.pointer (some ⟨g,0,none⟩),.int .i64 (k:Nat),s8,s9,s10,s11,s12,s13,s14,s15,s16,c17,c18,c19,c20,c21,c22,c23,c24,c25,s26,s27,s28,s29,s30,s31,s32,s33,s34,s35,s36,s37,s38,s39,s40,s41,s42,s43,s44,s45,s46,s47,s48,s49,s50,s51,s52,s53,s54,s55,s56,s57,s58,s59,s60,s61,s62,s63,s64,s65,s66,s67,s68,s69,s70,s71,s72,s73,s74,s75,s76,s77,s78,s79,s80,s81,s82,s83,s84,s85,s86,s87,s88,s89,s90,s91,s92,s93,s94,s95,s96,s97,s98,s99,s100,s101,s102,s103,s104,s105,s106,s107,s108,s109,s110,s111,s112,s113,s114,s115,s116,s117,s118,s119,s120,s121,s122,s123,s124,s125,s126,s127,s128,s129,s130,s131,s132,s133,s134,s135,s136,s137,s138,s139,s140,s141,s142,s143,c144],defers:=[] } u)
  (hX:∀ (s8 s9 s10 s11 s12 s13 s14 s15 s16 s26 s27 s28 s29 s30 s31 s32 s33 s34 s35 s36 s37 s38 s39 s40 s41 s42 s43 s44 s45 s46 s47 s48 s49 s50 s51 s52 s53 s54 s55 s56 s57 s58 s59 s60 s61 s62 s63 s64 s65 s66 s67 s68 s69 s70 s71 s72 s73 s74 s75 s76 s77 s78 s79 s80 s81 s82 s83 s84 s85 s86 s87 s88 s89 s90 s91 s92 s93 s94 s95 s96 s97 s98 s99 s100 s101 s102 s103 s104 s105 s106 s107 s108 s109 s110 s111 s112 s113 s114 s115 s116 s117 s118 s119 s120 s121 s122 s123 s124 s125 s126 s127 s128 s129 s130 s131 s132 s133 s134 s135 s136 s137 s138 s139 s140 s141 s142 s143:Value) (u:World) (a9:Option Addr) (n9 y9:Nat) (b9:Option Addr) (m9 z9:Nat),Pl.badJ xs k=true->u.heap[R]?=some (.cells #[.slice a9 n9 y9,.slice b9 m9 z9,.int .i64 0,.int .i64 0] 28 (0,0))->Below R w0 u->Q .ret { tmps:=#[.slice a len cap,c1,c2,.pointer (some ⟨F,0,none⟩),.pointer (some ⟨R,0,none⟩),.int .i64 (k:Nat),.pointer (some ⟨g,0,none⟩),.int .i64 (k:Nat),s8,s9,s10,s11,s12,s13,s14,s15,s16,c17,c18,c19,c20,c21,c22,c23,c24,c25,s26,s27,s28,s29,s30,s31,s32,s33,s34,s35,s36,s37,s38,s39,s40,s41,s42,s43,s44,s45,s46,s47,s48,s49,s50,s51,s52,s53,s54,s55,s56,s57,s58,s59,s60,s61,s62,s63,s64,s65,s66,s67,s68,s69,s70,s71,s72,s73,s74,s75,s76,s77,s78,s79,s80,s81,s82,s83,s84,s85,s86,s87,s88,s89,s90,s91,s92,s93,s94,s95,s96,s97,s98,s99,s100,s101,s102,s103,s104,s105,s106,s107,s108,s109,s110,s111,s112,s113,s114,s115,s116,s117,s118,s119,s120,s121,s122,s123,s124,s125,s126,s127,s128,s129,s130,s131,s132,s133,s134,s135,s136,s137,s138,s139,s140,s141,s142,s143,c144],defers:=[] } u) :
  (filB 1).wp Tryz.prog Q { tmps:=#[.slice a len cap,c1,c2,.pointer (some ⟨F,0,none⟩),.pointer (some ⟨R,0,none⟩),c5,.pointer (some ⟨g,0,none⟩),.int .i64 (k:Nat),c8,c9,c10,c11,c12,c13,c14,c15,c16,c17,c18,c19,c20,c21,c22,c23,c24,c25,c26,c27,c28,c29,c30,c31,c32,c33,c34,c35,c36,c37,c38,c39,c40,c41,c42,c43,c44,c45,c46,c47,c48,c49,c50,c51,c52,c53,c54,c55,c56,c57,c58,c59,c60,c61,c62,c63,c64,c65,c66,c67,c68,c69,c70,c71,c72,c73,c74,c75,c76,c77,c78,c79,c80,c81,c82,c83,c84,c85,c86,c87,c88,c89,c90,c91,c92,c93,c94,c95,c96,c97,c98,c99,c100,c101,c102,c103,c104,c105,c106,c107,c108,c109,c110,c111,c112,c113,c114,c115,c116,c117,c118,c119,c120,c121,c122,c123,c124,c125,c126,c127,c128,c129,c130,c131,c132,c133,c134,c135,c136,c137,c138,c139,c140,c141,c142,c143,c144],defers:=[] } Y:=by
 have HNt:Hid (∀ (s5 s8 s9 s10 s11 s12 s13 s14 s15 s16 s26 s27 s28 s29 s30 s31 s32 s33 s34 s35 s36 s37 s38 s39 s40 s41 s42 s43 s44 s45 s46 s47 s48 s49 s50 s51 s52 s53 s54 s55 s56 s57 s58 s59 s60 s61 s62 s63 s64 s65 s66 s67 s68 s69 s70 s71 s72 s73 s74 s75 s76 s77 s78 s79 s80 s81 s82 s83 s84 s85 s86 s87 s88 s89 s90 s91 s92 s93 s94 s95 s96 s97 s98 s99 s100 s101 s102 s103 s104 s105 s106 s107 s108 s109 s110 s111 s112 s113 s114 s115 s116 s117 s118 s119 s120 s121 s122 s123 s124 s125 s126 s127 s128 s129 s130 s131 s132 s133 s134 s135 s136 s137 s138 s139 s140 s141 s142 s143:Value) (u:World) (vc' vd':Value),Pl.badJ xs k=false->FilS w0 u g vc' vd' (Pl.codeL ewI xs (k+1)) (Pl.dataL xs (k+1))->Q .normal { tmps:=#[.slice a len cap,c1,c2,.pointer (some ⟨F,0,none⟩),.pointer (some ⟨R,0,none⟩),s5,.pointer (some ⟨g,0,none⟩),.int .i64 (k:Nat),s8,s9,s10,s11,s12,s13,s14,s15,s16,c17,c18,c19,c20,c21,c22,c23,c24,c25,s26,s27,s28,s29,s30,s31,s32,s33,s34,s35,s36,s37,s38,s39,s40,s41,s42,s43,s44,s45,s46,s47,s48,s49,s50,s51,s52,s53,s54,s55,s56,s57,s58,s59,s60,s61,s62,s63,s64,s65,s66,s67,s68,s69,s70,s71,s72,s73,s74,s75,s76,s77,s78,s79,s80,s81,s82,s83,s84,s85,s86,s87,s88,s89,s90,s91,s92,s93,s94,s95,s96,s97,s98,s99,s100,s101,s102,s103,s104,s105,s106,s107,s108,s109,s110,s111,s112,s113,s114,s115,s116,s117,s118,s119,s120,s121,s122,s123,s124,s125,s126,s127,s128,s129,s130,s131,s132,s133,s134,s135,s136,s137,s138,s139,s140,s141,s142,s143,c144],defers:=[] } u):=hN
 have HXt:Hid (∀ (s8 s9 s10 s11 s12 s13 s14 s15 s16 s26 s27 s28 s29 s30 s31 s32 s33 s34 s35 s36 s37 s38 s39 s40 s41 s42 s43 s44 s45 s46 s47 s48 s49 s50 s51 s52 s53 s54 s55 s56 s57 s58 s59 s60 s61 s62 s63 s64 s65 s66 s67 s68 s69 s70 s71 s72 s73 s74 s75 s76 s77 s78 s79 s80 s81 s82 s83 s84 s85 s86 s87 s88 s89 s90 s91 s92 s93 s94 s95 s96 s97 s98 s99 s100 s101 s102 s103 s104 s105 s106 s107 s108 s109 s110 s111 s112 s113 s114 s115 s116 s117 s118 s119 s120 s121 s122 s123 s124 s125 s126 s127 s128 s129 s130 s131 s132 s133 s134 s135 s136 s137 s138 s139 s140 s141 s142 s143:Value) (u:World) (a9:Option Addr) (n9 y9:Nat) (b9:Option Addr) (m9 z9:Nat),Pl.badJ xs k=true->u.heap[R]?=some (.cells #[.slice a9 n9 y9,.slice b9 m9 z9,.int .i64 0,.int .i64 0] 28 (0,0))->Below R w0 u->Q .ret { tmps:=#[.slice a len cap,c1,c2,.pointer (some ⟨F,0,none⟩),.pointer (some ⟨R,0,none⟩),.int .i64 (k:Nat),.pointer (some ⟨g,0,none⟩),.int .i64 (k:Nat),s8,s9,s10,s11,s12,s13,s14,s15,s16,c17,c18,c19,c20,c21,c22,c23,c24,c25,s26,s27,s28,s29,s30,s31,s32,s33,s34,s35,s36,s37,s38,s39,s40,s41,s42,s43,s44,s45,s46,s47,s48,s49,s50,s51,s52,s53,s54,s55,s56,s57,s58,s59,s60,s61,s62,s63,s64,s65,s66,s67,s68,s69,s70,s71,s72,s73,s74,s75,s76,s77,s78,s79,s80,s81,s82,s83,s84,s85,s86,s87,s88,s89,s90,s91,s92,s93,s94,s95,s96,s97,s98,s99,s100,s101,s102,s103,s104,s105,s106,s107,s108,s109,s110,s111,s112,s113,s114,s115,s116,s117,s118,s119,s120,s121,s122,s123,s124,s125,s126,s127,s128,s129,s130,s131,s132,s133,s134,s135,s136,s137,s138,s139,s140,s141,s142,s143,c144],defers:=[] } u):=hX
 have HE:Hid (FilE lo xs Y F R a len cap la ll lc aa ac):=hE
 have hxl:xs.length=len:=hE.ln.len.1
 have HXL:Hid (xs.length=len):=hxl
 have hK1:=hK k (by omega)
 have HKn:Hid (LnK (Pl.gl xs k)):=hK1
 obtain⟨a6,y6,hv6⟩:=own_slice hF.od
 subst hv6
 have HF:Hid (FilS w0 Y g vc (.slice a6 (Pl.dataL xs k).length y6) (Pl.codeL ewI xs k) (Pl.dataL xs k)):=hF
 have HFB:Hid ((Pl.ins xs k).any (fun y=>!y.ok || (Pl.isJ (Pl.gl xs k).k && Pl.inD xs (Pl.gl xs k).s))=Pl.badJ xs k):=Pl.fill_bad xs k hK1.i
 have HIN:Hid (Pl.ins xs k=Pl.insA (Pl.gl xs k) (Pl.cu xs k).at (Pl.adr xs (Pl.gl xs k).s)):=rfl
 have hadr:=adr_bd hK (by omega) (Pl.gl xs k).s
 have hatb:=at_bd hK (by omega) (k:=k) (by omega)
 have HCS:Hid (Pl.codeL ewI xs (k+1)=Pl.codeL ewI xs k ++ (Pl.ins xs k).map ewI):=Pl.codeL_succ _ _ _
 have HDS:Hid (Pl.dataL xs (k+1)=Pl.dataL xs k ++ Pl.dat xs k):=Pl.dataL_succ _ _
 have hlen2:=Pl.laid_len ewI xs (fun i hi=>(hK i hi).b) hS k (by omega)
 have hcb:=Pl.cu_bd xs (fun i hi=>(hK i hi).b) k (by omega)
 have hcl:(Pl.codeL ewI xs k).length<=100000:=by omega
 have hdl:(Pl.dataL xs k).length<=1310720000:=by omega
 have HB0:Hid (((Pl.dataL xs k).length:Int)=(Pl.cu xs k).b):=hlen2.2
 have hg0:=hF.hg
 have hgY:g<Y.heap.size:=hF.lt
 have hs0:(Pl.gl xs k).s=⟨#[]⟩:=size_nil (hK1.nos (by omega) (by omega) (by omega) (by omega) (by omega) (by omega))
 have ha0:Pl.adr xs (Pl.gl xs k).s=0/\Pl.inD xs (Pl.gl xs k).s=false:=by rw[hs0];exact adr_empty hK
 have se:(Pl.gl xs k).s.toList.isEmpty=true:=by rw[<- Pl.str_nil];simpa using hs0
 have HDD:Hid (Pl.dataL xs (k+1)=Pl.dataL xs k):=by show _=_;rw[HDS.out,Pl.dat_text xs k (by omega),List.append_nil]
 have HZ:Hid (Pl.dsz (Pl.gl xs k) 0=0):=Pl.dsz_text _ _ (by omega)
 have HIS:Hid (∀ u,InsSaid (Pl.gl xs k) (Pl.cu xs k).at (Pl.adr xs (Pl.gl xs k).s) u):=fun u=>l4Insts_is _ _ _ u hK1.b.k (by omega) (by omega) hK1.i.w4 (fun q=>by have:=hK1.far (.inl q);omega)
 have hat:=hE.ats hk
 obtain⟨ba,oa,haa,hba,cat⟩:=hat
 subst haa
 obtain⟨b0,off,haL,hlo,hb1,hsz,z0,z1,z2,z3,z4,z5,z6,z7⟩:=hE.ln.at k hk
 subst haL
 have hi:(k:Int)<(len:Int):=by omega
 have HLB:Hid (Pl.LnB (Pl.gl xs k)):=hK1.b
 have hf0:=hE.f0
 have hF0:F<Y.heap.size:=block_lt_of_cell hf0
 clear hE hF hN hX hK hS hL hK1 hlen2 hcb hsz
 conv=>arg 2;whnf
 dsimp only
 rw[ha0.2]at HFB
 rw[ha0.1]at HIN HIS
 generalize hx:Pl.gl xs k=x at *
 have HXE:Hid (Pl.gl xs k=x):=hx
 clear hx
 have e3:(x.k == 3)=false:=by simp;omega
 have e7:(x.k == 7)=false:=by simp;omega
 have e8:(x.k == 8)=false:=by simp;omega
 have e14:(x.k == 14)=false:=by simp;omega
 have e15:(x.k == 15)=false:=by simp;omega
 have e16:(x.k == 16)=false:=by simp;omega
 have HKV:Hid ((x.k == 3)=false/\(x.k == 7)=false/\(x.k == 8)=false):=⟨e3,e7,e8⟩
 clear hq
 clear ha0 hs0
 go_upto_region 12 with fail
 have hrow:(Y.alloc (.cells #[.int .i64 x.k,.int .i64 x.op,.int .i64 x.rd,.int .i64 x.r1,.int .i64 x.r2,.int .i64 x.im,.string x.s,.int .i64 x.n] 51)).heap[Y.heap.size]?=some (.cells #[.int .i64 x.k,.int .i64 x.op,.int .i64 x.rd,.int .i64 x.r1,.int .i64 x.r2,.int .i64 x.im,.string x.s,.int .i64 x.n] 51 (0,0)):=heap_alloc_new Y _
 have HLN:Hid (∀ w1:World,w1.heap[Y.heap.size]?=some (.cells #[.int .i64 x.k,.int .i64 x.op,.int .i64 x.rd,.int .i64 x.r1,.int .i64 x.r2,.int .i64 x.im,.string x.s,.int .i64 x.n] 51 (0,0))->∀ j,w1.cell? ⟨Y.heap.size,j,none⟩=(#[.int .i64 x.k,.int .i64 x.op,.int .i64 x.rd,.int .i64 x.r1,.int .i64 x.r2,.int .i64 x.im,.string x.s,.int .i64 x.n]:Array Value)[j]?):=fun w1 hw1 j=>cell_of_row _ _ j _ 51 (0,0) hw1
 have HRW:Hid ((Y.alloc (.cells #[.int .i64 x.k,.int .i64 x.op,.int .i64 x.rd,.int .i64 x.r1,.int .i64 x.r2,.int .i64 x.im,.string x.s,.int .i64 x.n] 51)).heap[Y.heap.size]?=some (.cells #[.int .i64 x.k,.int .i64 x.op,.int .i64 x.rd,.int .i64 x.r1,.int .i64 x.r2,.int .i64 x.im,.string x.s,.int .i64 x.n] 51 (0,0))):=hrow
 refine fil12 F Y.heap.size k ba oa len ac x (Pl.cu xs k).at 0 (Y.alloc (.cells #[.int .i64 x.k,.int .i64 x.op,.int .i64 x.rd,.int .i64 x.r1,.int .i64 x.r2,.int .i64 x.im,.string x.s,.int .i64 x.n] 51)) (below_cell (below_alloc _ _) HE.out.f1) hk hn (below_cell (below_alloc _ _) cat) (HLN.out _ HRW.out 0) (HLN.out _ HRW.out 1) (HLN.out _ HRW.out 2) (HLN.out _ HRW.out 3) (HLN.out _ HRW.out 4) (HLN.out _ HRW.out 5) (HLN.out _ HRW.out 6) (HLN.out _ HRW.out 7) (HIS.out _) ?_
 intro ai ni ci w1 hI hw1
 have HI:Hid (InsRow (Y.alloc (.cells #[.int .i64 x.k,.int .i64 x.op,.int .i64 x.rd,.int .i64 x.r1,.int .i64 x.r2,.int .i64 x.im,.string x.s,.int .i64 x.n] 51)).heap.size w1 ai ni (Pl.insA x (Pl.cu xs k).at 0)):=hI
 have HW1:Hid (Below (Y.alloc (.cells #[.int .i64 x.k,.int .i64 x.op,.int .i64 x.rd,.int .i64 x.r1,.int .i64 x.r2,.int .i64 x.im,.string x.s,.int .i64 x.n] 51)).heap.size (Y.alloc (.cells #[.int .i64 x.k,.int .i64 x.op,.int .i64 x.rd,.int .i64 x.r1,.int .i64 x.r2,.int .i64 x.im,.string x.s,.int .i64 x.n] 51)) w1):=hw1
 have HR1:Hid (w1.heap[Y.heap.size]?=some (.cells #[.int .i64 x.k,.int .i64 x.op,.int .i64 x.rd,.int .i64 x.r1,.int .i64 x.r2,.int .i64 x.im,.string x.s,.int .i64 x.n] 51 (0,0))):=(hw1.block Y.heap.size (by simp)).trans hrow
 have HF1:Hid (FilS w0 w1 g vc (.slice a6 (Pl.dataL xs k).length y6) (Pl.codeL ewI xs k) (Pl.dataL xs k)):=(HF.out.keep (below_alloc _ _)).keep hw1
 have k0:=HLN.out _ HR1.out 0
 simp only[List.getElem?_toArray,List.getElem?_cons_zero]at k0
 clear hI hw1 hrow
 go_upto_block 2 with fail
 refine fil_loop k g R false true (Pl.insA x (Pl.cu xs k).at 0) ai ni ci vc _ (Pl.codeL ewI xs k) (Pl.dataL xs k) w0 w1 HF1.out HI.out ((HE.out.keep (Below.trans (below_alloc Y _) (HW1.out.mono (by simp)))).r) hR (by simp;omega) hcl ?N ?X
 case X=>
  intros
  rename_i hany hrw hbe
  refine HXt.out _ _ _ _ _ _ _ _ _ _ _ _ _ _ _ _ _ _ _ _ _ _ _ _ _ _ _ _ _ _ _ _ _ _ _ _ _ _ _ _ _ _ _ _ _ _ _ _ _ _ _ _ _ _ _ _ _ _ _ _ _ _ _ _ _ _ _ _ _ _ _ _ _ _ _ _ _ _ _ _ _ _ _ _ _ _ _ _ _ _ _ _ _ _ _ _ _ _ _ _ _ _ _ _ _ _ _ _ _ _ _ _ _ _ _ _ _ _ _ _ _ _ _ _ _ _ _ _ _ _ _ _ _ _ ?_ hrw hbe
  rw[<- HFB.out,HIN.out]
  simpa [Pl.isJ,e3,e7,e8] using hany
 case N=>
  intro v5 v14 v15 v16 v71 v72 v73 v74 v75 v76 v77 v78 v79 v80 v81 v82 v83 v84 v85 v86 v87 v88 v89 v90 v91 v92 v93 v94 v95 v96 v97 v98 v99 v100 v101 u vc2 hany hs2 hby
  have HS2:Hid (FilS w0 u g vc2 (.slice a6 (Pl.dataL xs k).length y6) (Pl.codeL ewI xs (k+1)) (Pl.dataL xs k)):=by show FilS _ _ _ _ _ _ _;rw[HCS.out,HIN.out];exact hs2
  have HBJ:Hid (Pl.badJ xs k=false):=by
   show _=_
   rw[<- HFB.out,HIN.out]
   simpa [Pl.isJ,e3,e7,e8] using hany
  have HR2:Hid (u.heap[Y.heap.size]?=some (.cells #[.int .i64 x.k,.int .i64 x.op,.int .i64 x.rd,.int .i64 x.r1,.int .i64 x.r2,.int .i64 x.im,.string x.s,.int .i64 x.n] 51 (0,0))):=hby.block _ _ (by omega) HR1.out (fun c q=>by injection q with _ q2 _;exact absurd q2 (by decide))
  have l0:=HLN.out _ HR2.out 0;have l6:=HLN.out _ HR2.out 6
  simp only[List.getElem?_toArray,List.getElem?_cons_zero,List.getElem?_cons_succ]at l0 l6
  clear hany hs2 hby k0
  go_upto_region 25 with fail
  refine fil25 g Y.heap.size (Pl.dataL xs k).length _ x 0 a6 y6 (DatA w0 (Pl.dataL xs k)) u HS2.out.c1 (HLN.out _ HR2.out 0) (HLN.out _ HR2.out 1) (HLN.out _ HR2.out 2) (HLN.out _ HR2.out 3) (HLN.out _ HR2.out 4) (HLN.out _ HR2.out 5) (HLN.out _ HR2.out 6) (HLN.out _ HR2.out 7) (fun _ _ _ _ h1 h2=>DatA.old HS2.out h1 h2) (fun u3=>by have h5:=l4Count8_is x 0 HLB.out (by omega) u3;rw[HZ.out]at h5;exact h5) (fun u3 h3=>put_no (HS2.out.keep h3) x.n) ?_
  intro a2 y2 u3 u4 h3 h4
  have HFN:Hid (FilS w0 (u4.setCell ⟨g,1,none⟩ (.slice a2 (Pl.dataL xs k).length y2)) g vc2 (.slice a2 (Pl.dataL xs k).length y2) (Pl.codeL ewI xs (k+1)) (Pl.dataL xs (k+1))):=by show FilS _ _ _ _ _ _ _;rw[HDD.out];exact DatA.fin HS2.out h3 h4
  clear h3 h4
  go_wp2_with fail
  have hfn:=HFN.out
  exact HNt.out _ _ _ _ _ _ _ _ _ _ _ _ _ _ _ _ _ _ _ _ _ _ _ _ _ _ _ _ _ _ _ _ _ _ _ _ _ _ _ _ _ _ _ _ _ _ _ _ _ _ _ _ _ _ _ _ _ _ _ _ _ _ _ _ _ _ _ _ _ _ _ _ _ _ _ _ _ _ _ _ _ _ _ _ _ _ _ _ _ _ _ _ _ _ _ _ _ _ _ _ _ _ _ _ _ _ _ _ _ _ _ _ _ _ _ _ _ _ _ _ _ _ _ _ _ _ _ _ _ _ _ HBJ.out hfn
set_option maxRecDepth 100000 in
theorem fil_14s {lo:Nat} (xs:List Pl.Ln) (F R g k:Nat) (a:Option Addr) (len cap:Nat) (la:Option Addr) (ll lc:Nat) (aa:Option Addr) (ac:Nat) (vc vd:Value) {c1 c2 c5 c8 c9 c10 c11 c12 c13 c14 c15 c16 c17 c18 c19 c20 c21 c22 c23 c24 c25 c26 c27 c28 c29 c30 c31 c32 c33 c34 c35 c36 c37 c38 c39 c40 c41 c42 c43 c44 c45 c46 c47 c48 c49 c50 c51 c52 c53 c54 c55 c56 c57 c58 c59 c60 c61 c62 c63 c64 c65 c66 c67 c68 c69 c70 c71 c72 c73 c74 c75 c76 c77 c78 c79 c80 c81 c82 c83 c84 c85 c86 c87 c88 c89 c90 c91 c92 c93 c94 c95 c96 c97 c98 c99 c100 c101 c102 c103 c104 c105 c106 c107 c108 c109 c110 c111 c112 c113 c114 c115 c116 c117 c118 c119 c120 c121 c122 c123 c124 c125 c126 c127 c128 c129 c130 c131 c132 c133 c134 c135 c136 c137 c138 c139 c140 c141 c142 c143 c144:Value} (w0 Y:World) (hE:FilE lo xs Y F R a len cap la ll lc aa ac) (hF:FilS w0 Y g vc vd (Pl.codeL ewI xs k) (Pl.dataL xs k)) (hK:∀ i,i<xs.length->LnK (Pl.gl xs i)) (hS:∀ i,i<xs.length->Pl.stray xs i=false) (hL:Pl.lost xs k=false) (hk:k<len) (hn:len<=20000) (hR:R<w0.heap.size) (hq:(Pl.gl xs k).k=14/\¬ (Pl.gl xs k).s=⟨#[]⟩) {Q:Exit->Act->World->Prop}
  (hN:∀ (s5 s8 s9 s10 s11 s12 s13 s14 s15 s16 s26 s27 s28 s29 s30 s31 s32 s33 s34 s35 s36 s37 s38 s39 s40 s41 s42 s43 s44 s45 s46 s47 s48 s49 s50 s51 s52 s53 s54 s55 s56 s57 s58 s59 s60 s61 s62 s63 s64 s65 s66 s67 s68 s69 s70 s71 s72 s73 s74 s75 s76 s77 s78 s79 s80 s81 s82 s83 s84 s85 s86 s87 s88 s89 s90 s91 s92 s93 s94 s95 s96 s97 s98 s99 s100 s101 s102 s103 s104 s105 s106 s107 s108 s109 s110 s111 s112 s113 s114 s115 s116 s117 s118 s119 s120 s121 s122 s123 s124 s125 s126 s127 s128 s129 s130 s131 s132 s133 s134 s135 s136 s137 s138 s139 s140 s141 s142 s143:Value) (u:World) (vc' vd':Value),Pl.badJ xs k=false->FilS w0 u g vc' vd' (Pl.codeL ewI xs (k+1)) (Pl.dataL xs (k+1))->Q .normal { tmps:=#[.slice a len cap,c1,c2,.pointer (some ⟨F,0,none⟩),.pointer (some ⟨R,0,none⟩),s5,.pointer (some ⟨g,0,none⟩),.int .i64 (k:Nat),s8,s9,s10,s11,s12,s13,s14,s15,s16,c17,c18,c19,c20,c21,c22,c23,c24,c25,s26,s27,s28,s29,s30,s31,s32,s33,s34,s35,s36,s37,s38,s39,s40,s41,s42,s43,s44,s45,s46,s47,s48,s49,s50,s51,s52,s53,s54,s55,s56,s57,s58,s59,s60,s61,s62,s63,s64,s65,s66,s67,s68,s69,s70,s71,s72,s73,s74,s75,s76,s77,s78,s79,s80,s81,s82,s83,s84,s85,s86,s87,s88,s89,s90,s91,s92,s93,s94,s95,s96,s97,s98,s99,s100,s101,s102,s103,s104,s105,s106,s107,s108,s109,s110,s111,s112,s113,s114,s115,s116,s117,s118,s119,s120,s121,s122,s123,s124,s125,s126,s127,s128,s129,s130,s131,s132,s133,s134,s135,s136,s137,s138,s139,s140,s141,s142,s143,c144],defers:=[] } u)
  (hX:∀ (s8 s9 s10 s11 s12 s13 s14 s15 s16 s26 s27 s28 s29 s30 s31 s32 s33 s34 s35 s36 s37 s38 s39 s40 s41 s42 s43 s44 s45 s46 s47 s48 s49 s50 s51 s52 s53 s54 s55 s56 s57 s58 s59 s60 s61 s62 s63 s64 s65 s66 s67 s68 s69 s70 s71 s72 s73 s74 s75 s76 s77 s78 s79 s80 s81 s82 s83 s84 s85 s86 s87 s88 s89 s90 s91 s92 s93 s94 s95 s96 s97 s98 s99 s100 s101 s102 s103 s104 s105 s106 s107 s108 s109 s110 s111 s112 s113 s114 s115 s116 s117 s118 s119 s120 s121 s122 s123 s124 s125 s126 s127 s128 s129 s130 s131 s132 s133 s134 s135 s136 s137 s138 s139 s140 s141 s142 s143:Value) (u:World) (a9:Option Addr) (n9 y9:Nat) (b9:Option Addr) (m9 z9:Nat),Pl.badJ xs k=true->u.heap[R]?=some (.cells #[.slice a9 n9 y9,.slice b9 m9 z9,.int .i64 0,.int .i64 0] 28 (0,0))->Below R w0 u->Q .ret { tmps:=#[.slice a len cap,c1,c2,.pointer (some ⟨F,0,none⟩),.pointer (some ⟨R,0,none⟩),.int .i64 (k:Nat),.pointer (some ⟨g,0,none⟩),.int .i64 (k:Nat),s8,s9,s10,s11,s12,s13,s14,s15,s16,c17,c18,c19,c20,c21,c22,c23,c24,c25,s26,s27,s28,s29,s30,s31,s32,s33,s34,s35,s36,s37,s38,s39,s40,s41,s42,s43,s44,s45,s46,s47,s48,s49,s50,s51,s52,s53,s54,s55,s56,s57,s58,s59,s60,s61,s62,s63,s64,s65,s66,s67,s68,s69,s70,s71,s72,s73,s74,s75,s76,s77,s78,s79,s80,s81,s82,s83,s84,s85,s86,s87,s88,s89,s90,s91,s92,s93,s94,s95,s96,s97,s98,s99,s100,s101,s102,s103,s104,s105,s106,s107,s108,s109,s110,s111,s112,s113,s114,s115,s116,s117,s118,s119,s120,s121,s122,s123,s124,s125,s126,s127,s128,s129,s130,s131,s132,s133,s134,s135,s136,s137,s138,s139,s140,s141,s142,s143,c144],defers:=[] } u) :
  (filB 1).wp Tryz.prog Q { tmps:=#[.slice a len cap,c1,c2,.pointer (some ⟨F,0,none⟩),.pointer (some ⟨R,0,none⟩),c5,.pointer (some ⟨g,0,none⟩),.int .i64 (k:Nat),c8,c9,c10,c11,c12,c13,c14,c15,c16,c17,c18,c19,c20,c21,c22,c23,c24,c25,c26,c27,c28,c29,c30,c31,c32,c33,c34,c35,c36,c37,c38,c39,c40,c41,c42,c43,c44,c45,c46,c47,c48,c49,c50,c51,c52,c53,c54,c55,c56,c57,c58,c59,c60,c61,c62,c63,c64,c65,c66,c67,c68,c69,c70,c71,c72,c73,c74,c75,c76,c77,c78,c79,c80,c81,c82,c83,c84,c85,c86,c87,c88,c89,c90,c91,c92,c93,c94,c95,c96,c97,c98,c99,c100,c101,c102,c103,c104,c105,c106,c107,c108,c109,c110,c111,c112,c113,c114,c115,c116,c117,c118,c119,c120,c121,c122,c123,c124,c125,c126,c127,c128,c129,c130,c131,c132,c133,c134,c135,c136,c137,c138,c139,c140,c141,c142,c143,c144],defers:=[] } Y:=by
 have HNt:Hid (∀ (s5 s8 s9 s10 s11 s12 s13 s14 s15 s16 s26 s27 s28 s29 s30 s31 s32 s33 s34 s35 s36 s37 s38 s39 s40 s41 s42 s43 s44 s45 s46 s47 s48 s49 s50 s51 s52 s53 s54 s55 s56 s57 s58 s59 s60 s61 s62 s63 s64 s65 s66 s67 s68 s69 s70 s71 s72 s73 s74 s75 s76 s77 s78 s79 s80 s81 s82 s83 s84 s85 s86 s87 s88 s89 s90 s91 s92 s93 s94 s95 s96 s97 s98 s99 s100 s101 s102 s103 s104 s105 s106 s107 s108 s109 s110 s111 s112 s113 s114 s115 s116 s117 s118 s119 s120 s121 s122 s123 s124 s125 s126 s127 s128 s129 s130 s131 s132 s133 s134 s135 s136 s137 s138 s139 s140 s141 s142 s143:Value) (u:World) (vc' vd':Value),Pl.badJ xs k=false->FilS w0 u g vc' vd' (Pl.codeL ewI xs (k+1)) (Pl.dataL xs (k+1))->Q .normal { tmps:=#[.slice a len cap,c1,c2,.pointer (some ⟨F,0,none⟩),.pointer (some ⟨R,0,none⟩),s5,.pointer (some ⟨g,0,none⟩),.int .i64 (k:Nat),s8,s9,s10,s11,s12,s13,s14,s15,s16,c17,c18,c19,c20,c21,c22,c23,c24,c25,s26,s27,s28,s29,s30,s31,s32,s33,s34,s35,s36,s37,s38,s39,s40,s41,s42,s43,s44,s45,s46,s47,s48,s49,s50,s51,s52,s53,s54,s55,s56,s57,s58,s59,s60,s61,s62,s63,s64,s65,s66,s67,s68,s69,s70,s71,s72,s73,s74,s75,s76,s77,s78,s79,s80,s81,s82,s83,s84,s85,s86,s87,s88,s89,s90,s91,s92,s93,s94,s95,s96,s97,s98,s99,s100,s101,s102,s103,s104,s105,s106,s107,s108,s109,s110,s111,s112,s113,s114,s115,s116,s117,s118,s119,s120,s121,s122,s123,s124,s125,s126,s127,s128,s129,s130,s131,s132,s133,s134,s135,s136,s137,s138,s139,s140,s141,s142,s143,c144],defers:=[] } u):=hN
 have HXt:Hid (∀ (s8 s9 s10 s11 s12 s13 s14 s15 s16 s26 s27 s28 s29 s30 s31 s32 s33 s34 s35 s36 s37 s38 s39 s40 s41 s42 s43 s44 s45 s46 s47 s48 s49 s50 s51 s52 s53 s54 s55 s56 s57 s58 s59 s60 s61 s62 s63 s64 s65 s66 s67 s68 s69 s70 s71 s72 s73 s74 s75 s76 s77 s78 s79 s80 s81 s82 s83 s84 s85 s86 s87 s88 s89 s90 s91 s92 s93 s94 s95 s96 s97 s98 s99 s100 s101 s102 s103 s104 s105 s106 s107 s108 s109 s110 s111 s112 s113 s114 s115 s116 s117 s118 s119 s120 s121 s122 s123 s124 s125 s126 s127 s128 s129 s130 s131 s132 s133 s134 s135 s136 s137 s138 s139 s140 s141 s142 s143:Value) (u:World) (a9:Option Addr) (n9 y9:Nat) (b9:Option Addr) (m9 z9:Nat),Pl.badJ xs k=true->u.heap[R]?=some (.cells #[.slice a9 n9 y9,.slice b9 m9 z9,.int .i64 0,.int .i64 0] 28 (0,0))->Below R w0 u->Q .ret { tmps:=#[.slice a len cap,c1,c2,.pointer (some ⟨F,0,none⟩),.pointer (some ⟨R,0,none⟩),.int .i64 (k:Nat),.pointer (some ⟨g,0,none⟩),.int .i64 (k:Nat),s8,s9,s10,s11,s12,s13,s14,s15,s16,c17,c18,c19,c20,c21,c22,c23,c24,c25,s26,s27,s28,s29,s30,s31,s32,s33,s34,s35,s36,s37,s38,s39,s40,s41,s42,s43,s44,s45,s46,s47,s48,s49,s50,s51,s52,s53,s54,s55,s56,s57,s58,s59,s60,s61,s62,s63,s64,s65,s66,s67,s68,s69,s70,s71,s72,s73,s74,s75,s76,s77,s78,s79,s80,s81,s82,s83,s84,s85,s86,s87,s88,s89,s90,s91,s92,s93,s94,s95,s96,s97,s98,s99,s100,s101,s102,s103,s104,s105,s106,s107,s108,s109,s110,s111,s112,s113,s114,s115,s116,s117,s118,s119,s120,s121,s122,s123,s124,s125,s126,s127,s128,s129,s130,s131,s132,s133,s134,s135,s136,s137,s138,s139,s140,s141,s142,s143,c144],defers:=[] } u):=hX
 have HE:Hid (FilE lo xs Y F R a len cap la ll lc aa ac):=hE
 have hxl:xs.length=len:=hE.ln.len.1
 have HXL:Hid (xs.length=len):=hxl
 have hK1:=hK k (by omega)
 have HKn:Hid (LnK (Pl.gl xs k)):=hK1
 obtain⟨a6,y6,hv6⟩:=own_slice hF.od
 subst hv6
 have HF:Hid (FilS w0 Y g vc (.slice a6 (Pl.dataL xs k).length y6) (Pl.codeL ewI xs k) (Pl.dataL xs k)):=hF
 have HFB:Hid ((Pl.ins xs k).any (fun y=>!y.ok || (Pl.isJ (Pl.gl xs k).k && Pl.inD xs (Pl.gl xs k).s))=Pl.badJ xs k):=Pl.fill_bad xs k hK1.i
 have HIN:Hid (Pl.ins xs k=Pl.insA (Pl.gl xs k) (Pl.cu xs k).at (Pl.adr xs (Pl.gl xs k).s)):=rfl
 have hadr:=adr_bd hK (by omega) (Pl.gl xs k).s
 have hatb:=at_bd hK (by omega) (k:=k) (by omega)
 have HCS:Hid (Pl.codeL ewI xs (k+1)=Pl.codeL ewI xs k ++ (Pl.ins xs k).map ewI):=Pl.codeL_succ _ _ _
 have HDS:Hid (Pl.dataL xs (k+1)=Pl.dataL xs k ++ Pl.dat xs k):=Pl.dataL_succ _ _
 have hlen2:=Pl.laid_len ewI xs (fun i hi=>(hK i hi).b) hS k (by omega)
 have hcb:=Pl.cu_bd xs (fun i hi=>(hK i hi).b) k (by omega)
 have hcl:(Pl.codeL ewI xs k).length<=100000:=by omega
 have hdl:(Pl.dataL xs k).length<=1310720000:=by omega
 have HB0:Hid (((Pl.dataL xs k).length:Int)=(Pl.cu xs k).b):=hlen2.2
 have hg0:=hF.hg
 have hgY:g<Y.heap.size:=hF.lt
 have hsn:¬ (Pl.gl xs k).s=⟨#[]⟩:=hq.2
 have hlb:Pl.lb xs (Pl.gl xs k).s≠none:=fun c=>by
  have:=hL
  unfold Pl.lost at this
  rw[c]at this
  simp[hsn]at this
 obtain⟨p,bl,ol,hla,hp,hwh,ca,cd,hbl⟩:=hE.sym hlb
 subst hla
 have HW:Hid (∀ u,Below Y.heap.size Y u->Calls Tryz.prog 26 #[.slice (some ⟨bl,ol,none⟩) ll lc,.string (Pl.gl xs k).s] u fun e w'=>e=.returned (.int .i64 (p:Nat))/\w'=u):=fun u hu=>by rw[<- hwh];exact l4Where_is _ _ _ xs _ _ u (HE.out.keep hu).lb
 have HCA:Hid (∀ u,Below Y.heap.size Y u->u.cell? ⟨bl,ol+p*4+2,none⟩=some (.int .i64 (Pl.adr xs (Pl.gl xs k).s))/\u.cell? ⟨bl,ol+p*4+3,none⟩=some (.bool (!Pl.inD xs (Pl.gl xs k).s))):=fun u hu=>⟨below_cell hu ca,below_cell hu cd⟩
 have hpl:(p:Int)<(ll:Int):=by omega
 have hll:(ll:Int)<=20000:=by
  have h1:=hE.lb.1
  have h2:(Pl.lbs xs xs.length).length<=xs.length:=by unfold Pl.lbs;refine Nat.le_trans (List.length_filter_le _ _) (by simp)
  omega
 have se:(Pl.gl xs k).s.toList.isEmpty=false:=by rw[<- Pl.str_nil];simpa using hsn
 clear hwh
 have HDD:Hid (Pl.dataL xs (k+1)=Pl.dataL xs k ++ Pl.bys (Pl.wd (Pl.adr xs (Pl.gl xs k).s+(Pl.gl xs k).n)) 4):=by show _=_;rw[HDS.out,Pl.dat_sym xs k hq.1 hsn]
 have hxn:=hK1.far (.inr ⟨hq.1,fun c=>hsn (size_nil c)⟩)
 have hwd:=Pl.wd_rng (Pl.adr xs (Pl.gl xs k).s+(Pl.gl xs k).n)
 have HIS:Hid (∀ u,InsSaid (Pl.gl xs k) (Pl.cu xs k).at (Pl.adr xs (Pl.gl xs k).s) u):=fun u=>l4Insts_is _ _ _ u hK1.b.k (by omega) (by omega) hK1.i.w4 (fun q=>by have:=hK1.far (.inl q);omega)
 have hat:=hE.ats hk
 obtain⟨ba,oa,haa,hba,cat⟩:=hat
 subst haa
 obtain⟨b0,off,haL,hlo,hb1,hsz,z0,z1,z2,z3,z4,z5,z6,z7⟩:=hE.ln.at k hk
 subst haL
 have hi:(k:Int)<(len:Int):=by omega
 have HLB:Hid (Pl.LnB (Pl.gl xs k)):=hK1.b
 have hf0:=hE.f0
 have hF0:F<Y.heap.size:=block_lt_of_cell hf0
 clear hE hF hN hX hK hS hL hK1 hlen2 hcb hsz
 conv=>arg 2;whnf
 dsimp only
 generalize hx:Pl.gl xs k=x at *
 have HXE:Hid (Pl.gl xs k=x):=hx
 clear hx
 have hkk:x.k=14:=hq.1
 have HKK:Hid (x.k=14):=hkk
 rw[hkk]at z0
 clear hq hkk
 have c8a:=(HCA.out (Y.alloc (.cells #[.int .i64 14,.int .i64 x.op,.int .i64 x.rd,.int .i64 x.r1,.int .i64 x.r2,.int .i64 x.im,.string x.s,.int .i64 x.n] 51)) (below_alloc _ _)).1
 have c8d:=(HCA.out (Y.alloc (.cells #[.int .i64 14,.int .i64 x.op,.int .i64 x.rd,.int .i64 x.r1,.int .i64 x.r2,.int .i64 x.im,.string x.s,.int .i64 x.n] 51)) (below_alloc _ _)).2
 have hf0':(Y.alloc (.cells #[.int .i64 14,.int .i64 x.op,.int .i64 x.rd,.int .i64 x.r1,.int .i64 x.r2,.int .i64 x.im,.string x.s,.int .i64 x.n] 51)).cell? ⟨F,0,none⟩=some (.slice (some ⟨bl,ol,none⟩) ll lc):=below_cell (below_alloc _ _) hf0
 go_upto_region 12 with (go_at_call 26;refine (HW.out _ (below_alloc _ _)).mono ?_;rintro e u9 ⟨rfl,rfl⟩)
 have hrow:(Y.alloc (.cells #[.int .i64 14,.int .i64 x.op,.int .i64 x.rd,.int .i64 x.r1,.int .i64 x.r2,.int .i64 x.im,.string x.s,.int .i64 x.n] 51)).heap[Y.heap.size]?=some (.cells #[.int .i64 14,.int .i64 x.op,.int .i64 x.rd,.int .i64 x.r1,.int .i64 x.r2,.int .i64 x.im,.string x.s,.int .i64 x.n] 51 (0,0)):=heap_alloc_new Y _
 have HLN:Hid (∀ w1:World,w1.heap[Y.heap.size]?=some (.cells #[.int .i64 14,.int .i64 x.op,.int .i64 x.rd,.int .i64 x.r1,.int .i64 x.r2,.int .i64 x.im,.string x.s,.int .i64 x.n] 51 (0,0))->∀ j,w1.cell? ⟨Y.heap.size,j,none⟩=(#[.int .i64 14,.int .i64 x.op,.int .i64 x.rd,.int .i64 x.r1,.int .i64 x.r2,.int .i64 x.im,.string x.s,.int .i64 x.n]:Array Value)[j]?):=fun w1 hw1 j=>cell_of_row _ _ j _ 51 (0,0) hw1
 have HRW:Hid ((Y.alloc (.cells #[.int .i64 14,.int .i64 x.op,.int .i64 x.rd,.int .i64 x.r1,.int .i64 x.r2,.int .i64 x.im,.string x.s,.int .i64 x.n] 51)).heap[Y.heap.size]?=some (.cells #[.int .i64 14,.int .i64 x.op,.int .i64 x.rd,.int .i64 x.r1,.int .i64 x.r2,.int .i64 x.im,.string x.s,.int .i64 x.n] 51 (0,0))):=hrow
 refine fil12 F Y.heap.size k ba oa len ac x (Pl.cu xs k).at (Pl.adr xs x.s) (Y.alloc (.cells #[.int .i64 14,.int .i64 x.op,.int .i64 x.rd,.int .i64 x.r1,.int .i64 x.r2,.int .i64 x.im,.string x.s,.int .i64 x.n] 51)) (below_cell (below_alloc _ _) HE.out.f1) hk hn (below_cell (below_alloc _ _) cat) (by rw[HKK.out];exact HLN.out _ HRW.out 0) (HLN.out _ HRW.out 1) (HLN.out _ HRW.out 2) (HLN.out _ HRW.out 3) (HLN.out _ HRW.out 4) (HLN.out _ HRW.out 5) (HLN.out _ HRW.out 6) (HLN.out _ HRW.out 7) (HIS.out _) ?_
 intro ai ni ci w1 hI hw1
 have HI:Hid (InsRow (Y.alloc (.cells #[.int .i64 14,.int .i64 x.op,.int .i64 x.rd,.int .i64 x.r1,.int .i64 x.r2,.int .i64 x.im,.string x.s,.int .i64 x.n] 51)).heap.size w1 ai ni (Pl.insA x (Pl.cu xs k).at (Pl.adr xs x.s))):=hI
 have HW1:Hid (Below (Y.alloc (.cells #[.int .i64 14,.int .i64 x.op,.int .i64 x.rd,.int .i64 x.r1,.int .i64 x.r2,.int .i64 x.im,.string x.s,.int .i64 x.n] 51)).heap.size (Y.alloc (.cells #[.int .i64 14,.int .i64 x.op,.int .i64 x.rd,.int .i64 x.r1,.int .i64 x.r2,.int .i64 x.im,.string x.s,.int .i64 x.n] 51)) w1):=hw1
 have HR1:Hid (w1.heap[Y.heap.size]?=some (.cells #[.int .i64 14,.int .i64 x.op,.int .i64 x.rd,.int .i64 x.r1,.int .i64 x.r2,.int .i64 x.im,.string x.s,.int .i64 x.n] 51 (0,0))):=(hw1.block Y.heap.size (by simp)).trans hrow
 have HF1:Hid (FilS w0 w1 g vc (.slice a6 (Pl.dataL xs k).length y6) (Pl.codeL ewI xs k) (Pl.dataL xs k)):=(HF.out.keep (below_alloc _ _)).keep hw1
 have k0:=HLN.out _ HR1.out 0
 simp only[List.getElem?_toArray,List.getElem?_cons_zero]at k0
 clear hI hw1 hrow
 go_upto_block 2 with fail
 refine fil_loop k g R false (!Pl.inD xs x.s) (Pl.insA x (Pl.cu xs k).at (Pl.adr xs x.s)) ai ni ci vc _ (Pl.codeL ewI xs k) (Pl.dataL xs k) w0 w1 HF1.out HI.out ((HE.out.keep (Below.trans (below_alloc Y _) (HW1.out.mono (by simp)))).r) hR (by simp;omega) hcl ?N ?X
 case X=>
  intros
  rename_i hany hrw hbe
  refine HXt.out _ _ _ _ _ _ _ _ _ _ _ _ _ _ _ _ _ _ _ _ _ _ _ _ _ _ _ _ _ _ _ _ _ _ _ _ _ _ _ _ _ _ _ _ _ _ _ _ _ _ _ _ _ _ _ _ _ _ _ _ _ _ _ _ _ _ _ _ _ _ _ _ _ _ _ _ _ _ _ _ _ _ _ _ _ _ _ _ _ _ _ _ _ _ _ _ _ _ _ _ _ _ _ _ _ _ _ _ _ _ _ _ _ _ _ _ _ _ _ _ _ _ _ _ _ _ _ _ _ _ _ _ _ _ ?_ hrw hbe
  rw[<- HFB.out,HIN.out]
  simpa [Pl.isJ,HKK.out] using hany
 case N=>
  intro v5 v14 v15 v16 v71 v72 v73 v74 v75 v76 v77 v78 v79 v80 v81 v82 v83 v84 v85 v86 v87 v88 v89 v90 v91 v92 v93 v94 v95 v96 v97 v98 v99 v100 v101 u vc2 hany hs2 hby
  have HS2:Hid (FilS w0 u g vc2 (.slice a6 (Pl.dataL xs k).length y6) (Pl.codeL ewI xs (k+1)) (Pl.dataL xs k)):=by show FilS _ _ _ _ _ _ _;rw[HCS.out,HIN.out];exact hs2
  have HBJ:Hid (Pl.badJ xs k=false):=by
   show _=_
   rw[<- HFB.out,HIN.out]
   simpa [Pl.isJ,HKK.out] using hany
  have HR2:Hid (u.heap[Y.heap.size]?=some (.cells #[.int .i64 14,.int .i64 x.op,.int .i64 x.rd,.int .i64 x.r1,.int .i64 x.r2,.int .i64 x.im,.string x.s,.int .i64 x.n] 51 (0,0))):=hby.block _ _ (by omega) HR1.out (fun c q=>by injection q with _ q2 _;exact absurd q2 (by decide))
  have l0:=HLN.out _ HR2.out 0;have l6:=HLN.out _ HR2.out 6
  simp only[List.getElem?_toArray,List.getElem?_cons_zero,List.getElem?_cons_succ]at l0 l6
  clear hany hs2 hby k0
  go_upto_region 22 with fail
  refine fil22 g Y.heap.size ((Pl.dataL xs k) ++ Pl.bys (Pl.wd (Pl.adr xs x.s+x.n)) 4).length x (Pl.adr xs x.s) (Pl.wd (Pl.adr xs x.s+x.n)) _ (DatA w0 ((Pl.dataL xs k) ++ Pl.bys (Pl.wd (Pl.adr xs x.s+x.n)) 4) u.drew) u HS2.out.c1 (HLN.out _ HR2.out 7) (fun _ _ _ h2=>DatA.old HS2.out (Below.drew (Below.refl _ _)) h2) (fun u3=>specWord_any _ u3) (put_A (HS2.out.keep (Below.drew (Below.refl _ _))) _ 4 (by omega) (by omega) (by omega)) (by omega) ?_
  intro a2 y2 u4 h4
  have HFN:Hid (FilS w0 (u4.setCell ⟨g,1,none⟩ (.slice a2 ((Pl.dataL xs k) ++ Pl.bys (Pl.wd (Pl.adr xs x.s+x.n)) 4).length y2)) g vc2 (.slice a2 ((Pl.dataL xs k) ++ Pl.bys (Pl.wd (Pl.adr xs x.s+x.n)) 4).length y2) (Pl.codeL ewI xs (k+1)) (Pl.dataL xs (k+1))):=by show FilS _ _ _ _ _ _ _;rw[HDD.out];exact DatA.fin HS2.out (Below.drew (Below.refl _ _)) h4
  clear h4
  go_wp2_with fail
  have hfn:=HFN.out
  exact HNt.out _ _ _ _ _ _ _ _ _ _ _ _ _ _ _ _ _ _ _ _ _ _ _ _ _ _ _ _ _ _ _ _ _ _ _ _ _ _ _ _ _ _ _ _ _ _ _ _ _ _ _ _ _ _ _ _ _ _ _ _ _ _ _ _ _ _ _ _ _ _ _ _ _ _ _ _ _ _ _ _ _ _ _ _ _ _ _ _ _ _ _ _ _ _ _ _ _ _ _ _ _ _ _ _ _ _ _ _ _ _ _ _ _ _ _ _ _ _ _ _ _ _ _ _ _ _ _ _ _ _ _ HBJ.out hfn
set_option maxRecDepth 100000 in
theorem fil_12 {lo:Nat} (xs:List Pl.Ln) (F R g k:Nat) (a:Option Addr) (len cap:Nat) (la:Option Addr) (ll lc:Nat) (aa:Option Addr) (ac:Nat) (vc vd:Value) {c1 c2 c5 c8 c9 c10 c11 c12 c13 c14 c15 c16 c17 c18 c19 c20 c21 c22 c23 c24 c25 c26 c27 c28 c29 c30 c31 c32 c33 c34 c35 c36 c37 c38 c39 c40 c41 c42 c43 c44 c45 c46 c47 c48 c49 c50 c51 c52 c53 c54 c55 c56 c57 c58 c59 c60 c61 c62 c63 c64 c65 c66 c67 c68 c69 c70 c71 c72 c73 c74 c75 c76 c77 c78 c79 c80 c81 c82 c83 c84 c85 c86 c87 c88 c89 c90 c91 c92 c93 c94 c95 c96 c97 c98 c99 c100 c101 c102 c103 c104 c105 c106 c107 c108 c109 c110 c111 c112 c113 c114 c115 c116 c117 c118 c119 c120 c121 c122 c123 c124 c125 c126 c127 c128 c129 c130 c131 c132 c133 c134 c135 c136 c137 c138 c139 c140 c141 c142 c143 c144:Value} (w0 Y:World) (hE:FilE lo xs Y F R a len cap la ll lc aa ac) (hF:FilS w0 Y g vc vd (Pl.codeL ewI xs k) (Pl.dataL xs k)) (hK:∀ i,i<xs.length->LnK (Pl.gl xs i)) (hS:∀ i,i<xs.length->Pl.stray xs i=false) (hL:Pl.lost xs k=false) (hk:k<len) (hn:len<=20000) (hR:R<w0.heap.size) (hq:(Pl.gl xs k).k=12/\(Pl.gl xs k).s=⟨#[]⟩) {Q:Exit->Act->World->Prop}
  (hN:∀ (s5 s8 s9 s10 s11 s12 s13 s14 s15 s16 s26 s27 s28 s29 s30 s31 s32 s33 s34 s35 s36 s37 s38 s39 s40 s41 s42 s43 s44 s45 s46 s47 s48 s49 s50 s51 s52 s53 s54 s55 s56 s57 s58 s59 s60 s61 s62 s63 s64 s65 s66 s67 s68 s69 s70 s71 s72 s73 s74 s75 s76 s77 s78 s79 s80 s81 s82 s83 s84 s85 s86 s87 s88 s89 s90 s91 s92 s93 s94 s95 s96 s97 s98 s99 s100 s101 s102 s103 s104 s105 s106 s107 s108 s109 s110 s111 s112 s113 s114 s115 s116 s117 s118 s119 s120 s121 s122 s123 s124 s125 s126 s127 s128 s129 s130 s131 s132 s133 s134 s135 s136 s137 s138 s139 s140 s141 s142 s143:Value) (u:World) (vc' vd':Value),Pl.badJ xs k=false->FilS w0 u g vc' vd' (Pl.codeL ewI xs (k+1)) (Pl.dataL xs (k+1))->Q .normal { tmps:=#[.slice a len cap,c1,c2,.pointer (some ⟨F,0,none⟩),.pointer (some ⟨R,0,none⟩),s5,.pointer (some ⟨g,0,none⟩),.int .i64 (k:Nat),s8,s9,s10,s11,s12,s13,s14,s15,s16,c17,c18,c19,c20,c21,c22,c23,c24,c25,s26,s27,s28,s29,s30,s31,s32,s33,s34,s35,s36,s37,s38,s39,s40,s41,s42,s43,s44,s45,s46,s47,s48,s49,s50,s51,s52,s53,s54,s55,s56,s57,s58,s59,s60,s61,s62,s63,s64,s65,s66,s67,s68,s69,s70,s71,s72,s73,s74,s75,s76,s77,s78,s79,s80,s81,s82,s83,s84,s85,s86,s87,s88,s89,s90,s91,s92,s93,s94,s95,s96,s97,s98,s99,s100,s101,s102,s103,s104,s105,s106,s107,s108,s109,s110,s111,s112,s113,s114,s115,s116,s117,s118,s119,s120,s121,s122,s123,s124,s125,s126,s127,s128,s129,s130,s131,s132,s133,s134,s135,s136,s137,s138,s139,s140,s141,s142,s143,c144],defers:=[] } u)
  (hX:∀ (s8 s9 s10 s11 s12 s13 s14 s15 s16 s26 s27 s28 s29 s30 s31 s32 s33 s34 s35 s36 s37 s38 s39 s40 s41 s42 s43 s44 s45 s46 s47 s48 s49 s50 s51 s52 s53 s54 s55 s56 s57 s58 s59 s60 s61 s62 s63 s64 s65 s66 s67 s68 s69 s70 s71 s72 s73 s74 s75 s76 s77 s78 s79 s80 s81 s82 s83 s84 s85 s86 s87 s88 s89 s90 s91 s92 s93 s94 s95 s96 s97 s98 s99 s100 s101 s102 s103 s104 s105 s106 s107 s108 s109 s110 s111 s112 s113 s114 s115 s116 s117 s118 s119 s120 s121 s122 s123 s124 s125 s126 s127 s128 s129 s130 s131 s132 s133 s134 s135 s136 s137 s138 s139 s140 s141 s142 s143:Value) (u:World) (a9:Option Addr) (n9 y9:Nat) (b9:Option Addr) (m9 z9:Nat),Pl.badJ xs k=true->u.heap[R]?=some (.cells #[.slice a9 n9 y9,.slice b9 m9 z9,.int .i64 0,.int .i64 0] 28 (0,0))->Below R w0 u->Q .ret { tmps:=#[.slice a len cap,c1,c2,.pointer (some ⟨F,0,none⟩),.pointer (some ⟨R,0,none⟩),.int .i64 (k:Nat),.pointer (some ⟨g,0,none⟩),.int .i64 (k:Nat),s8,s9,s10,s11,s12,s13,s14,s15,s16,c17,c18,c19,c20,c21,c22,c23,c24,c25,s26,s27,s28,s29,s30,s31,s32,s33,s34,s35,s36,s37,s38,s39,s40,s41,s42,s43,s44,s45,s46,s47,s48,s49,s50,s51,s52,s53,s54,s55,s56,s57,s58,s59,s60,s61,s62,s63,s64,s65,s66,s67,s68,s69,s70,s71,s72,s73,s74,s75,s76,s77,s78,s79,s80,s81,s82,s83,s84,s85,s86,s87,s88,s89,s90,s91,s92,s93,s94,s95,s96,s97,s98,s99,s100,s101,s102,s103,s104,s105,s106,s107,s108,s109,s110,s111,s112,s113,s114,s115,s116,s117,s118,s119,s120,s121,s122,s123,s124,s125,s126,s127,s128,s129,s130,s131,s132,s133,s134,s135,s136,s137,s138,s139,s140,s141,s142,s143,c144],defers:=[] } u) :
  (filB 1).wp Tryz.prog Q { tmps:=#[.slice a len cap,c1,c2,.pointer (some ⟨F,0,none⟩),.pointer (some ⟨R,0,none⟩),c5,.pointer (some ⟨g,0,none⟩),.int .i64 (k:Nat),c8,c9,c10,c11,c12,c13,c14,c15,c16,c17,c18,c19,c20,c21,c22,c23,c24,c25,c26,c27,c28,c29,c30,c31,c32,c33,c34,c35,c36,c37,c38,c39,c40,c41,c42,c43,c44,c45,c46,c47,c48,c49,c50,c51,c52,c53,c54,c55,c56,c57,c58,c59,c60,c61,c62,c63,c64,c65,c66,c67,c68,c69,c70,c71,c72,c73,c74,c75,c76,c77,c78,c79,c80,c81,c82,c83,c84,c85,c86,c87,c88,c89,c90,c91,c92,c93,c94,c95,c96,c97,c98,c99,c100,c101,c102,c103,c104,c105,c106,c107,c108,c109,c110,c111,c112,c113,c114,c115,c116,c117,c118,c119,c120,c121,c122,c123,c124,c125,c126,c127,c128,c129,c130,c131,c132,c133,c134,c135,c136,c137,c138,c139,c140,c141,c142,c143,c144],defers:=[] } Y:=by
 have HNt:Hid (∀ (s5 s8 s9 s10 s11 s12 s13 s14 s15 s16 s26 s27 s28 s29 s30 s31 s32 s33 s34 s35 s36 s37 s38 s39 s40 s41 s42 s43 s44 s45 s46 s47 s48 s49 s50 s51 s52 s53 s54 s55 s56 s57 s58 s59 s60 s61 s62 s63 s64 s65 s66 s67 s68 s69 s70 s71 s72 s73 s74 s75 s76 s77 s78 s79 s80 s81 s82 s83 s84 s85 s86 s87 s88 s89 s90 s91 s92 s93 s94 s95 s96 s97 s98 s99 s100 s101 s102 s103 s104 s105 s106 s107 s108 s109 s110 s111 s112 s113 s114 s115 s116 s117 s118 s119 s120 s121 s122 s123 s124 s125 s126 s127 s128 s129 s130 s131 s132 s133 s134 s135 s136 s137 s138 s139 s140 s141 s142 s143:Value) (u:World) (vc' vd':Value),Pl.badJ xs k=false->FilS w0 u g vc' vd' (Pl.codeL ewI xs (k+1)) (Pl.dataL xs (k+1))->Q .normal { tmps:=#[.slice a len cap,c1,c2,.pointer (some ⟨F,0,none⟩),.pointer (some ⟨R,0,none⟩),s5,.pointer (some ⟨g,0,none⟩),.int .i64 (k:Nat),s8,s9,s10,s11,s12,s13,s14,s15,s16,c17,c18,c19,c20,c21,c22,c23,c24,c25,s26,s27,s28,s29,s30,s31,s32,s33,s34,s35,s36,s37,s38,s39,s40,s41,s42,s43,s44,s45,s46,s47,s48,s49,s50,s51,s52,s53,s54,s55,s56,s57,s58,s59,s60,s61,s62,s63,s64,s65,s66,s67,s68,s69,s70,s71,s72,s73,s74,s75,s76,s77,s78,s79,s80,s81,s82,s83,s84,s85,s86,s87,s88,s89,s90,s91,s92,s93,s94,s95,s96,s97,s98,s99,s100,s101,s102,s103,s104,s105,s106,s107,s108,s109,s110,s111,s112,s113,s114,s115,s116,s117,s118,s119,s120,s121,s122,s123,s124,s125,s126,s127,s128,s129,s130,s131,s132,s133,s134,s135,s136,s137,s138,s139,s140,s141,s142,s143,c144],defers:=[] } u):=hN
 have HXt:Hid (∀ (s8 s9 s10 s11 s12 s13 s14 s15 s16 s26 s27 s28 s29 s30 s31 s32 s33 s34 s35 s36 s37 s38 s39 s40 s41 s42 s43 s44 s45 s46 s47 s48 s49 s50 s51 s52 s53 s54 s55 s56 s57 s58 s59 s60 s61 s62 s63 s64 s65 s66 s67 s68 s69 s70 s71 s72 s73 s74 s75 s76 s77 s78 s79 s80 s81 s82 s83 s84 s85 s86 s87 s88 s89 s90 s91 s92 s93 s94 s95 s96 s97 s98 s99 s100 s101 s102 s103 s104 s105 s106 s107 s108 s109 s110 s111 s112 s113 s114 s115 s116 s117 s118 s119 s120 s121 s122 s123 s124 s125 s126 s127 s128 s129 s130 s131 s132 s133 s134 s135 s136 s137 s138 s139 s140 s141 s142 s143:Value) (u:World) (a9:Option Addr) (n9 y9:Nat) (b9:Option Addr) (m9 z9:Nat),Pl.badJ xs k=true->u.heap[R]?=some (.cells #[.slice a9 n9 y9,.slice b9 m9 z9,.int .i64 0,.int .i64 0] 28 (0,0))->Below R w0 u->Q .ret { tmps:=#[.slice a len cap,c1,c2,.pointer (some ⟨F,0,none⟩),.pointer (some ⟨R,0,none⟩),.int .i64 (k:Nat),.pointer (some ⟨g,0,none⟩),.int .i64 (k:Nat),s8,s9,s10,s11,s12,s13,s14,s15,s16,c17,c18,c19,c20,c21,c22,c23,c24,c25,s26,s27,s28,s29,s30,s31,s32,s33,s34,s35,s36,s37,s38,s39,s40,s41,s42,s43,s44,s45,s46,s47,s48,s49,s50,s51,s52,s53,s54,s55,s56,s57,s58,s59,s60,s61,s62,s63,s64,s65,s66,s67,s68,s69,s70,s71,s72,s73,s74,s75,s76,s77,s78,s79,s80,s81,s82,s83,s84,s85,s86,s87,s88,s89,s90,s91,s92,s93,s94,s95,s96,s97,s98,s99,s100,s101,s102,s103,s104,s105,s106,s107,s108,s109,s110,s111,s112,s113,s114,s115,s116,s117,s118,s119,s120,s121,s122,s123,s124,s125,s126,s127,s128,s129,s130,s131,s132,s133,s134,s135,s136,s137,s138,s139,s140,s141,s142,s143,c144],defers:=[] } u):=hX
 have HE:Hid (FilE lo xs Y F R a len cap la ll lc aa ac):=hE
 have hxl:xs.length=len:=hE.ln.len.1
 have HXL:Hid (xs.length=len):=hxl
 have hK1:=hK k (by omega)
 have HKn:Hid (LnK (Pl.gl xs k)):=hK1
 obtain⟨a6,y6,hv6⟩:=own_slice hF.od
 subst hv6
 have HF:Hid (FilS w0 Y g vc (.slice a6 (Pl.dataL xs k).length y6) (Pl.codeL ewI xs k) (Pl.dataL xs k)):=hF
 have HFB:Hid ((Pl.ins xs k).any (fun y=>!y.ok || (Pl.isJ (Pl.gl xs k).k && Pl.inD xs (Pl.gl xs k).s))=Pl.badJ xs k):=Pl.fill_bad xs k hK1.i
 have HIN:Hid (Pl.ins xs k=Pl.insA (Pl.gl xs k) (Pl.cu xs k).at (Pl.adr xs (Pl.gl xs k).s)):=rfl
 have hadr:=adr_bd hK (by omega) (Pl.gl xs k).s
 have hatb:=at_bd hK (by omega) (k:=k) (by omega)
 have HCS:Hid (Pl.codeL ewI xs (k+1)=Pl.codeL ewI xs k ++ (Pl.ins xs k).map ewI):=Pl.codeL_succ _ _ _
 have HDS:Hid (Pl.dataL xs (k+1)=Pl.dataL xs k ++ Pl.dat xs k):=Pl.dataL_succ _ _
 have hlen2:=Pl.laid_len ewI xs (fun i hi=>(hK i hi).b) hS k (by omega)
 have hcb:=Pl.cu_bd xs (fun i hi=>(hK i hi).b) k (by omega)
 have hcl:(Pl.codeL ewI xs k).length<=100000:=by omega
 have hdl:(Pl.dataL xs k).length<=1310720000:=by omega
 have HB0:Hid (((Pl.dataL xs k).length:Int)=(Pl.cu xs k).b):=hlen2.2
 have hg0:=hF.hg
 have hgY:g<Y.heap.size:=hF.lt
 have hs0:(Pl.gl xs k).s=⟨#[]⟩:=hq.2
 have ha0:Pl.adr xs (Pl.gl xs k).s=0/\Pl.inD xs (Pl.gl xs k).s=false:=by rw[hs0];exact adr_empty hK
 have se:(Pl.gl xs k).s.toList.isEmpty=true:=by rw[<- Pl.str_nil];simpa using hs0
 have HDD:Hid (Pl.dataL xs (k+1)=Pl.dataL xs k ++ Pl.bys (Pl.gl xs k).n (Pl.dsz (Pl.gl xs k) 0).toNat):=by show _=_;rw[HDS.out,Pl.dat_num xs k (by omega) hs0]
 have hz4:0<=Pl.dsz (Pl.gl xs k) 0/\Pl.dsz (Pl.gl xs k) 0<=4:=by unfold Pl.dsz;rcases (show (Pl.gl xs k).k=12\/(Pl.gl xs k).k=13\/(Pl.gl xs k).k=14 by omega) with e | e | e <;> simp[e]
 have HZT:Hid (((Pl.dsz (Pl.gl xs k) 0).toNat:Int)=Pl.dsz (Pl.gl xs k) 0):=by show _=_;omega
 have hxn:0<=(Pl.gl xs k).n/\(Pl.gl xs k).n<=4294967295:=by
  rcases (show (Pl.gl xs k).k=12\/(Pl.gl xs k).k=13\/(Pl.gl xs k).k=14 by omega) with e | e | e
  ·have:=hK1.n12 e;omega
  ·have:=hK1.n13 e;omega
  ·exact hK1.w14 e (by rw[hs0];rfl)
 have HIS:Hid (∀ u,InsSaid (Pl.gl xs k) (Pl.cu xs k).at (Pl.adr xs (Pl.gl xs k).s) u):=fun u=>l4Insts_is _ _ _ u hK1.b.k (by omega) (by omega) hK1.i.w4 (fun q=>by have:=hK1.far (.inl q);omega)
 have hat:=hE.ats hk
 obtain⟨ba,oa,haa,hba,cat⟩:=hat
 subst haa
 obtain⟨b0,off,haL,hlo,hb1,hsz,z0,z1,z2,z3,z4,z5,z6,z7⟩:=hE.ln.at k hk
 subst haL
 have hi:(k:Int)<(len:Int):=by omega
 have HLB:Hid (Pl.LnB (Pl.gl xs k)):=hK1.b
 have hf0:=hE.f0
 have hF0:F<Y.heap.size:=block_lt_of_cell hf0
 clear hE hF hN hX hK hS hL hK1 hlen2 hcb hsz
 conv=>arg 2;whnf
 dsimp only
 rw[ha0.2]at HFB
 rw[ha0.1]at HIN HIS
 generalize hx:Pl.gl xs k=x at *
 have HXE:Hid (Pl.gl xs k=x):=hx
 clear hx
 have hkk:x.k=12:=hq.1
 have HKK:Hid (x.k=12):=hkk
 rw[hkk]at z0
 clear hq hkk
 clear ha0 hs0
 go_upto_region 12 with fail
 have hrow:(Y.alloc (.cells #[.int .i64 12,.int .i64 x.op,.int .i64 x.rd,.int .i64 x.r1,.int .i64 x.r2,.int .i64 x.im,.string x.s,.int .i64 x.n] 51)).heap[Y.heap.size]?=some (.cells #[.int .i64 12,.int .i64 x.op,.int .i64 x.rd,.int .i64 x.r1,.int .i64 x.r2,.int .i64 x.im,.string x.s,.int .i64 x.n] 51 (0,0)):=heap_alloc_new Y _
 have HLN:Hid (∀ w1:World,w1.heap[Y.heap.size]?=some (.cells #[.int .i64 12,.int .i64 x.op,.int .i64 x.rd,.int .i64 x.r1,.int .i64 x.r2,.int .i64 x.im,.string x.s,.int .i64 x.n] 51 (0,0))->∀ j,w1.cell? ⟨Y.heap.size,j,none⟩=(#[.int .i64 12,.int .i64 x.op,.int .i64 x.rd,.int .i64 x.r1,.int .i64 x.r2,.int .i64 x.im,.string x.s,.int .i64 x.n]:Array Value)[j]?):=fun w1 hw1 j=>cell_of_row _ _ j _ 51 (0,0) hw1
 have HRW:Hid ((Y.alloc (.cells #[.int .i64 12,.int .i64 x.op,.int .i64 x.rd,.int .i64 x.r1,.int .i64 x.r2,.int .i64 x.im,.string x.s,.int .i64 x.n] 51)).heap[Y.heap.size]?=some (.cells #[.int .i64 12,.int .i64 x.op,.int .i64 x.rd,.int .i64 x.r1,.int .i64 x.r2,.int .i64 x.im,.string x.s,.int .i64 x.n] 51 (0,0))):=hrow
 refine fil12 F Y.heap.size k ba oa len ac x (Pl.cu xs k).at 0 (Y.alloc (.cells #[.int .i64 12,.int .i64 x.op,.int .i64 x.rd,.int .i64 x.r1,.int .i64 x.r2,.int .i64 x.im,.string x.s,.int .i64 x.n] 51)) (below_cell (below_alloc _ _) HE.out.f1) hk hn (below_cell (below_alloc _ _) cat) (by rw[HKK.out];exact HLN.out _ HRW.out 0) (HLN.out _ HRW.out 1) (HLN.out _ HRW.out 2) (HLN.out _ HRW.out 3) (HLN.out _ HRW.out 4) (HLN.out _ HRW.out 5) (HLN.out _ HRW.out 6) (HLN.out _ HRW.out 7) (HIS.out _) ?_
 intro ai ni ci w1 hI hw1
 have HI:Hid (InsRow (Y.alloc (.cells #[.int .i64 12,.int .i64 x.op,.int .i64 x.rd,.int .i64 x.r1,.int .i64 x.r2,.int .i64 x.im,.string x.s,.int .i64 x.n] 51)).heap.size w1 ai ni (Pl.insA x (Pl.cu xs k).at 0)):=hI
 have HW1:Hid (Below (Y.alloc (.cells #[.int .i64 12,.int .i64 x.op,.int .i64 x.rd,.int .i64 x.r1,.int .i64 x.r2,.int .i64 x.im,.string x.s,.int .i64 x.n] 51)).heap.size (Y.alloc (.cells #[.int .i64 12,.int .i64 x.op,.int .i64 x.rd,.int .i64 x.r1,.int .i64 x.r2,.int .i64 x.im,.string x.s,.int .i64 x.n] 51)) w1):=hw1
 have HR1:Hid (w1.heap[Y.heap.size]?=some (.cells #[.int .i64 12,.int .i64 x.op,.int .i64 x.rd,.int .i64 x.r1,.int .i64 x.r2,.int .i64 x.im,.string x.s,.int .i64 x.n] 51 (0,0))):=(hw1.block Y.heap.size (by simp)).trans hrow
 have HF1:Hid (FilS w0 w1 g vc (.slice a6 (Pl.dataL xs k).length y6) (Pl.codeL ewI xs k) (Pl.dataL xs k)):=(HF.out.keep (below_alloc _ _)).keep hw1
 have k0:=HLN.out _ HR1.out 0
 simp only[List.getElem?_toArray,List.getElem?_cons_zero]at k0
 clear hI hw1 hrow
 go_upto_block 2 with fail
 refine fil_loop k g R false true (Pl.insA x (Pl.cu xs k).at 0) ai ni ci vc _ (Pl.codeL ewI xs k) (Pl.dataL xs k) w0 w1 HF1.out HI.out ((HE.out.keep (Below.trans (below_alloc Y _) (HW1.out.mono (by simp)))).r) hR (by simp;omega) hcl ?N ?X
 case X=>
  intros
  rename_i hany hrw hbe
  refine HXt.out _ _ _ _ _ _ _ _ _ _ _ _ _ _ _ _ _ _ _ _ _ _ _ _ _ _ _ _ _ _ _ _ _ _ _ _ _ _ _ _ _ _ _ _ _ _ _ _ _ _ _ _ _ _ _ _ _ _ _ _ _ _ _ _ _ _ _ _ _ _ _ _ _ _ _ _ _ _ _ _ _ _ _ _ _ _ _ _ _ _ _ _ _ _ _ _ _ _ _ _ _ _ _ _ _ _ _ _ _ _ _ _ _ _ _ _ _ _ _ _ _ _ _ _ _ _ _ _ _ _ _ _ _ _ ?_ hrw hbe
  rw[<- HFB.out,HIN.out]
  simpa [Pl.isJ,HKK.out] using hany
 case N=>
  intro v5 v14 v15 v16 v71 v72 v73 v74 v75 v76 v77 v78 v79 v80 v81 v82 v83 v84 v85 v86 v87 v88 v89 v90 v91 v92 v93 v94 v95 v96 v97 v98 v99 v100 v101 u vc2 hany hs2 hby
  have HS2:Hid (FilS w0 u g vc2 (.slice a6 (Pl.dataL xs k).length y6) (Pl.codeL ewI xs (k+1)) (Pl.dataL xs k)):=by show FilS _ _ _ _ _ _ _;rw[HCS.out,HIN.out];exact hs2
  have HBJ:Hid (Pl.badJ xs k=false):=by
   show _=_
   rw[<- HFB.out,HIN.out]
   simpa [Pl.isJ,HKK.out] using hany
  have HR2:Hid (u.heap[Y.heap.size]?=some (.cells #[.int .i64 12,.int .i64 x.op,.int .i64 x.rd,.int .i64 x.r1,.int .i64 x.r2,.int .i64 x.im,.string x.s,.int .i64 x.n] 51 (0,0))):=hby.block _ _ (by omega) HR1.out (fun c q=>by injection q with _ q2 _;exact absurd q2 (by decide))
  have l0:=HLN.out _ HR2.out 0;have l6:=HLN.out _ HR2.out 6
  simp only[List.getElem?_toArray,List.getElem?_cons_zero,List.getElem?_cons_succ]at l0 l6
  clear hany hs2 hby k0
  go_upto_region 25 with fail
  refine fil25 g Y.heap.size ((Pl.dataL xs k) ++ Pl.bys x.n (Pl.dsz x 0).toNat).length _ x (Pl.dsz x 0) a6 y6 (DatA w0 ((Pl.dataL xs k) ++ Pl.bys x.n (Pl.dsz x 0).toNat)) u HS2.out.c1 (by rw[HKK.out];exact HLN.out _ HR2.out 0) (HLN.out _ HR2.out 1) (HLN.out _ HR2.out 2) (HLN.out _ HR2.out 3) (HLN.out _ HR2.out 4) (HLN.out _ HR2.out 5) (HLN.out _ HR2.out 6) (HLN.out _ HR2.out 7) (fun _ _ _ _ h1 h2=>DatA.old HS2.out h1 h2) (fun u3=>l4Count8_is x 0 HLB.out (by omega) u3) (fun u3 h3=>by have h5:=put_A (HS2.out.keep h3) x.n (Pl.dsz x 0).toNat (by omega) (by omega) (by omega);rw[HZT.out]at h5;exact h5) ?_
  intro a2 y2 u3 u4 h3 h4
  have HFN:Hid (FilS w0 (u4.setCell ⟨g,1,none⟩ (.slice a2 ((Pl.dataL xs k) ++ Pl.bys x.n (Pl.dsz x 0).toNat).length y2)) g vc2 (.slice a2 ((Pl.dataL xs k) ++ Pl.bys x.n (Pl.dsz x 0).toNat).length y2) (Pl.codeL ewI xs (k+1)) (Pl.dataL xs (k+1))):=by show FilS _ _ _ _ _ _ _;rw[HDD.out];exact DatA.fin HS2.out h3 h4
  clear h3 h4
  go_wp2_with fail
  have hfn:=HFN.out
  simp only[List.length_append]at hfn
  exact HNt.out _ _ _ _ _ _ _ _ _ _ _ _ _ _ _ _ _ _ _ _ _ _ _ _ _ _ _ _ _ _ _ _ _ _ _ _ _ _ _ _ _ _ _ _ _ _ _ _ _ _ _ _ _ _ _ _ _ _ _ _ _ _ _ _ _ _ _ _ _ _ _ _ _ _ _ _ _ _ _ _ _ _ _ _ _ _ _ _ _ _ _ _ _ _ _ _ _ _ _ _ _ _ _ _ _ _ _ _ _ _ _ _ _ _ _ _ _ _ _ _ _ _ _ _ _ _ _ _ _ _ _ HBJ.out hfn
end Go.Proofs.YtlbomnnldkeocaaGreat.W
