import Derived.Test.YtcgfgmlfbgbkfaaGreatDoorM11
import Derived.Deep.DeepCutAuto
import Derived.Test.YtcgfgmlfbgbkfaaGreatDoorM07
set_option linter.unusedVariables false
set_option linter.unusedSimpArgs false
set_option maxHeartbeats 16000000
namespace Go.Proofs.YtcgfgmlfbgbkfaaGreatDoor.W
open Go.RowKit
def startsAtR (n:Nat):Code->Bool
 | .region m _ _=>m == n
 | .seq a _=>startsAtR n a
 | _=>false
def codeFrom (n:Nat):Code->Option Code
 | .seq a b=>if startsAtR n a then some (.seq a b) else match codeFrom n a with
  | some c=>some c
  | none=>codeFrom n b
 | .block _ c=>codeFrom n c
 | .loop c=>codeFrom n c
 | .scope c=>codeFrom n c
 | _=>none
noncomputable def smC (n:Nat):Code:=((Tryz.f126.body.bind (codeFrom n)).getD .skip)
set_option maxRecDepth 100000 in
theorem symMerge_t3 {gx ga gs N cs g n c:Nat} {K:Nat->Int} (d D D1:Nat->Nat) (a m b j e mid nn:Nat) (wc wo:World) (hb:b<=n) (hz2:n<=4000) (ham:a<m) (hmb:m<b) (hm1:a<mid) (hm2:mid<b) (b1:a<=j) (b2:j<=mid) (b3:j<=m) (b4:m<=e) (b5:mid<=e) (b6:e<=b) (hct:Pl.Cut K D a j mid e b) (hS:Sg gx ga gs N cs g n K D1 wo) (hO:OnlyG g wc wo) (hM:Pl.Sam a b d D) (hM1:Pl.Sam a mid D D1) (hR1:Pl.Srt K D1 a mid)
  (hIH:∀ (d:Nat->Nat) (a' m' b':Nat) (w:World),b'-a'<b-a->Sg gx ga gs N cs g n K d w->a'<m'->m'<b'->b'<=n->Pl.Srt K d a' m'->Pl.Srt K d m' b'->Pl.Apt d a' m' b'->Calls Tryz.prog 126 #[.slice (some ⟨g,0,none⟩) n c,.int .i64 (a':Int),.int .i64 (m':Int),.int .i64 (b':Int),.func (.func 106) #[] #[.pointer (some ⟨gx,0,none⟩)]] w fun e w'=>SrtSaid K g n a' b' d w e w')
  (c5 c6 c7 c8 c9 c10 c11 c12 c13 c14 c15 c16 c17 c21 c22 c23 c25 c26 c27 c28 c29 c30 c31 c32 c33 c34 c35 c36 c37 c38 c39 c40 c41 c42 c43 c44 c45 c46 c47 c48 c49 c50 c51 c52 c53 c54 c55 c56 c57 c58 c59 c60 c61 c62 c63 c64 c65 c66 c67 c68 c69 c70 c71 c72 c73 c74 c75 c76 c77 c78 c79 c80 c81 c82 c83 c84 c85 c86 c87 c88 c89 c90 c91 c92 c93 c94 c95 c96 c97 c98 c99 c100 c101 c102 c103 c104 c105 c106 c107 c108 c109 c110 c111 c112 c113 c114 c115 c116 c117 c118 c119 c120 c121 c122 c123 c124 c125 c126 c127 c128 c129 c130 c131 c132 c133 c134 c135 c136 c137 c138 c139 c140 c141 c142 c143 c144 c145 c146 c147 c148 c149 c150 c151 c152 c153 c154 c155 c156 c157 c158 c159 c160 c161 c162 c163 c164 c165 c166 c167 c168 c169 c170 c171 c172 c173 c174 c175 c176 c177 c178 c179 c180 c181 c182 c183 c184 c185 c186 c187 c188 c189 c190 c191 c192 c193 c194 c195 c196 c197 c198 c199 c200 c201 c202 c203 c204 c205 c206 c207 c208 c209 c210 c211 c212 c213 c214 c215 c216 c217 c218 c219:Value) :
  (smC 43).wp Tryz.prog (bodyPost Tryz.prog Tryz.f126 fun e w'=>SrtSaid K g n a b d wc e w') { tmps:=#[.slice (some ⟨g,0,none⟩) n c,.int .i64 (a:Int),.int .i64 (m:Int),.int .i64 (b:Int),.func (.func 106) #[] #[.pointer (some ⟨gx,0,none⟩)],c5,c6,c7,c8,c9,c10,c11,c12,c13,c14,c15,c16,c17,.int .i64 (mid:Int),.int .i64 (nn:Int),.int .i64 (j:Int),c21,c22,c23,.int .i64 (e:Int),c25,c26,c27,c28,c29,c30,c31,c32,c33,c34,c35,c36,c37,c38,c39,c40,c41,c42,c43,c44,c45,c46,c47,c48,c49,c50,c51,c52,c53,c54,c55,c56,c57,c58,c59,c60,c61,c62,c63,c64,c65,c66,c67,c68,c69,c70,c71,c72,c73,c74,c75,c76,c77,c78,c79,c80,c81,c82,c83,c84,c85,c86,c87,c88,c89,c90,c91,c92,c93,c94,c95,c96,c97,c98,c99,c100,c101,c102,c103,c104,c105,c106,c107,c108,c109,c110,c111,c112,c113,c114,c115,c116,c117,c118,c119,c120,c121,c122,c123,c124,c125,c126,c127,c128,c129,c130,c131,c132,c133,c134,c135,c136,c137,c138,c139,c140,c141,c142,c143,c144,c145,c146,c147,c148,c149,c150,c151,c152,c153,c154,c155,c156,c157,c158,c159,c160,c161,c162,c163,c164,c165,c166,c167,c168,c169,c170,c171,c172,c173,c174,c175,c176,c177,c178,c179,c180,c181,c182,c183,c184,c185,c186,c187,c188,c189,c190,c191,c192,c193,c194,c195,c196,c197,c198,c199,c200,c201,c202,c203,c204,c205,c206,c207,c208,c209,c210,c211,c212,c213,c214,c215,c216,c217,c218,c219],defers:=[] } wo:=by
 have HIH:Hid _:=hIH
 have HS:Hid (Sg gx ga gs N cs g n K D1 wo):=hS
 have HT:Hid (Pl.Srt K D1 mid e/\Pl.Srt K D1 e b/\Pl.Apt D1 mid e b):=⟨hct.s3.congr fun i i1 i2=>hM1.out i (.inr i1),hct.s4.congr fun i i1 i2=>hM1.out i (.inr (by omega)),fun i j' i1 i2 j1 j2=>by rw[hM1.out i (.inr i1),hM1.out j' (.inr (by omega))];exact hct.a2 i j' i1 i2 j1 j2⟩
 have HEND:Hid (∀ (D2:Nat->Nat) (W:World),IR g n D2 W->OnlyG g wo W->Pl.Sam mid b D1 D2->Pl.Srt K D2 mid b->SrtSaid K g n a b d wc (.returned (.tuple #[])) W):=fun D2 W z1 z2 z3 z4=>by
  obtain⟨z5,z6⟩:=hct.end_ (by omega) (by omega) hM1 hR1 z3 z4
  exact⟨rfl,D2,z1,hO.trans z2,hM.trans z6,z5⟩
 have hz:(a:Int)<=4000/\(m:Int)<=4000/\(b:Int)<=4000/\(n:Int)<=4000/\(mid:Int)<=4000/\(j:Int)<=4000/\(e:Int)<=4000:=by omega
 clear hIH hS hct hO hM hM1 hR1
 conv=>arg 2;whnf
 dsimp only
 by_cases q1:mid<e
 ·have q1':(mid:Int)<(e:Int):=by omega
  by_cases q2:e<b
  ·have q2':(e:Int)<(b:Int):=by omega
   have HR:Hid (Calls Tryz.prog 126 #[.slice (some ⟨g,0,none⟩) n c,.int .i64 (mid:Int),.int .i64 (e:Int),.int .i64 (b:Int),.func (.func 106) #[] #[.pointer (some ⟨gx,0,none⟩)]] wo fun e w'=>SrtSaid K g n mid b D1 wo e w'):=HIH.out D1 mid e b wo (by omega) HS.out q1 q2 hb HT.out.1 HT.out.2.1 HT.out.2.2
   go_wp2_with (go_at_call 126;refine HR.out.mono ?_;rintro e' u ⟨rfl,hq⟩; have HN:Hid (∃ D2,IR g n D2 u/\OnlyG g wo u/\Pl.Sam mid b D1 D2/\Pl.Srt K D2 mid b):=hq;clear hq)
   go_end0
   obtain⟨D2,z1,z2,z3,z4⟩:=HN.out
   exact HEND.out D2 _ z1 z2 z3 z4
  ·have q2':¬ (e:Int)<(b:Int):=by omega
   have HQ:Hid (¬ (mid<e/\e<b)):=fun q=>q2 q.2
   have HN:Hid (Pl.Srt K D1 mid b):=by
    have q:=HQ.out
    by_cases c:mid=e
    ·rw[c];exact HT.out.2.1
    ·rw[show b=e by omega];exact HT.out.1
   go_wp2_with fail
   go_end0
   exact HEND.out D1 _ HS.out.row (OnlyG.refl _ _) (Pl.Sam.refl _ _ _) HN.out
 ·have q1':¬ (mid:Int)<(e:Int):=by omega
  have HQ:Hid (¬ (mid<e/\e<b)):=fun q=>q1 q.1
  have HN:Hid (Pl.Srt K D1 mid b):=by
   have q:=HQ.out
   by_cases c:mid=e
   ·rw[c];exact HT.out.2.1
   ·rw[show b=e by omega];exact HT.out.1
  go_wp2_with fail
  go_end0
  exact HEND.out D1 _ HS.out.row (OnlyG.refl _ _) (Pl.Sam.refl _ _ _) HN.out
set_option maxRecDepth 100000 in
theorem symMerge_t2 {gx ga gs N cs g n c:Nat} {K:Nat->Int} (d D:Nat->Nat) (a m b j e mid nn:Nat) (wc wo:World) (hb:b<=n) (hz2:n<=4000) (ham:a<m) (hmb:m<b) (hm1:a<mid) (hm2:mid<b) (b1:a<=j) (b2:j<=mid) (b3:j<=m) (b4:m<=e) (b5:mid<=e) (b6:e<=b) (hct:Pl.Cut K D a j mid e b) (hS:Sg gx ga gs N cs g n K D wo) (hO:OnlyG g wc wo) (hM:Pl.Sam a b d D)
  (hIH:∀ (d:Nat->Nat) (a' m' b':Nat) (w:World),b'-a'<b-a->Sg gx ga gs N cs g n K d w->a'<m'->m'<b'->b'<=n->Pl.Srt K d a' m'->Pl.Srt K d m' b'->Pl.Apt d a' m' b'->Calls Tryz.prog 126 #[.slice (some ⟨g,0,none⟩) n c,.int .i64 (a':Int),.int .i64 (m':Int),.int .i64 (b':Int),.func (.func 106) #[] #[.pointer (some ⟨gx,0,none⟩)]] w fun e w'=>SrtSaid K g n a' b' d w e w')
  (c5 c6 c7 c8 c9 c10 c11 c12 c13 c14 c15 c16 c17 c21 c22 c23 c25 c26 c27 c28 c29 c30 c31 c32 c33 c34 c35 c36 c37 c38 c39 c40 c41 c42 c43 c44 c45 c46 c47 c48 c49 c50 c51 c52 c53 c54 c55 c56 c57 c58 c59 c60 c61 c62 c63 c64 c65 c66 c67 c68 c69 c70 c71 c72 c73 c74 c75 c76 c77 c78 c79 c80 c81 c82 c83 c84 c85 c86 c87 c88 c89 c90 c91 c92 c93 c94 c95 c96 c97 c98 c99 c100 c101 c102 c103 c104 c105 c106 c107 c108 c109 c110 c111 c112 c113 c114 c115 c116 c117 c118 c119 c120 c121 c122 c123 c124 c125 c126 c127 c128 c129 c130 c131 c132 c133 c134 c135 c136 c137 c138 c139 c140 c141 c142 c143 c144 c145 c146 c147 c148 c149 c150 c151 c152 c153 c154 c155 c156 c157 c158 c159 c160 c161 c162 c163 c164 c165 c166 c167 c168 c169 c170 c171 c172 c173 c174 c175 c176 c177 c178 c179 c180 c181 c182 c183 c184 c185 c186 c187 c188 c189 c190 c191 c192 c193 c194 c195 c196 c197 c198 c199 c200 c201 c202 c203 c204 c205 c206 c207 c208 c209 c210 c211 c212 c213 c214 c215 c216 c217 c218 c219:Value) :
  (smC 41).wp Tryz.prog (bodyPost Tryz.prog Tryz.f126 fun e w'=>SrtSaid K g n a b d wc e w') { tmps:=#[.slice (some ⟨g,0,none⟩) n c,.int .i64 (a:Int),.int .i64 (m:Int),.int .i64 (b:Int),.func (.func 106) #[] #[.pointer (some ⟨gx,0,none⟩)],c5,c6,c7,c8,c9,c10,c11,c12,c13,c14,c15,c16,c17,.int .i64 (mid:Int),.int .i64 (nn:Int),.int .i64 (j:Int),c21,c22,c23,.int .i64 (e:Int),c25,c26,c27,c28,c29,c30,c31,c32,c33,c34,c35,c36,c37,c38,c39,c40,c41,c42,c43,c44,c45,c46,c47,c48,c49,c50,c51,c52,c53,c54,c55,c56,c57,c58,c59,c60,c61,c62,c63,c64,c65,c66,c67,c68,c69,c70,c71,c72,c73,c74,c75,c76,c77,c78,c79,c80,c81,c82,c83,c84,c85,c86,c87,c88,c89,c90,c91,c92,c93,c94,c95,c96,c97,c98,c99,c100,c101,c102,c103,c104,c105,c106,c107,c108,c109,c110,c111,c112,c113,c114,c115,c116,c117,c118,c119,c120,c121,c122,c123,c124,c125,c126,c127,c128,c129,c130,c131,c132,c133,c134,c135,c136,c137,c138,c139,c140,c141,c142,c143,c144,c145,c146,c147,c148,c149,c150,c151,c152,c153,c154,c155,c156,c157,c158,c159,c160,c161,c162,c163,c164,c165,c166,c167,c168,c169,c170,c171,c172,c173,c174,c175,c176,c177,c178,c179,c180,c181,c182,c183,c184,c185,c186,c187,c188,c189,c190,c191,c192,c193,c194,c195,c196,c197,c198,c199,c200,c201,c202,c203,c204,c205,c206,c207,c208,c209,c210,c211,c212,c213,c214,c215,c216,c217,c218,c219],defers:=[] } wo:=by
 have HIH:Hid _:=hIH
 have H0:Hid (Sg gx ga gs N cs g n K D wo/\OnlyG g wc wo/\Pl.Sam a b d D/\Pl.Cut K D a j mid e b):=⟨hS,hO,hM,hct⟩
 have hz:(a:Int)<=4000/\(m:Int)<=4000/\(b:Int)<=4000/\(n:Int)<=4000/\(mid:Int)<=4000/\(j:Int)<=4000/\(e:Int)<=4000:=by omega
 clear hIH hS hct hO hM
 conv=>arg 2;whnf
 dsimp only
 go_upto_region 41 with fail
 rename_i Ka hKa Kb hKb
 have HKa:Hid _:=hKa
 clear hKa
 by_cases q1:a<j
 ·have q1':(a:Int)<(j:Int):=by omega
  by_cases q2:j<mid
  ·have q2':(j:Int)<(mid:Int):=by omega
   have HR:Hid (Calls Tryz.prog 126 #[.slice (some ⟨g,0,none⟩) n c,.int .i64 (a:Int),.int .i64 (j:Int),.int .i64 (mid:Int),.func (.func 106) #[] #[.pointer (some ⟨gx,0,none⟩)]] wo fun e w'=>SrtSaid K g n a mid D wo e w'):=HIH.out D a j mid wo (by omega) H0.out.1 q1 q2 (by omega) H0.out.2.2.2.s1 H0.out.2.2.2.s2 H0.out.2.2.2.a1
   go_wp2_with (go_at_call 126;refine HR.out.mono ?_;rintro e' u ⟨rfl,hq⟩; have HN:Hid (∃ D1,IR g n D1 u/\OnlyG g wo u/\Pl.Sam a mid D D1/\Pl.Srt K D1 a mid):=hq;clear hq)
   refine HKa.out _ _ ?_
   obtain⟨D1,z1,z2,z3,z4⟩:=HN.out
   exact symMerge_t3 d D D1 a m b j e mid nn wc _ hb hz2 ham hmb hm1 hm2 b1 b2 b3 b4 b5 b6 H0.out.2.2.2 (H0.out.1.on z1 z2 z3 (by omega)) (H0.out.2.1.trans z2) H0.out.2.2.1 z3 z4 HIH.out _ _ _ _ _ _ _ _ _ _ _ _ _ _ _ _ _ _ _ _ _ _ _ _ _ _ _ _ _ _ _ _ _ _ _ _ _ _ _ _ _ _ _ _ _ _ _ _ _ _ _ _ _ _ _ _ _ _ _ _ _ _ _ _ _ _ _ _ _ _ _ _ _ _ _ _ _ _ _ _ _ _ _ _ _ _ _ _ _ _ _ _ _ _ _ _ _ _ _ _ _ _ _ _ _ _ _ _ _ _ _ _ _ _ _ _ _ _ _ _ _ _ _ _ _ _ _ _ _ _ _ _ _ _ _ _ _ _ _ _ _ _ _ _ _ _ _ _ _ _ _ _ _ _ _ _ _ _ _ _ _ _ _ _ _ _ _ _ _ _ _ _ _ _ _ _ _ _ _ _ _ _ _ _ _ _ _ _ _ _ _ _ _ _ _ _ _ _ _ _ _ _ _ _ _ _ _ _ _ _ _
  ·have q2':¬ (j:Int)<(mid:Int):=by omega
   have HQ:Hid (¬ (a<j/\j<mid)):=fun q=>q2 q.2
   have HN:Hid (Pl.Srt K D a mid):=by
    have q:=HQ.out
    by_cases c:a=j
    ·rw[c];exact H0.out.2.2.2.s2
    ·rw[show mid=j by omega];exact H0.out.2.2.2.s1
   go_wp2_with fail
   refine HKa.out _ _ ?_
   exact symMerge_t3 d D D a m b j e mid nn wc _ hb hz2 ham hmb hm1 hm2 b1 b2 b3 b4 b5 b6 H0.out.2.2.2 H0.out.1 H0.out.2.1 H0.out.2.2.1 (Pl.Sam.refl _ _ _) HN.out HIH.out _ _ _ _ _ _ _ _ _ _ _ _ _ _ _ _ _ _ _ _ _ _ _ _ _ _ _ _ _ _ _ _ _ _ _ _ _ _ _ _ _ _ _ _ _ _ _ _ _ _ _ _ _ _ _ _ _ _ _ _ _ _ _ _ _ _ _ _ _ _ _ _ _ _ _ _ _ _ _ _ _ _ _ _ _ _ _ _ _ _ _ _ _ _ _ _ _ _ _ _ _ _ _ _ _ _ _ _ _ _ _ _ _ _ _ _ _ _ _ _ _ _ _ _ _ _ _ _ _ _ _ _ _ _ _ _ _ _ _ _ _ _ _ _ _ _ _ _ _ _ _ _ _ _ _ _ _ _ _ _ _ _ _ _ _ _ _ _ _ _ _ _ _ _ _ _ _ _ _ _ _ _ _ _ _ _ _ _ _ _ _ _ _ _ _ _ _ _ _ _ _ _ _ _ _ _ _ _ _ _ _
 ·have q1':¬ (a:Int)<(j:Int):=by omega
  have HQ:Hid (¬ (a<j/\j<mid)):=fun q=>q1 q.1
  have HN:Hid (Pl.Srt K D a mid):=by
   have q:=HQ.out
   by_cases c:a=j
   ·rw[c];exact H0.out.2.2.2.s2
   ·rw[show mid=j by omega];exact H0.out.2.2.2.s1
  go_wp2_with fail
  refine HKa.out _ _ ?_
  exact symMerge_t3 d D D a m b j e mid nn wc _ hb hz2 ham hmb hm1 hm2 b1 b2 b3 b4 b5 b6 H0.out.2.2.2 H0.out.1 H0.out.2.1 H0.out.2.2.1 (Pl.Sam.refl _ _ _) HN.out HIH.out _ _ _ _ _ _ _ _ _ _ _ _ _ _ _ _ _ _ _ _ _ _ _ _ _ _ _ _ _ _ _ _ _ _ _ _ _ _ _ _ _ _ _ _ _ _ _ _ _ _ _ _ _ _ _ _ _ _ _ _ _ _ _ _ _ _ _ _ _ _ _ _ _ _ _ _ _ _ _ _ _ _ _ _ _ _ _ _ _ _ _ _ _ _ _ _ _ _ _ _ _ _ _ _ _ _ _ _ _ _ _ _ _ _ _ _ _ _ _ _ _ _ _ _ _ _ _ _ _ _ _ _ _ _ _ _ _ _ _ _ _ _ _ _ _ _ _ _ _ _ _ _ _ _ _ _ _ _ _ _ _ _ _ _ _ _ _ _ _ _ _ _ _ _ _ _ _ _ _ _ _ _ _ _ _ _ _ _ _ _ _ _ _ _ _ _ _ _ _ _ _ _ _ _ _ _ _ _ _ _ _
set_option maxRecDepth 100000 in
theorem symMerge_t {gx ga gs N cs g n c:Nat} {K:Nat->Int} (d D:Nat->Nat) (a m b j e mid nn:Nat) (wc wo:World) (h:Sg gx ga gs N cs g n K d wc) (hb:b<=n) (hz2:n<=4000) (ham:a<m) (hmb:m<b) (hm1:a<mid) (hm2:mid<b) (b1:a<=j) (b2:j<=mid) (b3:j<=m) (b4:m<=e) (b5:mid<=e) (b6:e<=b) (hct:Pl.Cut K D a j mid e b) (hD:D=Pl.rot d j m e) (hX1:IR g n d wo) (hX2:OnlyG g wc wo)
  (hIH:∀ (d:Nat->Nat) (a' m' b':Nat) (w:World),b'-a'<b-a->Sg gx ga gs N cs g n K d w->a'<m'->m'<b'->b'<=n->Pl.Srt K d a' m'->Pl.Srt K d m' b'->Pl.Apt d a' m' b'->Calls Tryz.prog 126 #[.slice (some ⟨g,0,none⟩) n c,.int .i64 (a':Int),.int .i64 (m':Int),.int .i64 (b':Int),.func (.func 106) #[] #[.pointer (some ⟨gx,0,none⟩)]] w fun e w'=>SrtSaid K g n a' b' d w e w')
  (c5 c6 c7 c8 c9 c10 c11 c12 c13 c14 c15 c16 c17 c21 c22 c23 c25 c26 c27 c28 c29 c30 c31 c32 c33 c34 c35 c36 c37 c38 c39 c40 c41 c42 c43 c44 c45 c46 c47 c48 c49 c50 c51 c52 c53 c54 c55 c56 c57 c58 c59 c60 c61 c62 c63 c64 c65 c66 c67 c68 c69 c70 c71 c72 c73 c74 c75 c76 c77 c78 c79 c80 c81 c82 c83 c84 c85 c86 c87 c88 c89 c90 c91 c92 c93 c94 c95 c96 c97 c98 c99 c100 c101 c102 c103 c104 c105 c106 c107 c108 c109 c110 c111 c112 c113 c114 c115 c116 c117 c118 c119 c120 c121 c122 c123 c124 c125 c126 c127 c128 c129 c130 c131 c132 c133 c134 c135 c136 c137 c138 c139 c140 c141 c142 c143 c144 c145 c146 c147 c148 c149 c150 c151 c152 c153 c154 c155 c156 c157 c158 c159 c160 c161 c162 c163 c164 c165 c166 c167 c168 c169 c170 c171 c172 c173 c174 c175 c176 c177 c178 c179 c180 c181 c182 c183 c184 c185 c186 c187 c188 c189 c190 c191 c192 c193 c194 c195 c196 c197 c198 c199 c200 c201 c202 c203 c204 c205 c206 c207 c208 c209 c210 c211 c212 c213 c214 c215 c216 c217 c218 c219:Value) :
  (smC 39).wp Tryz.prog (bodyPost Tryz.prog Tryz.f126 fun e w'=>SrtSaid K g n a b d wc e w') { tmps:=#[.slice (some ⟨g,0,none⟩) n c,.int .i64 (a:Int),.int .i64 (m:Int),.int .i64 (b:Int),.func (.func 106) #[] #[.pointer (some ⟨gx,0,none⟩)],c5,c6,c7,c8,c9,c10,c11,c12,c13,c14,c15,c16,c17,.int .i64 (mid:Int),.int .i64 (nn:Int),.int .i64 (j:Int),c21,c22,c23,.int .i64 (e:Int),c25,c26,c27,c28,c29,c30,c31,c32,c33,c34,c35,c36,c37,c38,c39,c40,c41,c42,c43,c44,c45,c46,c47,c48,c49,c50,c51,c52,c53,c54,c55,c56,c57,c58,c59,c60,c61,c62,c63,c64,c65,c66,c67,c68,c69,c70,c71,c72,c73,c74,c75,c76,c77,c78,c79,c80,c81,c82,c83,c84,c85,c86,c87,c88,c89,c90,c91,c92,c93,c94,c95,c96,c97,c98,c99,c100,c101,c102,c103,c104,c105,c106,c107,c108,c109,c110,c111,c112,c113,c114,c115,c116,c117,c118,c119,c120,c121,c122,c123,c124,c125,c126,c127,c128,c129,c130,c131,c132,c133,c134,c135,c136,c137,c138,c139,c140,c141,c142,c143,c144,c145,c146,c147,c148,c149,c150,c151,c152,c153,c154,c155,c156,c157,c158,c159,c160,c161,c162,c163,c164,c165,c166,c167,c168,c169,c170,c171,c172,c173,c174,c175,c176,c177,c178,c179,c180,c181,c182,c183,c184,c185,c186,c187,c188,c189,c190,c191,c192,c193,c194,c195,c196,c197,c198,c199,c200,c201,c202,c203,c204,c205,c206,c207,c208,c209,c210,c211,c212,c213,c214,c215,c216,c217,c218,c219],defers:=[] } wo:=by
 have HIH:Hid _:=hIH
 have HFIN:Hid (∀ W,IR g n D W->OnlyG g wo W->Sg gx ga gs N cs g n K D W/\OnlyG g wc W/\Pl.Sam a b d D):=fun W w1 w2=>by
  have q:Pl.Sam a b d D:=by rw[hD];exact Pl.Sam.rot d b1 b3 b4 b6
  exact⟨h.on w1 (hX2.trans w2) q hb,hX2.trans w2,q⟩
 have HX:Hid (IR g n d wo):=hX1
 have HDD:Hid (D=Pl.rot d j m e):=hD
 have HCT:Hid (Pl.Cut K D a j mid e b):=hct
 have hz:(a:Int)<=4000/\(m:Int)<=4000/\(b:Int)<=4000/\(n:Int)<=4000/\(mid:Int)<=4000/\(j:Int)<=4000/\(e:Int)<=4000:=by omega
 clear hIH h hX1 hX2 hD hct
 conv=>arg 2;whnf
 dsimp only
 go_upto_region 39 with fail
 rename_i Ka hKa Kb hKb
 have HKa:Hid _:=hKa
 clear hKa
 by_cases q1:j<m
 ·have q1':(j:Int)<(m:Int):=by omega
  by_cases q2:m<e
  ·have q2':(m:Int)<(e:Int):=by omega
   have HR:Hid (Calls Tryz.prog 127 #[.slice (some ⟨g,0,none⟩) n c,.int .i64 (j:Int),.int .i64 (m:Int),.int .i64 (e:Int),.func (.func 106) #[] #[.pointer (some ⟨gx,0,none⟩)]] wo fun e' w'=>e'=.returned (.tuple #[])/\IR g n D w'/\OnlyG g wo w'):=by rw[HDD.out];exact rotate_is g n c d j m e _ wo HX.out hz2 q1 q2 (by omega)
   go_wp2_with (go_at_call 127;refine HR.out.mono ?_;rintro e' u ⟨rfl,r1,r2⟩; have HN:Hid (IR g n D u/\OnlyG g wo u):=⟨r1,r2⟩; clear r1 r2)
   refine HKa.out _ _ ?_
   obtain⟨z1,z2,z3⟩:=HFIN.out _ HN.out.1 HN.out.2
   exact symMerge_t2 d D a m b j e mid nn wc _ hb hz2 ham hmb hm1 hm2 b1 b2 b3 b4 b5 b6 HCT.out z1 z2 z3 HIH.out _ _ _ _ _ _ _ _ _ _ _ _ _ _ _ _ _ _ _ _ _ _ _ _ _ _ _ _ _ _ _ _ _ _ _ _ _ _ _ _ _ _ _ _ _ _ _ _ _ _ _ _ _ _ _ _ _ _ _ _ _ _ _ _ _ _ _ _ _ _ _ _ _ _ _ _ _ _ _ _ _ _ _ _ _ _ _ _ _ _ _ _ _ _ _ _ _ _ _ _ _ _ _ _ _ _ _ _ _ _ _ _ _ _ _ _ _ _ _ _ _ _ _ _ _ _ _ _ _ _ _ _ _ _ _ _ _ _ _ _ _ _ _ _ _ _ _ _ _ _ _ _ _ _ _ _ _ _ _ _ _ _ _ _ _ _ _ _ _ _ _ _ _ _ _ _ _ _ _ _ _ _ _ _ _ _ _ _ _ _ _ _ _ _ _ _ _ _ _ _ _ _ _ _ _ _ _ _ _ _ _
  ·have q2':¬ (m:Int)<(e:Int):=by omega
   have HQ:Hid (¬ (j<m/\m<e)):=fun q=>q2 q.2
   have HN:Hid (IR g n D wo):=by
    have q:=HQ.out
    have q2:D=d:=by
     rw[HDD.out]
     by_cases c:j=m
     ·rw[c];exact Pl.rot_nil1 d m e b4
     ·rw[show e=m by omega];exact Pl.rot_nil2 d j m b3
    rw[q2];exact HX.out
   go_wp2_with fail
   refine HKa.out _ _ ?_
   obtain⟨z1,z2,z3⟩:=HFIN.out _ HN.out (OnlyG.refl _ _)
   exact symMerge_t2 d D a m b j e mid nn wc _ hb hz2 ham hmb hm1 hm2 b1 b2 b3 b4 b5 b6 HCT.out z1 z2 z3 HIH.out _ _ _ _ _ _ _ _ _ _ _ _ _ _ _ _ _ _ _ _ _ _ _ _ _ _ _ _ _ _ _ _ _ _ _ _ _ _ _ _ _ _ _ _ _ _ _ _ _ _ _ _ _ _ _ _ _ _ _ _ _ _ _ _ _ _ _ _ _ _ _ _ _ _ _ _ _ _ _ _ _ _ _ _ _ _ _ _ _ _ _ _ _ _ _ _ _ _ _ _ _ _ _ _ _ _ _ _ _ _ _ _ _ _ _ _ _ _ _ _ _ _ _ _ _ _ _ _ _ _ _ _ _ _ _ _ _ _ _ _ _ _ _ _ _ _ _ _ _ _ _ _ _ _ _ _ _ _ _ _ _ _ _ _ _ _ _ _ _ _ _ _ _ _ _ _ _ _ _ _ _ _ _ _ _ _ _ _ _ _ _ _ _ _ _ _ _ _ _ _ _ _ _ _ _ _ _ _ _ _ _
 ·have q1':¬ (j:Int)<(m:Int):=by omega
  have HQ:Hid (¬ (j<m/\m<e)):=fun q=>q1 q.1
  have HN:Hid (IR g n D wo):=by
   have q:=HQ.out
   have q2:D=d:=by
    rw[HDD.out]
    by_cases c:j=m
    ·rw[c];exact Pl.rot_nil1 d m e b4
    ·rw[show e=m by omega];exact Pl.rot_nil2 d j m b3
   rw[q2];exact HX.out
  go_wp2_with fail
  refine HKa.out _ _ ?_
  obtain⟨z1,z2,z3⟩:=HFIN.out _ HN.out (OnlyG.refl _ _)
  exact symMerge_t2 d D a m b j e mid nn wc _ hb hz2 ham hmb hm1 hm2 b1 b2 b3 b4 b5 b6 HCT.out z1 z2 z3 HIH.out _ _ _ _ _ _ _ _ _ _ _ _ _ _ _ _ _ _ _ _ _ _ _ _ _ _ _ _ _ _ _ _ _ _ _ _ _ _ _ _ _ _ _ _ _ _ _ _ _ _ _ _ _ _ _ _ _ _ _ _ _ _ _ _ _ _ _ _ _ _ _ _ _ _ _ _ _ _ _ _ _ _ _ _ _ _ _ _ _ _ _ _ _ _ _ _ _ _ _ _ _ _ _ _ _ _ _ _ _ _ _ _ _ _ _ _ _ _ _ _ _ _ _ _ _ _ _ _ _ _ _ _ _ _ _ _ _ _ _ _ _ _ _ _ _ _ _ _ _ _ _ _ _ _ _ _ _ _ _ _ _ _ _ _ _ _ _ _ _ _ _ _ _ _ _ _ _ _ _ _ _ _ _ _ _ _ _ _ _ _ _ _ _ _ _ _ _ _ _ _ _ _ _ _ _ _ _ _ _ _ _
set_option maxRecDepth 100000 in
theorem symMerge_3 {gx ga gs N cs g n c:Nat} {K:Nat->Int} (d:Nat->Nat) (a m b:Nat) (w:World) (h:Sg gx ga gs N cs g n K d w) (ham:a<m) (hmb:m<b) (hb:b<=n) (hs:Pl.Srt K d a m) (ht:Pl.Srt K d m b) (hn:Pl.Apt d a m b) (h1:m≠a+1) (h2:b≠m+1)
  (hIH:∀ (d:Nat->Nat) (a' m' b':Nat) (w:World),b'-a'<b-a->Sg gx ga gs N cs g n K d w->a'<m'->m'<b'->b'<=n->Pl.Srt K d a' m'->Pl.Srt K d m' b'->Pl.Apt d a' m' b'->Calls Tryz.prog 126 #[.slice (some ⟨g,0,none⟩) n c,.int .i64 (a':Int),.int .i64 (m':Int),.int .i64 (b':Int),.func (.func 106) #[] #[.pointer (some ⟨gx,0,none⟩)]] w fun e w'=>SrtSaid K g n a' b' d w e w') :
  Calls Tryz.prog 126 #[.slice (some ⟨g,0,none⟩) n c,.int .i64 (a:Int),.int .i64 (m:Int),.int .i64 (b:Int),.func (.func 106) #[] #[.pointer (some ⟨gx,0,none⟩)]] w fun e w'=>SrtSaid K g n a b d w e w':=by
 have HIH:Hid (∀ (d:Nat->Nat) (a' m' b':Nat) (w:World),b'-a'<b-a->Sg gx ga gs N cs g n K d w->a'<m'->m'<b'->b'<=n->Pl.Srt K d a' m'->Pl.Srt K d m' b'->Pl.Apt d a' m' b'->Calls Tryz.prog 126 #[.slice (some ⟨g,0,none⟩) n c,.int .i64 (a':Int),.int .i64 (m':Int),.int .i64 (b':Int),.func (.func 106) #[] #[.pointer (some ⟨gx,0,none⟩)]] w fun e w'=>SrtSaid K g n a' b' d w e w'):=hIH
 have H0:Hid (Sg gx ga gs N cs g n K d w/\Pl.Srt K d a m/\Pl.Srt K d m b/\Pl.Apt d a m b):=⟨h,hs,ht,hn⟩
 have hz:(a:Int)<=4000/\(m:Int)<=4000/\(b:Int)<=4000/\(n:Int)<=4000:=by have:=h.nn;omega
 have hz2:n<=4000:=h.nn
 clear h hs ht hn
 have e0:((m:Int)-(a:Int) == 1)=false:=by simp;omega
 have e9:((b:Int)-(m:Int) == 1)=false:=by simp;omega
 obtain⟨mid,hmid⟩:∃ mid,mid=(a+b) / 2:=⟨_,rfl⟩
 have HMID:Hid (mid=(a+b) / 2):=hmid
 have e1:((a:Int)+(b:Int)) / 2=(mid:Int):=by omega
 obtain⟨nn,hnn⟩:∃ nn,nn=mid+m:=⟨_,rfl⟩
 have HNN:Hid (nn=mid+m):=hnn
 have e2:(mid:Int)+(m:Int)=(nn:Int):=by omega
 obtain⟨p,hp⟩:∃ p,p=nn-1:=⟨_,rfl⟩
 have HP:Hid (p=nn-1):=hp
 have e3:(nn:Int)-1=(p:Int):=by omega
 have hbd:a<mid/\mid<b/\(nn:Int)<=8000:=by omega
 obtain⟨sA,hsA⟩:∃ x,x=Pl.smA a m b:=⟨_,rfl⟩
 obtain⟨sR,hsR⟩:∃ x,x=Pl.smR a m b:=⟨_,rfl⟩
 have HSA:Hid (sA=Pl.smA a m b/\sR=Pl.smR a m b):=⟨hsA,hsR⟩
 have HSM:Hid ((mid<m/\sA=nn-b/\b<=nn/\sR=mid)\/(¬ mid<m/\sA=a/\sR=m)):=by
  have q:=Pl.sm_bd ham hmb
  rw[hsA,hsR,hnn]
  unfold Pl.smA Pl.smR
  rw[<- hmid]
  by_cases c:m>mid
  ·rw[if_pos c,if_pos c];exact .inl ⟨c,rfl,by omega,rfl⟩
  ·rw[if_neg c,if_neg c];exact .inr ⟨by omega,rfl,rfl⟩
 clear h1 h2 hIH hmid hnn hp hsA hsR
 go_enter Tryz.func126,Tryz.ntmps126
 go_upto_if 140 with fail
 go_cut [20,21] (fun s20 s21 wx=>s20=.int .i64 (sA:Int)/\s21=.int .i64 (sR:Int)/\wx=w)
 case first=>
  rcases HSM.out with ⟨q1,q2,q3,q4⟩ | ⟨q1,q2,q3⟩
  ·have hc:(mid:Int)<(m:Int):=by omega
   have e4:(nn:Int)-(b:Int)=(sA:Int):=by omega
   have HQ:Hid (sR=mid):=q4
   clear q2 q4
   go_wp2_with fail
   go_meet
   exact⟨rfl,by rw[HQ.out],rfl⟩
  ·have hc:¬ (mid:Int)<(m:Int):=by omega
   have HQ:Hid (sA=a/\sR=m):=⟨q2,q3⟩
   clear q2 q3
   go_wp2_with fail
   go_meet
   exact⟨by rw[HQ.out.1],by rw[HQ.out.2],rfl⟩
 case rest=>
  obtain⟨rfl,rfl,rfl⟩:=hcut
  go_wp2_with fail
  go_loopw [20,21] (fun s r W=>∃ i j:Nat,s=.int .i64 (i:Int)/\r=.int .i64 (j:Int)/\i<=j/\j<=m/\Hid (IR g n d W/\OnlyG g wc W/\Pl.Sct K d a m b i j)) (fun p q _=>(intOf q).toNat-(intOf p).toNat)
  case atStart=>
   have q:=Pl.sm_bd ham hmb
   obtain⟨q1,q2⟩:=HSA.out
   exact⟨sA,sR,rfl,rfl,by omega,by omega,H0.out.1.row,OnlyG.refl _ _,by rw[q1,q2];exact Pl.Sct.start K d ham hmb⟩
  case round=>
   obtain⟨i,j,rfl,rfl,hij,hjm,HY⟩:=hrel
   by_cases hlt:i<j
   ·have hli:(i:Int)<(j:Int):=by omega
    obtain⟨h,hh⟩:∃ h:Nat,h=(i+j) / 2:=⟨_,rfl⟩
    have e4:((i:Int)+(j:Int)) / 2=(h:Int):=by omega
    have hh1:i<=h/\h<j:=by omega
    clear hh
    have HSC:=HY.out.2.2
    have hb5:m<=mid+m-1-h/\mid+m-1-h<b/\a<=h:=by
     have q:=Pl.sm_bd ham hmb
     have q5:=q.2.2.2.2 h (by have:=HSC.1;omega) (by have:=HSC.2.2.1;omega)
     rw[<- HMID.out]at q5
     exact⟨q5.1,q5.2,by have:=HSC.1;omega⟩
    obtain⟨ph,hph⟩:∃ ph,ph=mid+m-1-h:=⟨_,rfl⟩
    have e5:(p:Int)-(h:Int)=(ph:Int):=by have:=HP.out;have:=HNN.out;omega
    have hph1:m<=ph/\ph<b/\a<=h:=by omega
    have hphn:(ph:Int)<(n:Int):=by omega
    have hhn:(h:Int)<(n:Int):=by omega
    have HPH:Hid (ph=(a+b) / 2+m-1-h):=by rw[<- HMID.out];exact hph
    clear HSC hb5 hph
    have c1:=HY.out.1.at_ (show ph<n by omega)
    have c2:=HY.out.1.at_ (show h<n by omega)
    obtain⟨x,hx⟩:∃ x,x=d ph:=⟨_,rfl⟩
    obtain⟨y,hy⟩:∃ y,y=d h:=⟨_,rfl⟩
    rw[<- hx]at c1
    rw[<- hy]at c2
    have hyx:y<x:=by rw[hx,hy];exact H0.out.2.2.2 h ph (by omega) (by omega) (by omega) (by omega)
    have HC:Hid (∀ u,(∃ k,u=wr.drewN k)->Calls Tryz.prog 106 #[.int .i64 (x:Int),.int .i64 (y:Int),.pointer (some ⟨gx,0,none⟩)] u fun e u'=>e=.returned (.int .i64 (cmpV (K x) (K y)))/\∃ k,u'=u.drewN k):=by
     have hcm:=H0.out.1.cm.only HY.out.2.1 H0.out.1.n1 H0.out.1.n2 H0.out.1.n3
     have hxN:x<N:=by rw[hx];exact H0.out.1.val ph (by omega)
     have hyN:y<N:=by rw[hy];exact H0.out.1.val h (by omega)
     rintro u ⟨k,rfl⟩
     exact order1_is x y _ (hcm.drewN k) hxN hyN H0.out.1.nN
    obtain⟨z,hzz⟩:∃ z,z=cmpV (K x) (K y):=⟨_,rfl⟩
    rw[<- hzz]at HC
    have HO:Hid (∀ k,IR g n d (wr.drewN k)/\OnlyG g wc (wr.drewN k)):=fun k=>⟨HY.out.1,HY.out.2.1.os,HY.out.2.1.tape,HY.out.2.1.output,HY.out.2.1.size,HY.out.2.1.block⟩
    by_cases hK:K x<K y
    ·have HS:Hid (Pl.Sct K d a m b i h):=HY.out.2.2.no ham hmb H0.out.2.1 H0.out.2.2.1 hh1.1 hh1.2 (by rw[<- HPH.out,<- hx,<- hy];exact Pl.Lx.yes hyx hK)
     have hzn:z<0:=by rw[hzz];exact cmpV_lt.2 hK
     have hzd:decide (z<0)=true:=by simp;omega
     clear HY hx hy hyx hzz hK
     go_upto_region 35 with fail
     go_quiet ((go_at_call 106;exact Calls.quiet_of (HC.out _ ⟨_,rfl⟩)))
     go_wp2_with fail
     exact⟨⟨i,h,rfl,by go_num,hh1.1,by omega,(HO.out _).1,(HO.out _).2,HS.out⟩,by simp[intOf];omega⟩
    ·have HS:Hid (Pl.Sct K d a m b (h+1) j):=HY.out.2.2.yes ham hmb H0.out.2.1 H0.out.2.2.1 hh1.1 hh1.2 (by rw[<- HPH.out,<- hx,<- hy];exact Pl.Lx.no hyx hK)
     have hzn:¬ z<0:=by rw[hzz];exact fun q=>hK (cmpV_lt.1 q)
     have hzd:decide (z<0)=false:=by simp;omega
     clear HY hx hy hyx hzz hK
     go_upto_region 35 with fail
     go_quiet ((go_at_call 106;exact Calls.quiet_of (HC.out _ ⟨_,rfl⟩)))
     go_wp2_with fail
     exact⟨⟨h+1,j,by go_num,rfl,by omega,hjm,(HO.out _).1,(HO.out _).2,HS.out⟩,by simp[intOf];omega⟩
   ·have hli:¬ (i:Int)<(j:Int):=by omega
    have hje:j=i:=by omega
    subst hje
    rename World=>wo
    have HX:Hid (IR g n d wo/\OnlyG g wc wo):=⟨HY.out.1,HY.out.2.1⟩
    have hcut:=HY.out.2.2.cut ham hmb H0.out.2.1 H0.out.2.2.1 H0.out.2.2.2
    rw[<- HMID.out]at hcut
    obtain⟨e,he⟩:∃ e,e=mid+m-j:=⟨_,rfl⟩
    rw[<- he]at hcut
    obtain⟨b1,b2,b3,b4,b5,b6,hct⟩:=hcut
    have HCT:Hid (Pl.Cut K (Pl.rot d j m e) a j mid e b):=hct
    have e4:(nn:Int)-(j:Int)=(e:Int):=by have:=HNN.out;omega
    have HE:Hid (e=mid+m-j):=he
    obtain⟨D,hD⟩:∃ D,D=Pl.rot d j m e:=⟨_,rfl⟩
    have HDD:Hid (D=Pl.rot d j m e):=hD
    rw[<- hD]at HCT
    clear hct he hij hlt HY hD
    go_upto_region 38 with fail
    rename_i K2 hK2
    have HK2:Hid _:=hK2
    clear hK2
    go_wp2_with fail
    refine HK2.out _ _ ?_
    exact symMerge_t d D a m b j e mid nn wc wo H0.out.1 hb hz2 ham hmb hbd.1 hbd.2.1 b1 b2 b3 b4 b5 b6 HCT.out HDD.out HX.out.1 HX.out.2 HIH.out _ _ _ _ _ _ _ _ _ _ _ _ _ _ _ _ _ _ _ _ _ _ _ _ _ _ _ _ _ _ _ _ _ _ _ _ _ _ _ _ _ _ _ _ _ _ _ _ _ _ _ _ _ _ _ _ _ _ _ _ _ _ _ _ _ _ _ _ _ _ _ _ _ _ _ _ _ _ _ _ _ _ _ _ _ _ _ _ _ _ _ _ _ _ _ _ _ _ _ _ _ _ _ _ _ _ _ _ _ _ _ _ _ _ _ _ _ _ _ _ _ _ _ _ _ _ _ _ _ _ _ _ _ _ _ _ _ _ _ _ _ _ _ _ _ _ _ _ _ _ _ _ _ _ _ _ _ _ _ _ _ _ _ _ _ _ _ _ _ _ _ _ _ _ _ _ _ _ _ _ _ _ _ _ _ _ _ _ _ _ _ _ _ _ _ _ _ _ _ _ _ _ _ _ _ _ _ _ _ _ _
theorem symMerge_is {gx ga gs N cs g n c:Nat} {K:Nat->Int}:∀ (L:Nat) (d:Nat->Nat) (a m b:Nat) (w:World),b-a<L->Sg gx ga gs N cs g n K d w->a<m->m<b->b<=n->Pl.Srt K d a m->Pl.Srt K d m b->Pl.Apt d a m b->Calls Tryz.prog 126 #[.slice (some ⟨g,0,none⟩) n c,.int .i64 (a:Int),.int .i64 (m:Int),.int .i64 (b:Int),.func (.func 106) #[] #[.pointer (some ⟨gx,0,none⟩)]] w fun e w'=>SrtSaid K g n a b d w e w'
 | 0,d,a,m,b,w,hL,_,_,_,_,_,_,_=>absurd hL (Nat.not_lt_zero _)
 | L+1,d,a,m,b,w,hL,h,h1,h2,h3,h4,h5,h6=>by
  by_cases c1:m=a+1
  ·exact symMerge_1 d a m b w h h1 h2 h3 h4 h5 h6 c1
  ·by_cases c2:b=m+1
   ·exact symMerge_2 d a m b w h h1 h2 h3 h4 h5 h6 c1 c2
   ·exact symMerge_3 d a m b w h h1 h2 h3 h4 h5 h6 c1 c2 fun d' a' m' b' w' hl=>symMerge_is L d' a' m' b' w' (by omega)
theorem Sg.insort {gx ga gs N cs g n c:Nat} {K:Nat->Int} {d0 d:Nat->Nat} {w:World} (h:Sg gx ga gs N cs g n K d w) {a b q0:Nat} (hL:Pl.Lvl K d0 d0 d 20 n q0) (ha:a=q0*20) (hab:a<=b) (hb:b<=n) (hasc:∀ i j,i<j->j<n->d0 i<d0 j) :
  Calls Tryz.prog 125 #[.slice (some ⟨g,0,none⟩) n c,.int .i64 (a:Int),.int .i64 (b:Int),.func (.func 106) #[] #[.pointer (some ⟨gx,0,none⟩)]] w fun e w'=>SrtSaid K g n a b d w e w':=
 insort_is d a b w h hab hb fun i j i1 i2 i3=>by rw[hL.rest i (by omega),hL.rest j (by omega)];exact hasc i j i2 (by omega)
set_option maxRecDepth 100000 in
theorem stable_is {gx ga gs N cs g n c:Nat} {K:Nat->Int} (d:Nat->Nat) (w:World) (h:Sg gx ga gs N cs g n K d w) (hasc:∀ i j,i<j->j<n->d i<d j) :
  Calls Tryz.prog 121 #[.slice (some ⟨g,0,none⟩) n c,.int .i64 (n:Int),.func (.func 106) #[] #[.pointer (some ⟨gx,0,none⟩)]] w fun e w'=>SrtSaid K g n 0 n d w e w':=by
 have H0:Hid (Sg gx ga gs N cs g n K d w/\∀ i j,i<j->j<n->d i<d j):=⟨h,hasc⟩
 have hz:n<=4000:=h.nn
 clear h hasc
 go_enter Tryz.func121,Tryz.ntmps121
 go_wp2_with fail
 go_loopw [7,8] (fun s t W=>∃ a q0:Nat,a=q0*20/\a<=n/\s=.int .i64 (a:Int)/\t=.int .i64 ((a+20:Nat):Int)/\Hid (∃ D,IR g n D W/\OnlyG g w W/\Pl.Lvl K d d D 20 n q0)) (fun s _ _=>n-(intOf s).toNat)
 case atStart=>exact⟨0,0,by omega,Nat.zero_le _,by go_num,by go_num,d,H0.out.1.row,OnlyG.refl _ _,Pl.Lvl.start H0.out.2 20⟩
 case round=>
  obtain⟨a,q0,ha,han,rfl,rfl,HX⟩:=hrel
  obtain⟨D,x1,x2,x3⟩:=HX.out
  have HD:Hid (Sg gx ga gs N cs g n K D wr/\OnlyG g w wr/\Pl.Lvl K d d D 20 n q0):=⟨H0.out.1.on x1 x2 x3.sam (Nat.le_refl _),x2,x3⟩
  have HA:Hid (a=q0*20):=ha
  clear HX x1 x2 x3 ha
  rename World=>wo
  obtain⟨b,hb⟩:∃ b,b=a+20:=⟨_,rfl⟩
  rw[<- hb]
  have hbz:(a:Int)<=4000/\(b:Int)<=4020/\(n:Int)<=4000:=by omega
  by_cases hlt:b<=n
  ·have hli:(b:Int)<=(n:Int):=by omega
   have HR:Hid (Calls Tryz.prog 125 #[.slice (some ⟨g,0,none⟩) n c,.int .i64 (a:Int),.int .i64 (b:Int),.func (.func 106) #[] #[.pointer (some ⟨gx,0,none⟩)]] wo fun e w'=>SrtSaid K g n a b D wo e w'):=HD.out.1.insort HD.out.2.2 HA.out (by omega) hlt H0.out.2
   have HB:Hid (b=a+20):=hb
   clear hb
   go_wp2_with (go_at_call 125;refine HR.out.mono ?_;rintro e u ⟨rfl,hq⟩; have HN:Hid (∃ D1,IR g n D1 u/\OnlyG g wo u/\Pl.Sam a b D D1/\Pl.Srt K D1 a b):=hq;clear hq HR)
   obtain⟨D1,z1,z2,z3,z4⟩:=HN.out
   have hA:=HA.out
   have hB:=HB.out
   refine⟨⟨b,q0+1,by omega,hlt,rfl,by go_num,D1,z1,HD.out.2.1.trans z2,?_⟩,by simp[intOf];omega⟩
   subst hA
   exact HD.out.2.2.next (by omega) (by omega) z3 z4
  ·have hli:¬ (b:Int)<=(n:Int):=by omega
   have HR:Hid (Calls Tryz.prog 125 #[.slice (some ⟨g,0,none⟩) n c,.int .i64 (a:Int),.int .i64 (n:Int),.func (.func 106) #[] #[.pointer (some ⟨gx,0,none⟩)]] wo fun e w'=>SrtSaid K g n a n D wo e w'):=HD.out.1.insort HD.out.2.2 HA.out han (Nat.le_refl _) H0.out.2
   have HB:Hid (b=a+20/\¬ b<=n):=⟨hb,hlt⟩
   clear hb hlt
   go_wp2_with (go_at_call 125;refine HR.out.mono ?_;rintro e u ⟨rfl,hq⟩; have HN:Hid (∃ D1,IR g n D1 u/\OnlyG g wo u/\Pl.Sam a n D D1/\Pl.Srt K D1 a n):=hq;clear hq HR)
   rename World=>w1
   have HV:Hid (∃ D,IR g n D w1/\OnlyG g w w1/\(∀ q,Pl.Srt K D (q*20) (min (q*20+20) n))/\Pl.NS D 20 n/\Pl.Sam 0 n d D):=by
    obtain⟨D1,z1,z2,z3,z4⟩:=HN.out
    have hA:=HA.out
    have hB:=HB.out
    subst hA
    have q:=HD.out.2.2.next (b:=n) (by omega) (by omega) z3 z4
    exact⟨D1,z1,HD.out.2.1.trans z2,q.all (by omega),q.ns,q.sam⟩
   clear HN HD HA HB hli hbz han D
   go_loopw [6] (fun s W=>∃ bs:Nat,1<=bs/\bs<=8000/\s=.int .i64 (bs:Int)/\Hid (∃ D,IR g n D W/\OnlyG g w W/\(∀ q,Pl.Srt K D (q*bs) (min (q*bs+bs) n))/\Pl.NS D bs n/\Pl.Sam 0 n d D)) (fun s _=>n-(intOf s).toNat)
   case atStart=>exact⟨20,by omega,by omega,by go_num,HV.out⟩
   case round=>
    obtain⟨bs,hb1,hb2,rfl,HX⟩:=hrel
    rename World=>w2
    by_cases hlt:bs<n
    rotate_left
    ·have hli:¬ (bs:Int)<(n:Int):=by omega
     have HE:Hid (SrtSaid K g n 0 n d w (.returned (.tuple #[])) w2):=by
      obtain⟨D,x1,x2,x3,x4,x5⟩:=HX.out
      have q:=x3 0
      rw[Nat.zero_mul,Nat.zero_add]at q
      exact⟨rfl,D,x1,x2,x5,q.le (Nat.le_refl _) (by omega)⟩
     clear HX HV
     go_wp2_with fail
     go_end0
     exact HE.out
    have hli:(bs:Int)<(n:Int):=by omega
    obtain⟨DL,x1,x2,x3,x4,x5⟩:=HX.out
    obtain⟨bb,hbb⟩:∃ bb,bb=2*bs:=⟨_,rfl⟩
    have e1:2*(bs:Int)=(bb:Int):=by omega
    have e2:(bs:Int)*2=(bb:Int):=by omega
    have hbb2:(bb:Int)<=8000:=by omega
    have hbb1:bs<bb:=by omega
    have HBB:Hid (bb=2*bs):=hbb
    have HL:Hid ((∀ q,Pl.Srt K DL (q*bs) (min (q*bs+bs) n))/\Pl.NS DL bs n):=⟨x3,x4⟩
    have HS:Hid (IR g n DL w2/\OnlyG g w w2/\Pl.Lvl K d DL DL bb n 0):=⟨x1,x2,fun q hq=>by omega,by rw[hbb];exact x4.two,fun _ _=>rfl,x5⟩
    clear HX x1 x2 x3 x4 x5 hbb HV
    go_wp2_with fail
    go_loopw [7,8] (fun s t W=>∃ a q0:Nat,Hid (a=q0*bb)/\a<=n/\s=.int .i64 (a:Int)/\t=.int .i64 ((a+bb:Nat):Int)/\Hid (∃ D,IR g n D W/\OnlyG g w W/\Pl.Lvl K d DL D bb n q0)) (fun s _ _=>n-(intOf s).toNat)
    case atStart=>exact⟨0,0,(Nat.zero_mul _).symm,Nat.zero_le _,by go_num,by rw[Nat.zero_add],DL,HS.out⟩
    case round=>
     obtain⟨a,q0,HA,han,rfl,rfl,HX⟩:=hrel
     obtain⟨D,x1,x2,x3⟩:=HX.out
     have HD:Hid (Sg gx ga gs N cs g n K D wr/\OnlyG g w wr/\Pl.Lvl K d DL D bb n q0):=⟨H0.out.1.on x1 x2 x3.sam (Nat.le_refl _),x2,x3⟩
     clear HX x1 x2 x3
     rename World=>w3
     obtain⟨b,hb⟩:∃ b,b=a+bb:=⟨_,rfl⟩
     obtain⟨m,hm⟩:∃ m,m=a+bs:=⟨_,rfl⟩
     rw[<- hb]
     have HB:Hid (b=a+bb/\m=a+bs):=⟨hb,hm⟩
     have e3:(a:Int)+(bs:Int)=(m:Int):=by omega
     obtain⟨b2,hb2⟩:∃ b2,b2=b+bb:=⟨_,rfl⟩
     have HB2:Hid (b2=b+bb):=hb2
     have e4:(b:Int)+(bb:Int)=(b2:Int):=by omega
     have hb2z:(b2:Int)<=20000:=by omega
     have hbz:(a:Int)<=4000/\(b:Int)<=12000/\(n:Int)<=4000/\(m:Int)<=12000:=by omega
     have HP:Hid (∀ b',b'=min (a+bb) n->Pl.Srt K D a (min m b')/\Pl.Srt K D m b'/\Pl.Apt D a m b'):=fun b' hb'=>by
      have h3:=HD.out.2.2
      have hA:=HA.out
      rw[HBB.out]at h3 hA hb'
      have q:=h3.pre HL.out.1 HL.out.2 (b:=b') (by rw[hb',hA])
      rw[<- hA,<- hm]at q
      exact q
     clear hb hm hb2
     by_cases hlt2:b<=n
     ·have hli2:(b:Int)<=(n:Int):=by omega
      have HR:Hid (Calls Tryz.prog 126 #[.slice (some ⟨g,0,none⟩) n c,.int .i64 (a:Int),.int .i64 (m:Int),.int .i64 (b:Int),.func (.func 106) #[] #[.pointer (some ⟨gx,0,none⟩)]] w3 fun e w'=>SrtSaid K g n a b D w3 e w'):=by
       have hB:=HB.out
       obtain⟨p1,p2,p3⟩:=HP.out b (by omega)
       exact symMerge_is (b-a+1) D a m b w3 (by omega) HD.out.1 (by omega) (by omega) hlt2 (p1.le (Nat.le_refl _) (by omega)) p2 p3
      go_wp2_with (go_at_call 126;refine HR.out.mono ?_;rintro e u ⟨rfl,hq⟩; have HN:Hid (∃ D1,IR g n D1 u/\OnlyG g w3 u/\Pl.Sam a b D D1/\Pl.Srt K D1 a b):=hq;clear hq HR)
      obtain⟨D1,z1,z2,z3,z4⟩:=HN.out
      have hB:=HB.out
      have hA:=HA.out
      refine⟨⟨b,q0+1,?_,hlt2,rfl,by rw[<- HB2.out],D1,z1,HD.out.2.1.trans z2,?_⟩,by simp[intOf];omega⟩
      ·show b=_;rw[Nat.add_mul,Nat.one_mul,<- hA];exact hB.1
      ·subst hA
       exact HD.out.2.2.next (by omega) (by omega) z3 z4
     ·have hli2:¬ (b:Int)<=(n:Int):=by omega
      have HFIN:Hid (∀ (D1:Nat->Nat) (W:World),IR g n D1 W->OnlyG g w3 W->Pl.Sam a n D D1->Pl.Srt K D1 a n->∃ D,IR g n D W/\OnlyG g w W/\(∀ q,Pl.Srt K D (q*bb) (min (q*bb+bb) n))/\Pl.NS D bb n/\Pl.Sam 0 n d D):=fun D1 W z1 z2 z3 z4=>by
       have hB:=HB.out
       have hA:=HA.out
       subst hA
       have q:=HD.out.2.2.next (b:=n) (by omega) (by omega) z3 z4
       exact⟨D1,z1,HD.out.2.1.trans z2,q.all (by rw[Nat.add_mul,Nat.one_mul];omega),q.ns,q.sam⟩
      by_cases hmn:m<n
      ·have hmi:(m:Int)<(n:Int):=by omega
       have HR:Hid (Calls Tryz.prog 126 #[.slice (some ⟨g,0,none⟩) n c,.int .i64 (a:Int),.int .i64 (m:Int),.int .i64 (n:Int),.func (.func 106) #[] #[.pointer (some ⟨gx,0,none⟩)]] w3 fun e w'=>SrtSaid K g n a n D w3 e w'):=by
        have hB:=HB.out
        obtain⟨p1,p2,p3⟩:=HP.out n (by omega)
        exact symMerge_is (n-a+1) D a m n w3 (by omega) HD.out.1 (by omega) hmn (Nat.le_refl _) (p1.le (Nat.le_refl _) (by omega)) p2 p3
       go_wp2_with (go_at_call 126;refine HR.out.mono ?_;rintro e u ⟨rfl,hq⟩; have HN:Hid (∃ D1,IR g n D1 u/\OnlyG g w3 u/\Pl.Sam a n D D1/\Pl.Srt K D1 a n):=hq;clear hq HR)
       obtain⟨D1,z1,z2,z3,z4⟩:=HN.out
       exact⟨⟨bb,by omega,by omega,rfl,HFIN.out D1 _ z1 z2 z3 z4⟩,by simp[intOf];omega⟩
      ·have hmi:¬ (m:Int)<(n:Int):=by omega
       have HS2:Hid (Pl.Srt K D a n):=by
        have hB:=HB.out
        exact (HP.out n (by omega)).1.le (Nat.le_refl _) (by omega)
       go_wp2_with fail
       exact⟨⟨bb,by omega,by omega,rfl,HFIN.out D _ HD.out.1.row (OnlyG.refl _ _) (Pl.Sam.refl _ _ _) HS2.out⟩,by simp[intOf];omega⟩
theorem sortStable_is {gx ga gs N cs g n c:Nat} {K:Nat->Int} (d:Nat->Nat) (w:World) (h:Sg gx ga gs N cs g n K d w) (hasc:∀ i j,i<j->j<n->d i<d j) :
  Calls Tryz.prog 105 #[.slice (some ⟨g,0,none⟩) n c,.func (.func 106) #[] #[.pointer (some ⟨gx,0,none⟩)]] w fun e w'=>SrtSaid K g n 0 n d w e w':=by
 have HR:Hid (Calls Tryz.prog 121 #[.slice (some ⟨g,0,none⟩) n c,.int .i64 (n:Int),.func (.func 106) #[] #[.pointer (some ⟨gx,0,none⟩)]] w fun e w'=>SrtSaid K g n 0 n d w e w'):=stable_is d w h hasc
 have hz:n<=4000:=h.nn
 clear h hasc
 go_enter Tryz.func105,Tryz.ntmps105
 go_wp2_with (go_at_call 121;refine HR.out.mono ?_;rintro e u ⟨rfl,hq⟩; have HN:Hid (∃ D1,IR g n D1 u/\OnlyG g w u/\Pl.Sam 0 n d D1/\Pl.Srt K D1 0 n):=hq;clear hq)
 go_end0
 exact⟨rfl,HN.out⟩
end Go.Proofs.YtcgfgmlfbgbkfaaGreatDoor.W
namespace Go.Proofs.YtcgfgmlfbgbkfaaGreatDoor.Pl
def HO (h:Nat->Nat) (m:Nat):Prop:=∀ k,0<k->k<m->h ((k-1) / 2)<=h k
def HU (h:Nat->Nat) (m j:Nat):Prop:=(∀ k,0<k->k<m->k≠j->h ((k-1) / 2)<=h k)/\∀ k,0<k->k<m->(k-1) / 2=j->0<j->h ((j-1) / 2)<=h k
def HD (h:Nat->Nat) (m i:Nat):Prop:=(∀ k,0<k->k<m->(k-1) / 2≠i->h ((k-1) / 2)<=h k)/\∀ k,0<k->k<m->(k-1) / 2=i->0<i->h ((i-1) / 2)<=h k
theorem HU.end0 {h:Nat->Nat} {m:Nat} (H:HU h m 0):HO h m:=fun k k0 km=>H.1 k k0 km (by omega)
theorem HU.end_ {h:Nat->Nat} {m j:Nat} (H:HU h m j) (hl:h ((j-1) / 2)<=h j):HO h m:=fun k k0 km=>if e:k=j then e ▸ hl else H.1 k k0 km e
theorem sw_i (h:Nat->Nat) (i j:Nat):sw h i j i=h j:=by unfold sw;rw[if_pos rfl]
theorem sw_j {h:Nat->Nat} {i j:Nat} (e:i≠j):sw h i j j=h i:=by unfold sw;rw[if_neg (fun c=>e c.symm),if_pos rfl]
theorem sw_o {h:Nat->Nat} {i j k:Nat} (e:k≠i) (e2:k≠j):sw h i j k=h k:=by unfold sw;rw[if_neg e,if_neg e2]
theorem HU.step {h:Nat->Nat} {m j:Nat} (H:HU h m j) (hj:0<j) (hm:j<m) (hl:h j<h ((j-1) / 2)):HU (sw h ((j-1) / 2) j) m ((j-1) / 2):=by
 obtain⟨H1,H2⟩:=H
 have hij:(j-1) / 2≠j:=by omega
 refine⟨fun k k0 km ke=>?_,fun k k0 km kp i0=>?_⟩
 ·by_cases c1:k=j
  ·subst c1;rw[sw_i,sw_j hij];omega
  ·rw[sw_o ke c1]
   by_cases c2:(k-1) / 2=(j-1) / 2
   ·rw[c2,sw_i];have:=H1 k k0 km c1;rw[c2]at this;omega
   ·by_cases c3:(k-1) / 2=j
    ·rw[c3,sw_j hij];exact H2 k k0 km c3 hj
    ·rw[sw_o c2 c3];exact H1 k k0 km c1
 ·have q:=H1 ((j-1) / 2) i0 (by omega) hij
  rw[sw_o (k:=((j-1) / 2-1) / 2) (by omega) (by omega)]
  by_cases c1:k=j
  ·subst c1;rw[sw_j hij];exact q
  ·rw[sw_o (by omega) c1];have:=H1 k k0 km c1;rw[kp]at this;omega
def lesC (h:Nat->Nat) (m i:Nat):Nat:=if 2*i+2<m/\h (2*i+2)<h (2*i+1) then 2*i+2 else 2*i+1
theorem HD.end0 {h:Nat->Nat} {m i:Nat} (H:HD h m i) (hi:m<=2*i+1):HO h m:=fun k k0 km=>H.1 k k0 km (by omega)
theorem lesC_le (h:Nat->Nat) (m i k:Nat) (k0:0<k) (km:k<m) (kp:(k-1) / 2=i):h (lesC h m i)<=h k:=by
 unfold lesC
 rcases (show k=2*i+1\/k=2*i+2 by omega) with e | e <;> subst e <;> split <;> omega
theorem HD.end_ {h:Nat->Nat} {m i:Nat} (H:HD h m i) (hl:h i<=h (lesC h m i)):HO h m:=fun k k0 km=>if e:(k-1) / 2=i then by rw[e];exact Nat.le_trans hl (lesC_le h m i k k0 km e) else H.1 k k0 km e
theorem lesC_par (h:Nat->Nat) (m i:Nat):(lesC h m i-1) / 2=i/\i<lesC h m i:=by unfold lesC;split <;> omega
theorem lesC_lt {h:Nat->Nat} {m i:Nat} (hi:2*i+1<m):lesC h m i<m:=by unfold lesC;split <;> omega
theorem HD.step {h:Nat->Nat} {m i:Nat} (H:HD h m i) (hi:2*i+1<m) (hl:h (lesC h m i)<h i):HD (sw h i (lesC h m i)) m (lesC h m i):=by
 obtain⟨H1,H2⟩:=H
 obtain⟨p1,p2⟩:=lesC_par h m i
 have p3:=lesC_lt (h:=h) hi
 have p4:=lesC_le h m i
 obtain⟨j,hj⟩:∃ j,j=lesC h m i:=⟨_,rfl⟩
 rw[<- hj]at p1 p2 p3 p4 hl ⊢
 have hij:i≠j:=by omega
 refine⟨fun k k0 km ke=>?_,fun k k0 km kp j0=>?_⟩
 ·by_cases c1:(k-1) / 2=i
  ·rw[c1,sw_i]
   by_cases c2:k=j
   ·subst c2;rw[sw_j hij];omega
   ·rw[sw_o (by omega) c2];exact p4 k k0 km c1
  ·by_cases c3:k=i
   ·subst c3;rw[sw_i,sw_o c1 ke];exact H2 j (by omega) p3 p1 k0
   ·rw[sw_o c1 ke,sw_o c3 (fun c=>c1 (c ▸ p1))];exact H1 k k0 km c1
 ·rw[p1,sw_i,sw_o (by omega) (by omega)];have:=H1 k k0 km (by omega);rw[kp]at this;exact this
theorem HO.min {h:Nat->Nat} {m:Nat} (H:HO h m):∀ k,k<m->h 0<=h k:=by
 intro k
 induction k using Nat.strongRecOn with
 | _ k ih=>
  intro km
  by_cases e:k=0
  ·subst e;exact Nat.le_refl _
  ·exact Nat.le_trans (ih ((k-1) / 2) (by omega) (by omega)) (H k (by omega) km)
def Inj (h:Nat->Nat) (m:Nat):Prop:=∀ i j,i<m->j<m->h i=h j->i=j
def Has (h:Nat->Nat) (m:Nat) (x:Nat):Prop:=∃ i,i<m/\h i=x
theorem Inj.sw {h:Nat->Nat} {m i j:Nat} (H:Inj h m) (hi:i<m) (hj:j<m) (hij:i≠j):Inj (sw h i j) m:=by
 intro a b ha hb e
 have v:∀ k,k<m->(k=i/\Pl.sw h i j k=h j)\/(k=j/\Pl.sw h i j k=h i)\/(k≠i/\k≠j/\Pl.sw h i j k=h k):=fun k hk=>by
  by_cases c:k=i
  ·subst c;exact .inl ⟨rfl,sw_i _ _ _⟩
  ·by_cases c2:k=j
   ·subst c2;exact .inr (.inl ⟨rfl,sw_j hij⟩)
   ·exact .inr (.inr ⟨c,c2,sw_o c c2⟩)
 rcases v a ha with ⟨e1,e2⟩ | ⟨e1,e2⟩ | ⟨e1,e1',e2⟩ <;> rcases v b hb with ⟨f1,f2⟩ | ⟨f1,f2⟩ | ⟨f1,f1',f2⟩ <;> rw[e2,f2]at e <;> have:=H _ _ (by omega) (by omega) e <;> omega
theorem Has.sw {h:Nat->Nat} {m i j:Nat} (hi:i<m) (hj:j<m) (hij:i≠j) (x:Nat):Has (sw h i j) m x↔Has h m x:=by
 constructor
 ·rintro⟨k,hk,e⟩
  by_cases c:k=i
  ·subst c;rw[sw_i]at e;exact⟨j,hj,e⟩
  ·by_cases c2:k=j
   ·subst c2;rw[sw_j hij]at e;exact⟨i,hi,e⟩
   ·rw[sw_o c c2]at e;exact⟨k,hk,e⟩
 ·rintro⟨k,hk,e⟩
  by_cases c:k=i
  ·subst c;exact⟨j,hj,by rw[sw_j hij];exact e⟩
  ·by_cases c2:k=j
   ·subst c2;exact⟨i,hi,by rw[sw_i];exact e⟩
   ·exact⟨k,hk,by rw[sw_o c c2];exact e⟩
structure Hp (h:Nat->Nat) (m:Nat) (S:Nat->Prop):Prop where
 ord:HO h m
 inj:Inj h m
 mem:∀ x,S x↔Has h m x
theorem Hp.nil (h:Nat->Nat):Hp h 0 (fun _=>False):=⟨fun k k0 km=>by omega,fun i j hi=>by omega,fun x=>⟨fun c=>c.elim,fun ⟨i,hi,_⟩=>by omega⟩⟩
structure Hq (h:Nat->Nat) (m:Nat) (S:Nat->Prop):Prop where
 inj:Inj h m
 mem:∀ x,S x↔Has h m x
theorem Hq.sw {h:Nat->Nat} {m:Nat} {S:Nat->Prop} (H:Hq h m S) {i j:Nat} (hi:i<m) (hj:j<m) (hij:i≠j):Hq (sw h i j) m S:=⟨H.inj.sw hi hj hij,fun x=>(H.mem x).trans (Has.sw hi hj hij x).symm⟩
theorem Hp.q {h:Nat->Nat} {m:Nat} {S:Nat->Prop} (H:Hp h m S):Hq h m S:=⟨H.inj,H.mem⟩
theorem Hp.congr {h h':Nat->Nat} {m:Nat} {S:Nat->Prop} (H:Hp h m S) (e:∀ i,i<m->h' i=h i):Hp h' m S:=
 ⟨fun k k0 km=>by rw[e _ (by omega),e _ km];exact H.ord k k0 km,fun i j hi hj=>by rw[e _ hi,e _ hj];exact H.inj i j hi hj,fun x=>(H.mem x).trans ⟨fun ⟨i,hi,q⟩=>⟨i,hi,(e i hi).trans q⟩,fun ⟨i,hi,q⟩=>⟨i,hi,(e i hi).symm.trans q⟩⟩⟩
def pushH (h:Nat->Nat) (m x:Nat) (k:Nat):Nat:=if k=m then x else h k
theorem Hp.push {h:Nat->Nat} {m x:Nat} {S:Nat->Prop} (H:Hp h m S) (hx:¬ S x):Hq (pushH h m x) (m+1) (fun y=>S y\/y=x)/\HU (pushH h m x) (m+1) m:=by
 have v:∀ k,k<m->pushH h m x k=h k:=fun k hk=>if_neg (by omega)
 have vm:pushH h m x m=x:=if_pos rfl
 refine⟨⟨fun i j hi hj e=>?_,fun y=>⟨?_,?_⟩⟩,fun k k0 km ke=>?_,fun k k0 km kp=>by omega⟩
 ·by_cases c:i=m <;> by_cases c2:j=m
  ·omega
  ·subst c;rw[vm,v j (by omega)]at e;exact absurd ((H.mem x).2 ⟨j,by omega,e.symm⟩) hx
  ·subst c2;rw[vm,v i (by omega)]at e;exact absurd ((H.mem x).2 ⟨i,by omega,e⟩) hx
  ·rw[v i (by omega),v j (by omega)]at e;exact H.inj i j (by omega) (by omega) e
 ·rintro (c | c)
  ·obtain⟨i,hi,e⟩:=(H.mem y).1 c;exact⟨i,by omega,by rw[v i hi];exact e⟩
  ·exact⟨m,by omega,by rw[vm,c]⟩
 ·rintro⟨i,hi,e⟩
  by_cases c:i=m
  ·subst c;rw[vm]at e;exact .inr e.symm
  ·rw[v i (by omega)]at e;exact .inl ((H.mem y).2 ⟨i,by omega,e⟩)
 ·rw[v k (by omega),v _ (by omega)];exact H.ord k k0 (by omega)
theorem Hp.pop {h:Nat->Nat} {m:Nat} {S:Nat->Prop} (H:Hp h (m+1) S):S (h 0)/\(∀ y,S y->h 0<=y)/\Hq (sw h 0 m) m (fun y=>S y/\y≠h 0)/\HD (sw h 0 m) m 0/\sw h 0 m m=h 0:=by
 refine⟨(H.mem _).2 ⟨0,by omega,rfl⟩,fun y hy=>?_,⟨fun i j hi hj e=>?_,fun y=>⟨?_,?_⟩⟩,⟨fun k k0 km kp=>?_,fun k k0 km kp i0=>by omega⟩,?_⟩
 ·obtain⟨i,hi,e⟩:=(H.mem y).1 hy;rw[<- e];exact H.ord.min i hi
 ·by_cases c:m=0
  ·omega
  ·exact (H.inj.sw (i:=0) (j:=m) (by omega) (by omega) (by omega)) i j (by omega) (by omega) e
 ·rintro⟨hy,hn⟩
  obtain⟨i,hi,e⟩:=(H.mem y).1 hy
  by_cases c:i=0
  ·subst c;exact absurd e.symm hn
  ·by_cases c2:i=m
   ·subst c2;exact⟨0,by omega,by rw[sw_i];exact e⟩
   ·exact⟨i,by omega,by rw[sw_o c c2];exact e⟩
 ·rintro⟨i,hi,e⟩
  by_cases c:i=0
  ·subst c;rw[sw_i]at e
   refine⟨(H.mem y).2 ⟨m,by omega,e⟩,fun q=>?_⟩
   have:=H.inj m 0 (by omega) (by omega) (e.trans q);omega
  ·rw[sw_o c (by omega)]at e
   refine⟨(H.mem y).2 ⟨i,by omega,e⟩,fun q=>?_⟩
   have:=H.inj i 0 (by omega) (by omega) (e.trans q);omega
 ·rw[sw_o (by omega) (by omega),sw_o (by omega) (by omega)];exact H.ord k k0 (by omega)
 ·by_cases c:m=0
  ·subst c;rw[sw_i]
  ·rw[sw_j (by omega)]
end Go.Proofs.YtcgfgmlfbgbkfaaGreatDoor.Pl
