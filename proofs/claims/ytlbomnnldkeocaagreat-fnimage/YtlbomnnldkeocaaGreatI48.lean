import Derived.Test.YtlbomnnldkeocaaGreatI47
set_option linter.unusedVariables false
set_option linter.unusedSimpArgs false
set_option maxHeartbeats 16000000
namespace Go.Proofs.YtlbomnnldkeocaaGreat.W
open Go.RowKit Go.Shelf Go.Maps Go.WideMaps Go.Sort
variable {lo:Nat} {xs:List Pl.Ln} {stack:Int} {len:Nat}
theorem CY {P:Program} {w:World} {a:Addr} {m:Mode} (fn:Fn) (first captured:Array Value):(store a (.func fn first captured) m).run P w=stored P w a (.func fn first captured) m:=run_store P w a _ m rfl
attribute [local go_sem] CY
theorem KZ (u:World) (c:Array Value) (t:TypeId) (b j:Nat) (hb:b=u.heap.size):(u.alloc (.cells c t)).frozen? ⟨b,j,none⟩=false:=frozen_of_row _ _ j _ t (bL hb)
theorem IE {u:World} {B B':Nat} {e:TypeId} {s n:Nat} {v:Value} {ys:List Value} (h:u.ownsRow B e s v n ys) (hb:B'<=B):u.ownsRow B' e s v n ys:=by
 refine⟨h.1,?_⟩
 rcases h.2 with q | ⟨g,cap,cur,e1,e2,r⟩
 ·exact .inl q
 ·exact .inr ⟨g,cap,cur,e1,Nat.le_trans hb e2,r⟩
def P5 (xs:List Pl.Ln):Prop:=¬ ((Pl.cu xs xs.length).t=0\/65536<(Pl.cu xs xs.length).t)
def P6 (xs:List Pl.Ln):Prop:=¬ 65536<(Pl.cu xs xs.length).b
def P8 (xs:List Pl.Ln) (j:Nat):Prop:=¬ ((Pl.cu xs j).d=true\/(Pl.cu xs xs.length).t<=(Pl.cu xs j).t)
def P9 (stack:Int):Prop:=0<=stack/\stack<=65536/\stack % 16=0
theorem xU {z:Int} (h:z=-1):¬ 0<=z:=by omega
theorem UT (h:¬ 0<=(if 20000<len then 20000 else Pl.aV (fun i=>!lF (Pl.gl xs i)) len:Int)):len<=20000:=by
 by_cases q:20000<len
 ·rw[if_pos q]at h;omega
 ·omega
theorem Pb (h:¬ 0<=(if 20000<len then 20000 else Pl.aV (fun i=>!lF (Pl.gl xs i)) len:Int)):Pl.aV (fun i=>!lF (Pl.gl xs i)) len=-1:=by
 rw[if_neg (by have:=UT h;omega)]at h
 exact (Pl.dO h).1
theorem Pf (hl:xs.length=len) (h:0<=(if 20000<len then 20000 else Pl.aV (fun i=>!lF (Pl.gl xs i)) len:Int)):Pl.gI (fun i=>lF (Pl.gl xs i)) xs stack=(1,if 20000<len then 20000 else Pl.aV (fun i=>!lF (Pl.gl xs i)) len):=by
 subst hl
 by_cases q:20000<xs.length
 ·rw[if_pos q];exact Pl.Bp q
 ·rw[if_neg q]at h ⊢; exact Pl.Bq (by omega) h
theorem NG (h:0<=Pl.CW xs):(Pl.cu xs xs.length).t=0\/65536<(Pl.cu xs xs.length).t:=by
 unfold Pl.CW at h
 by_cases q:(Pl.cu xs xs.length).t=0\/65536<(Pl.cu xs xs.length).t
 ·exact q
 ·rw[if_neg q]at h;omega
theorem Av (h:¬ 0<=Pl.CW xs):¬ ((Pl.cu xs xs.length).t=0\/65536<(Pl.cu xs xs.length).t):=fun q=>by
 unfold Pl.CW at h
 rw[if_pos q]at h;omega
theorem Pg (h:0<=Pl.CW xs):Pl.CW xs=0:=by
 unfold Pl.CW
 rw[if_pos (NG h)]
theorem NH (h:0<=Pl.stA xs):∀ j,Pl.lb xs Pl.dB=some j->(Pl.cu xs j).d=true\/(Pl.cu xs xs.length).t<=(Pl.cu xs j).t:=fun j hj=>by
 rw[Pl.vL hj]at h
 by_cases q:(Pl.cu xs j).d=true\/(Pl.cu xs xs.length).t<=(Pl.cu xs j).t
 ·exact q
 ·rw[if_neg q]at h;omega
theorem Ph (h:0<=Pl.stA xs):Pl.stA xs=0:=by
 cases hl:Pl.lb xs Pl.dB with
 | none=>exact Pl.zB hl
 | some j=>rw[Pl.vL hl,if_pos (NH h j hl)]
theorem Aw (h:¬ 0<=Pl.stA xs):∃ j,Pl.lb xs Pl.dB=some j/\¬ ((Pl.cu xs j).d=true\/(Pl.cu xs xs.length).t<=(Pl.cu xs j).t):=by
 cases hl:Pl.lb xs Pl.dB with
 | none=>rw[Pl.zB hl]at h;omega
 | some j=>exact⟨j,rfl,fun q=>by rw[Pl.vL hl,if_pos q]at h;omega⟩
theorem IG {p:Prop} [Decidable p] (h:0<=(if p then 0 else -1:Int)):p:=by
 by_cases q:p
 ·exact q
 ·rw[if_neg q]at h;omega
theorem UU {p:Prop} [Decidable p] (h:¬ 0<=(if p then 0 else -1:Int)):¬ p:=fun q=>by rw[if_pos q]at h;omega
theorem II {p:Prop} [Decidable p] (h:0<=(if p then -1 else 0:Int)):¬ p:=fun q=>by rw[if_pos q]at h;omega
theorem UW {p:Prop} [Decidable p] (h:¬ 0<=(if p then -1 else 0:Int)):p:=by
 by_cases q:p
 ·exact q
 ·rw[if_neg q]at h;omega
set_option maxRecDepth 100000 in
theorem LA (a:Option Addr) (len cap:Nat) (xs:List Pl.Ln) (stack:Int) (w:World) (h:jE lo w a len cap xs):Calls Tryz.prog 7 #[.slice a len cap,.int .i64 stack] w (bZ xs stack w):=by
 have lM:Hid (xs.length=len):=h.len.1
 obtain⟨v0,hv0⟩:∃ v0,v0=(((w.alloc (.cells #[.slice none 0 0,.slice none 0 0,.int .i64 0,.int .i64 0] 28)).alloc (.map #[] 0)).alloc (.cells #[.slice a len cap,.int .i64 stack,.map (some (w.heap.size+1)),.bool false,.int .i64 0,.int .i64 0] 71)).alloc (.cells #[.func (.func 29) #[.pointer (some ⟨w.heap.size+2,0,none⟩)] #[],.func (.func 30) #[.pointer (some ⟨w.heap.size+2,0,none⟩)] #[],.func (.func 31) #[.pointer (some ⟨w.heap.size+2,0,none⟩)] #[],.func (.func 32) #[.pointer (some ⟨w.heap.size+2,0,none⟩)] #[],.func (.func 33) #[.pointer (some ⟨w.heap.size+2,0,none⟩)] #[],.func (.func 34) #[.pointer (some ⟨w.heap.size+2,0,none⟩)] #[],.func (.func 35) #[.pointer (some ⟨w.heap.size+2,0,none⟩)] #[],.func (.func 36) #[.pointer (some ⟨w.heap.size+2,0,none⟩)] #[],.func (.func 37) #[.pointer (some ⟨w.heap.size+2,0,none⟩)] #[]] 72):=⟨_,rfl⟩
 have HS:Hid (Au lo xs w v0 (w.heap.size+2) (w.heap.size+1) a len cap stack):=by
  have hb1:=aB w (.cells #[.slice none 0 0,.slice none 0 0,.int .i64 0,.int .i64 0] 28)
  have hb:Below w.heap.size w v0:=by rw[hv0];exact hb1.trans (((aB _ _).mono (by simp)).trans (((aB _ _).mono (by simp;omega)).trans ((aB _ _).mono (by simp;omega))))
  have r0:v0.heap[w.heap.size]?=some (.cells #[.slice none 0 0,.slice none 0 0,.int .i64 0,.int .i64 0] 28 (0,0)):=by rw[hv0,Below.heap_alloc _ _ _ (by simp;omega),Below.heap_alloc _ _ _ (by simp;omega),Below.heap_alloc _ _ _ (by simp)];exact heap_alloc_new w _
  have r2:v0.heap[w.heap.size+2]?=some (.cells #[.slice a len cap,.int .i64 stack,.map (some (w.heap.size+1)),.bool false,.int .i64 0,.int .i64 0] 71 (0,0)):=by rw[hv0,Below.heap_alloc _ _ _ (by simp)];exact bL (by simp)
  have om:v0.ownsMap Tryz.prog 9 zZ (w.heap.size+1) 0 (.map []):=by
   have:=World.ownsMap_made (w.alloc (.cells #[.slice none 0 0,.slice none 0 0,.int .i64 0,.int .i64 0] 28)) Tryz.prog 9 zZ
   rw[hv0]
   simpa using (this.alloc (.cells #[.slice a len cap,.int .i64 stack,.map (some (w.heap.size+1)),.bool false,.int .i64 0,.int .i64 0] 71)).alloc (.cells #[.func (.func 29) #[.pointer (some ⟨w.heap.size+2,0,none⟩)] #[],.func (.func 30) #[.pointer (some ⟨w.heap.size+2,0,none⟩)] #[],.func (.func 31) #[.pointer (some ⟨w.heap.size+2,0,none⟩)] #[],.func (.func 32) #[.pointer (some ⟨w.heap.size+2,0,none⟩)] #[],.func (.func 33) #[.pointer (some ⟨w.heap.size+2,0,none⟩)] #[],.func (.func 34) #[.pointer (some ⟨w.heap.size+2,0,none⟩)] #[],.func (.func 35) #[.pointer (some ⟨w.heap.size+2,0,none⟩)] #[],.func (.func 36) #[.pointer (some ⟨w.heap.size+2,0,none⟩)] #[],.func (.func 37) #[.pointer (some ⟨w.heap.size+2,0,none⟩)] #[]] 72)
  refine⟨⟨r2,hb,h,by omega,by omega,by omega⟩,fun B=>⟨⟨.map [],?_,om,fun s=>?_,fun s=>?_⟩,fun i hi=>absurd hi (Nat.not_lt_zero _)⟩,⟨r0,hb⟩,by omega,by omega⟩
  ·exact⟨_,rfl⟩
  ·rfl
  ·rfl
 have HV0:Hid _:=hv0.symm
 clear h hv0
 have hmm:∀ u:World,(Instr.makeMap 67 none).run Tryz.prog u=.ok (.map (some u.heap.size)) (u.alloc (.map #[] 0)):=fun u=>rfl
 have hx0:∀ u:World,(Instr.index 72 (.agg #[.func (.func 29) #[.pointer (some ⟨w.heap.size+1+1,0,none⟩)] #[],.func (.func 30) #[.pointer (some ⟨w.heap.size+1+1,0,none⟩)] #[],.func (.func 31) #[.pointer (some ⟨w.heap.size+1+1,0,none⟩)] #[],.func (.func 32) #[.pointer (some ⟨w.heap.size+1+1,0,none⟩)] #[],.func (.func 33) #[.pointer (some ⟨w.heap.size+1+1,0,none⟩)] #[],.func (.func 34) #[.pointer (some ⟨w.heap.size+1+1,0,none⟩)] #[],.func (.func 35) #[.pointer (some ⟨w.heap.size+1+1,0,none⟩)] #[],.func (.func 36) #[.pointer (some ⟨w.heap.size+1+1,0,none⟩)] #[],.func (.func 37) #[.pointer (some ⟨w.heap.size+1+1,0,none⟩)] #[]]) (.int .i64 0)).run Tryz.prog u=.ok (.func (.func 29) #[.pointer (some ⟨w.heap.size+1+1,0,none⟩)] #[]) u:=fun _=>by kernel_rfl
 have hx1:∀ u:World,(Instr.index 72 (.agg #[.func (.func 29) #[.pointer (some ⟨w.heap.size+1+1,0,none⟩)] #[],.func (.func 30) #[.pointer (some ⟨w.heap.size+1+1,0,none⟩)] #[],.func (.func 31) #[.pointer (some ⟨w.heap.size+1+1,0,none⟩)] #[],.func (.func 32) #[.pointer (some ⟨w.heap.size+1+1,0,none⟩)] #[],.func (.func 33) #[.pointer (some ⟨w.heap.size+1+1,0,none⟩)] #[],.func (.func 34) #[.pointer (some ⟨w.heap.size+1+1,0,none⟩)] #[],.func (.func 35) #[.pointer (some ⟨w.heap.size+1+1,0,none⟩)] #[],.func (.func 36) #[.pointer (some ⟨w.heap.size+1+1,0,none⟩)] #[],.func (.func 37) #[.pointer (some ⟨w.heap.size+1+1,0,none⟩)] #[]]) (.int .i64 1)).run Tryz.prog u=.ok (.func (.func 30) #[.pointer (some ⟨w.heap.size+1+1,0,none⟩)] #[]) u:=fun _=>by kernel_rfl
 have hx2:∀ u:World,(Instr.index 72 (.agg #[.func (.func 29) #[.pointer (some ⟨w.heap.size+1+1,0,none⟩)] #[],.func (.func 30) #[.pointer (some ⟨w.heap.size+1+1,0,none⟩)] #[],.func (.func 31) #[.pointer (some ⟨w.heap.size+1+1,0,none⟩)] #[],.func (.func 32) #[.pointer (some ⟨w.heap.size+1+1,0,none⟩)] #[],.func (.func 33) #[.pointer (some ⟨w.heap.size+1+1,0,none⟩)] #[],.func (.func 34) #[.pointer (some ⟨w.heap.size+1+1,0,none⟩)] #[],.func (.func 35) #[.pointer (some ⟨w.heap.size+1+1,0,none⟩)] #[],.func (.func 36) #[.pointer (some ⟨w.heap.size+1+1,0,none⟩)] #[],.func (.func 37) #[.pointer (some ⟨w.heap.size+1+1,0,none⟩)] #[]]) (.int .i64 2)).run Tryz.prog u=.ok (.func (.func 31) #[.pointer (some ⟨w.heap.size+1+1,0,none⟩)] #[]) u:=fun _=>by kernel_rfl
 have hx3:∀ u:World,(Instr.index 72 (.agg #[.func (.func 29) #[.pointer (some ⟨w.heap.size+1+1,0,none⟩)] #[],.func (.func 30) #[.pointer (some ⟨w.heap.size+1+1,0,none⟩)] #[],.func (.func 31) #[.pointer (some ⟨w.heap.size+1+1,0,none⟩)] #[],.func (.func 32) #[.pointer (some ⟨w.heap.size+1+1,0,none⟩)] #[],.func (.func 33) #[.pointer (some ⟨w.heap.size+1+1,0,none⟩)] #[],.func (.func 34) #[.pointer (some ⟨w.heap.size+1+1,0,none⟩)] #[],.func (.func 35) #[.pointer (some ⟨w.heap.size+1+1,0,none⟩)] #[],.func (.func 36) #[.pointer (some ⟨w.heap.size+1+1,0,none⟩)] #[],.func (.func 37) #[.pointer (some ⟨w.heap.size+1+1,0,none⟩)] #[]]) (.int .i64 3)).run Tryz.prog u=.ok (.func (.func 32) #[.pointer (some ⟨w.heap.size+1+1,0,none⟩)] #[]) u:=fun _=>by kernel_rfl
 have hx4:∀ u:World,(Instr.index 72 (.agg #[.func (.func 29) #[.pointer (some ⟨w.heap.size+1+1,0,none⟩)] #[],.func (.func 30) #[.pointer (some ⟨w.heap.size+1+1,0,none⟩)] #[],.func (.func 31) #[.pointer (some ⟨w.heap.size+1+1,0,none⟩)] #[],.func (.func 32) #[.pointer (some ⟨w.heap.size+1+1,0,none⟩)] #[],.func (.func 33) #[.pointer (some ⟨w.heap.size+1+1,0,none⟩)] #[],.func (.func 34) #[.pointer (some ⟨w.heap.size+1+1,0,none⟩)] #[],.func (.func 35) #[.pointer (some ⟨w.heap.size+1+1,0,none⟩)] #[],.func (.func 36) #[.pointer (some ⟨w.heap.size+1+1,0,none⟩)] #[],.func (.func 37) #[.pointer (some ⟨w.heap.size+1+1,0,none⟩)] #[]]) (.int .i64 4)).run Tryz.prog u=.ok (.func (.func 33) #[.pointer (some ⟨w.heap.size+1+1,0,none⟩)] #[]) u:=fun _=>by kernel_rfl
 have hx5:∀ u:World,(Instr.index 72 (.agg #[.func (.func 29) #[.pointer (some ⟨w.heap.size+1+1,0,none⟩)] #[],.func (.func 30) #[.pointer (some ⟨w.heap.size+1+1,0,none⟩)] #[],.func (.func 31) #[.pointer (some ⟨w.heap.size+1+1,0,none⟩)] #[],.func (.func 32) #[.pointer (some ⟨w.heap.size+1+1,0,none⟩)] #[],.func (.func 33) #[.pointer (some ⟨w.heap.size+1+1,0,none⟩)] #[],.func (.func 34) #[.pointer (some ⟨w.heap.size+1+1,0,none⟩)] #[],.func (.func 35) #[.pointer (some ⟨w.heap.size+1+1,0,none⟩)] #[],.func (.func 36) #[.pointer (some ⟨w.heap.size+1+1,0,none⟩)] #[],.func (.func 37) #[.pointer (some ⟨w.heap.size+1+1,0,none⟩)] #[]]) (.int .i64 5)).run Tryz.prog u=.ok (.func (.func 34) #[.pointer (some ⟨w.heap.size+1+1,0,none⟩)] #[]) u:=fun _=>by kernel_rfl
 have hx6:∀ u:World,(Instr.index 72 (.agg #[.func (.func 29) #[.pointer (some ⟨w.heap.size+1+1,0,none⟩)] #[],.func (.func 30) #[.pointer (some ⟨w.heap.size+1+1,0,none⟩)] #[],.func (.func 31) #[.pointer (some ⟨w.heap.size+1+1,0,none⟩)] #[],.func (.func 32) #[.pointer (some ⟨w.heap.size+1+1,0,none⟩)] #[],.func (.func 33) #[.pointer (some ⟨w.heap.size+1+1,0,none⟩)] #[],.func (.func 34) #[.pointer (some ⟨w.heap.size+1+1,0,none⟩)] #[],.func (.func 35) #[.pointer (some ⟨w.heap.size+1+1,0,none⟩)] #[],.func (.func 36) #[.pointer (some ⟨w.heap.size+1+1,0,none⟩)] #[],.func (.func 37) #[.pointer (some ⟨w.heap.size+1+1,0,none⟩)] #[]]) (.int .i64 6)).run Tryz.prog u=.ok (.func (.func 35) #[.pointer (some ⟨w.heap.size+1+1,0,none⟩)] #[]) u:=fun _=>by kernel_rfl
 have hx7:∀ u:World,(Instr.index 72 (.agg #[.func (.func 29) #[.pointer (some ⟨w.heap.size+1+1,0,none⟩)] #[],.func (.func 30) #[.pointer (some ⟨w.heap.size+1+1,0,none⟩)] #[],.func (.func 31) #[.pointer (some ⟨w.heap.size+1+1,0,none⟩)] #[],.func (.func 32) #[.pointer (some ⟨w.heap.size+1+1,0,none⟩)] #[],.func (.func 33) #[.pointer (some ⟨w.heap.size+1+1,0,none⟩)] #[],.func (.func 34) #[.pointer (some ⟨w.heap.size+1+1,0,none⟩)] #[],.func (.func 35) #[.pointer (some ⟨w.heap.size+1+1,0,none⟩)] #[],.func (.func 36) #[.pointer (some ⟨w.heap.size+1+1,0,none⟩)] #[],.func (.func 37) #[.pointer (some ⟨w.heap.size+1+1,0,none⟩)] #[]]) (.int .i64 7)).run Tryz.prog u=.ok (.func (.func 36) #[.pointer (some ⟨w.heap.size+1+1,0,none⟩)] #[]) u:=fun _=>by kernel_rfl
 have hx8:∀ u:World,(Instr.index 72 (.agg #[.func (.func 29) #[.pointer (some ⟨w.heap.size+1+1,0,none⟩)] #[],.func (.func 30) #[.pointer (some ⟨w.heap.size+1+1,0,none⟩)] #[],.func (.func 31) #[.pointer (some ⟨w.heap.size+1+1,0,none⟩)] #[],.func (.func 32) #[.pointer (some ⟨w.heap.size+1+1,0,none⟩)] #[],.func (.func 33) #[.pointer (some ⟨w.heap.size+1+1,0,none⟩)] #[],.func (.func 34) #[.pointer (some ⟨w.heap.size+1+1,0,none⟩)] #[],.func (.func 35) #[.pointer (some ⟨w.heap.size+1+1,0,none⟩)] #[],.func (.func 36) #[.pointer (some ⟨w.heap.size+1+1,0,none⟩)] #[],.func (.func 37) #[.pointer (some ⟨w.heap.size+1+1,0,none⟩)] #[]]) (.int .i64 8)).run Tryz.prog u=.ok (.func (.func 37) #[.pointer (some ⟨w.heap.size+1+1,0,none⟩)] #[]) u:=fun _=>by kernel_rfl
 have hfz:∀ (c:Array Value) (j:Nat),((((w.alloc (.cells #[.slice none 0 0,.slice none 0 0,.int .i64 0,.int .i64 0] 28)).alloc (.map #[] 0)).alloc (.cells #[.slice a len cap,.int .i64 stack,.map (some (w.heap.size+1)),.bool false,.int .i64 0,.int .i64 0] 71)).alloc (.cells c 72)).frozen? ⟨w.heap.size+1+1+1,j,none⟩=false:=fun c j=>KZ _ c 72 _ j (by simp)
 go_enter Tryz.func7,Tryz.ntmps7
 go_wp2_with fail
 refine wp_loop_rounds 10 ?_
 rw[HV0.out]
 have HC:Hid _:=Zf HS.out
 rw[rounds_succ]
 by_cases hz:0<=(if 20000<len then 20000 else Pl.aV (fun i=>!lF (Pl.gl xs i)) len:Int)
 ·have vP:Hid (Pl.gI (fun i=>lF (Pl.gl xs i)) xs stack=(1,if 20000<len then 20000 else Pl.aV (fun i=>!lF (Pl.gl xs i)) len)):=Pf lM.out hz
  obtain⟨z,hzz⟩:∃ z:Int,z=(if 20000<len then 20000 else Pl.aV (fun i=>!lF (Pl.gl xs i)) len):=⟨_,rfl⟩
  rw[<- hzz]at HC vP hz
  clear hzz HS
  go_wp2_with (go_at_call 29;refine Calls.mono HC.out ?_;rintro e v1 ⟨rfl,hr,_⟩; have HRR:Hid (Rr w v1):=hr;have f0:=cell_of_row v1 w.heap.size 0 _ 28 (0,0) hr.r;have f1:=cell_of_row v1 w.heap.size 1 _ 28 (0,0) hr.r;have f2:=cell_of_row v1 w.heap.size 2 _ 28 (0,0) hr.r;have f3:=cell_of_row v1 w.heap.size 3 _ 28 (0,0) hr.r;have ff:=fun i=>frozen_of_row v1 w.heap.size i _ 28 hr.r;simp only[List.getElem?_toArray,List.getElem?_cons_zero,List.getElem?_cons_succ]at f0 f1 f2 f3;clear hr)
  have g1:=heap_setCell_same v1 w.heap.size 0 _ _ (.slice none 0 0) HRR.out.r
  have g2:=heap_setCell_same _ w.heap.size 1 _ _ (.slice none 0 0) g1
  have g3:=heap_setCell_same _ w.heap.size 2 _ _ (.int .i64 0) g2
  have g4:=heap_setCell_same _ w.heap.size 3 _ _ (.int .i64 0) g3
  refine bodyPost_ret (v:=.tuple #[.agg #[.slice none 0 0,.slice none 0 0,.int .i64 0,.int .i64 0],.int .i64 1,.int .i64 z]) (aQ Tryz.results7 _ _ w.heap.size 28 _ (0,0) _ _ _ rfl rfl rfl g4 Tryz.underlying28 rfl (by kernel_rfl)) rfl ?_
  exact bZ.no vP.out (by decide) ((((HRR.out.low.setCell (p:=⟨w.heap.size,0,none⟩) (Nat.le_refl _) _).setCell (p:=⟨w.heap.size,1,none⟩) (Nat.le_refl _) _).setCell (p:=⟨w.heap.size,2,none⟩) (Nat.le_refl _) _).setCell (p:=⟨w.heap.size,3,none⟩) (Nat.le_refl _) _)
 have HN:Hid (len<=20000):=UT hz
 have HL:Hid (xs.length<=20000):=by show xs.length<=20000;rw[lM.out];exact HN.out
 have tV:Hid (Pl.aV (fun i=>!lF (Pl.gl xs i)) xs.length=-1):=by show _=_;rw[lM.out];exact Pb hz
 have GG:Hid (∀ i,i<xs.length->nA (Pl.gl xs i)):=Jg (Pl.dO (xU tV.out)).2
 obtain⟨z,hzz⟩:∃ z:Int,z=(if 20000<len then 20000 else Pl.aV (fun i=>!lF (Pl.gl xs i)) len):=⟨_,rfl⟩
 rw[<- hzz]at HC hz
 clear hzz HS
 go_wp2_with (go_at_call 29;refine Calls.mono HC.out ?_;rintro e v1 ⟨rfl,hr,hst⟩; have HS:Hid _:=hst hz;clear hr hst)
 clear HC hz
 have HC:Hid _:=Zg HS.out HN.out GG.out
 rw[rounds_succ]
 by_cases hz:0<=(Pl.aV (Pl.dU xs) len:Int)
 ·have vP:Hid (Pl.gI (fun i=>lF (Pl.gl xs i)) xs stack=(2,Pl.aV (Pl.dU xs) len)):=by show _=_;rw[<- lM.out];exact Pl.Mo HL.out tV.out (by rw[lM.out];exact hz)
  obtain⟨z,hzz⟩:∃ z:Int,z=(Pl.aV (Pl.dU xs) len):=⟨_,rfl⟩
  rw[<- hzz]at HC vP hz
  clear hzz HS
  go_wp2_with (go_at_call 30;refine Calls.mono HC.out ?_;rintro e v2 ⟨rfl,hr,_⟩; have HRR:Hid (Rr w v2):=hr;have f0:=cell_of_row v2 w.heap.size 0 _ 28 (0,0) hr.r;have f1:=cell_of_row v2 w.heap.size 1 _ 28 (0,0) hr.r;have f2:=cell_of_row v2 w.heap.size 2 _ 28 (0,0) hr.r;have f3:=cell_of_row v2 w.heap.size 3 _ 28 (0,0) hr.r;have ff:=fun i=>frozen_of_row v2 w.heap.size i _ 28 hr.r;simp only[List.getElem?_toArray,List.getElem?_cons_zero,List.getElem?_cons_succ]at f0 f1 f2 f3;clear hr)
  have g1:=heap_setCell_same v2 w.heap.size 0 _ _ (.slice none 0 0) HRR.out.r
  have g2:=heap_setCell_same _ w.heap.size 1 _ _ (.slice none 0 0) g1
  have g3:=heap_setCell_same _ w.heap.size 2 _ _ (.int .i64 0) g2
  have g4:=heap_setCell_same _ w.heap.size 3 _ _ (.int .i64 0) g3
  refine bodyPost_ret (v:=.tuple #[.agg #[.slice none 0 0,.slice none 0 0,.int .i64 0,.int .i64 0],.int .i64 2,.int .i64 z]) (aQ Tryz.results7 _ _ w.heap.size 28 _ (0,0) _ _ _ rfl rfl rfl g4 Tryz.underlying28 rfl (by kernel_rfl)) rfl ?_
  exact bZ.no vP.out (by decide) ((((HRR.out.low.setCell (p:=⟨w.heap.size,0,none⟩) (Nat.le_refl _) _).setCell (p:=⟨w.heap.size,1,none⟩) (Nat.le_refl _) _).setCell (p:=⟨w.heap.size,2,none⟩) (Nat.le_refl _) _).setCell (p:=⟨w.heap.size,3,none⟩) (Nat.le_refl _) _)
 have Ay:Hid (Pl.aV (Pl.dU xs) xs.length=-1):=by show _=_;rw[lM.out];exact (Pl.dO hz).1
 obtain⟨z,hzz⟩:∃ z:Int,z=(Pl.aV (Pl.dU xs) len):=⟨_,rfl⟩
 rw[<- hzz]at HC hz
 clear hzz HS
 go_wp2_with (go_at_call 30;refine Calls.mono HC.out ?_;rintro e v2 ⟨rfl,hr,hst⟩; have HS:Hid _:=hst hz;clear hr hst)
 clear HC hz
 have HC:Hid _:=Zh HS.out HN.out
 rw[rounds_succ]
 by_cases hz:0<=(Pl.aV (Pl.twice xs) len:Int)
 ·have vP:Hid (Pl.gI (fun i=>lF (Pl.gl xs i)) xs stack=(3,Pl.aV (Pl.twice xs) len)):=by show _=_;rw[<- lM.out];exact Pl.Mq HL.out tV.out Ay.out (by rw[lM.out];exact hz)
  obtain⟨z,hzz⟩:∃ z:Int,z=(Pl.aV (Pl.twice xs) len):=⟨_,rfl⟩
  rw[<- hzz]at HC vP hz
  clear hzz HS
  go_wp2_with (go_at_call 31;refine Calls.mono HC.out ?_;rintro e v3 ⟨rfl,hr,_⟩; have HRR:Hid (Rr w v3):=hr;have f0:=cell_of_row v3 w.heap.size 0 _ 28 (0,0) hr.r;have f1:=cell_of_row v3 w.heap.size 1 _ 28 (0,0) hr.r;have f2:=cell_of_row v3 w.heap.size 2 _ 28 (0,0) hr.r;have f3:=cell_of_row v3 w.heap.size 3 _ 28 (0,0) hr.r;have ff:=fun i=>frozen_of_row v3 w.heap.size i _ 28 hr.r;simp only[List.getElem?_toArray,List.getElem?_cons_zero,List.getElem?_cons_succ]at f0 f1 f2 f3;clear hr)
  have g1:=heap_setCell_same v3 w.heap.size 0 _ _ (.slice none 0 0) HRR.out.r
  have g2:=heap_setCell_same _ w.heap.size 1 _ _ (.slice none 0 0) g1
  have g3:=heap_setCell_same _ w.heap.size 2 _ _ (.int .i64 0) g2
  have g4:=heap_setCell_same _ w.heap.size 3 _ _ (.int .i64 0) g3
  refine bodyPost_ret (v:=.tuple #[.agg #[.slice none 0 0,.slice none 0 0,.int .i64 0,.int .i64 0],.int .i64 3,.int .i64 z]) (aQ Tryz.results7 _ _ w.heap.size 28 _ (0,0) _ _ _ rfl rfl rfl g4 Tryz.underlying28 rfl (by kernel_rfl)) rfl ?_
  exact bZ.no vP.out (by decide) ((((HRR.out.low.setCell (p:=⟨w.heap.size,0,none⟩) (Nat.le_refl _) _).setCell (p:=⟨w.heap.size,1,none⟩) (Nat.le_refl _) _).setCell (p:=⟨w.heap.size,2,none⟩) (Nat.le_refl _) _).setCell (p:=⟨w.heap.size,3,none⟩) (Nat.le_refl _) _)
 have Cq:Hid (Pl.aV (Pl.twice xs) xs.length=-1):=by show _=_;rw[lM.out];exact (Pl.dO hz).1
 have GK:Hid (∀ i,i<xs.length->Pl.twice xs i=false):=(Pl.dO (xU Cq.out)).2
 obtain⟨z,hzz⟩:∃ z:Int,z=(Pl.aV (Pl.twice xs) len):=⟨_,rfl⟩
 rw[<- hzz]at HC hz
 clear hzz HS
 go_wp2_with (go_at_call 31;refine Calls.mono HC.out ?_;rintro e v3 ⟨rfl,hr,hst⟩; have HS:Hid _:=hst hz;clear hr hst)
 clear HC hz
 have HC:Hid _:=Zi HS.out
 rw[rounds_succ]
 by_cases hz:0<=(Pl.aV (Pl.lost xs) len:Int)
 ·have vP:Hid (Pl.gI (fun i=>lF (Pl.gl xs i)) xs stack=(4,Pl.aV (Pl.lost xs) len)):=by show _=_;rw[<- lM.out];exact Pl.Mr HL.out tV.out Ay.out Cq.out (by rw[lM.out];exact hz)
  obtain⟨z,hzz⟩:∃ z:Int,z=(Pl.aV (Pl.lost xs) len):=⟨_,rfl⟩
  rw[<- hzz]at HC vP hz
  clear hzz HS
  go_wp2_with (go_at_call 32;refine Calls.mono HC.out ?_;rintro e v4 ⟨rfl,hr,_⟩; have HRR:Hid (Rr w v4):=hr;have f0:=cell_of_row v4 w.heap.size 0 _ 28 (0,0) hr.r;have f1:=cell_of_row v4 w.heap.size 1 _ 28 (0,0) hr.r;have f2:=cell_of_row v4 w.heap.size 2 _ 28 (0,0) hr.r;have f3:=cell_of_row v4 w.heap.size 3 _ 28 (0,0) hr.r;have ff:=fun i=>frozen_of_row v4 w.heap.size i _ 28 hr.r;simp only[List.getElem?_toArray,List.getElem?_cons_zero,List.getElem?_cons_succ]at f0 f1 f2 f3;clear hr)
  have g1:=heap_setCell_same v4 w.heap.size 0 _ _ (.slice none 0 0) HRR.out.r
  have g2:=heap_setCell_same _ w.heap.size 1 _ _ (.slice none 0 0) g1
  have g3:=heap_setCell_same _ w.heap.size 2 _ _ (.int .i64 0) g2
  have g4:=heap_setCell_same _ w.heap.size 3 _ _ (.int .i64 0) g3
  refine bodyPost_ret (v:=.tuple #[.agg #[.slice none 0 0,.slice none 0 0,.int .i64 0,.int .i64 0],.int .i64 4,.int .i64 z]) (aQ Tryz.results7 _ _ w.heap.size 28 _ (0,0) _ _ _ rfl rfl rfl g4 Tryz.underlying28 rfl (by kernel_rfl)) rfl ?_
  exact bZ.no vP.out (by decide) ((((HRR.out.low.setCell (p:=⟨w.heap.size,0,none⟩) (Nat.le_refl _) _).setCell (p:=⟨w.heap.size,1,none⟩) (Nat.le_refl _) _).setCell (p:=⟨w.heap.size,2,none⟩) (Nat.le_refl _) _).setCell (p:=⟨w.heap.size,3,none⟩) (Nat.le_refl _) _)
 have Jh:Hid (Pl.aV (Pl.lost xs) xs.length=-1):=by show _=_;rw[lM.out];exact (Pl.dO hz).1
 have Qx:Hid (∀ i,i<xs.length->Pl.lost xs i=false):=(Pl.dO (xU Jh.out)).2
 obtain⟨z,hzz⟩:∃ z:Int,z=(Pl.aV (Pl.lost xs) len):=⟨_,rfl⟩
 rw[<- hzz]at HC hz
 clear hzz HS
 go_wp2_with (go_at_call 32;refine Calls.mono HC.out ?_;rintro e v4 ⟨rfl,hr,hst⟩; have HS:Hid _:=hst hz;clear hr hst)
 clear HC hz
 have HC:Hid _:=Zj HS.out GG.out GK.out
 rw[rounds_succ]
 by_cases hz:0<=(Pl.CW xs:Int)
 ·have vP:Hid (Pl.gI (fun i=>lF (Pl.gl xs i)) xs stack=(5,Pl.CW xs)):=by show _=_;rw[Pg hz];exact Pl.Ms HL.out tV.out Ay.out Cq.out Jh.out (NG hz)
  obtain⟨z,hzz⟩:∃ z:Int,z=(Pl.CW xs):=⟨_,rfl⟩
  rw[<- hzz]at HC vP hz
  clear hzz HS
  go_wp2_with (go_at_call 33;refine Calls.mono HC.out ?_;rintro e v5 ⟨rfl,hr,_⟩; have HRR:Hid (Rr w v5):=hr;have f0:=cell_of_row v5 w.heap.size 0 _ 28 (0,0) hr.r;have f1:=cell_of_row v5 w.heap.size 1 _ 28 (0,0) hr.r;have f2:=cell_of_row v5 w.heap.size 2 _ 28 (0,0) hr.r;have f3:=cell_of_row v5 w.heap.size 3 _ 28 (0,0) hr.r;have ff:=fun i=>frozen_of_row v5 w.heap.size i _ 28 hr.r;simp only[List.getElem?_toArray,List.getElem?_cons_zero,List.getElem?_cons_succ]at f0 f1 f2 f3;clear hr)
  have g1:=heap_setCell_same v5 w.heap.size 0 _ _ (.slice none 0 0) HRR.out.r
  have g2:=heap_setCell_same _ w.heap.size 1 _ _ (.slice none 0 0) g1
  have g3:=heap_setCell_same _ w.heap.size 2 _ _ (.int .i64 0) g2
  have g4:=heap_setCell_same _ w.heap.size 3 _ _ (.int .i64 0) g3
  refine bodyPost_ret (v:=.tuple #[.agg #[.slice none 0 0,.slice none 0 0,.int .i64 0,.int .i64 0],.int .i64 5,.int .i64 z]) (aQ Tryz.results7 _ _ w.heap.size 28 _ (0,0) _ _ _ rfl rfl rfl g4 Tryz.underlying28 rfl (by kernel_rfl)) rfl ?_
  exact bZ.no vP.out (by decide) ((((HRR.out.low.setCell (p:=⟨w.heap.size,0,none⟩) (Nat.le_refl _) _).setCell (p:=⟨w.heap.size,1,none⟩) (Nat.le_refl _) _).setCell (p:=⟨w.heap.size,2,none⟩) (Nat.le_refl _) _).setCell (p:=⟨w.heap.size,3,none⟩) (Nat.le_refl _) _)
 have Pj:Hid (P5 xs):=Av hz
 have HTB:Hid (0<=(Pl.cu xs len).t/\(Pl.cu xs len).t<=1099511627776):=by
  have:=Pl.jO xs (fun i hi=>(GG.out i hi).b) len (by rw[lM.out];exact Nat.le_refl _)
  have:=HN.out
  exact⟨by omega,by omega⟩
 obtain⟨z,hzz⟩:∃ z:Int,z=(Pl.CW xs):=⟨_,rfl⟩
 rw[<- hzz]at HC hz
 clear hzz HS
 go_wp2_with (go_at_call 33;refine Calls.mono HC.out ?_;rintro e v5 ⟨rfl,hr,hst⟩; have HS:Hid _:=hst hz;clear hr hst)
 clear HC hz
 have HC:Hid _:=Zk HS.out
 rw[rounds_succ]
 by_cases hz:0<=(if 65536<(Pl.cu xs len).b then 0 else -1:Int)
 ·have vP:Hid (Pl.gI (fun i=>lF (Pl.gl xs i)) xs stack=(6,if 65536<(Pl.cu xs len).b then 0 else -1)):=by show _=_;rw[if_pos (IG hz)];exact Pl.Mt HL.out tV.out Ay.out Cq.out Jh.out Pj.out (IG (by rw[lM.out];exact hz))
  obtain⟨z,hzz⟩:∃ z:Int,z=(if 65536<(Pl.cu xs len).b then 0 else -1):=⟨_,rfl⟩
  rw[<- hzz]at HC vP hz
  clear hzz HS
  go_wp2_with (go_at_call 34;refine Calls.mono HC.out ?_;rintro e v6 ⟨rfl,hr,_⟩; have HRR:Hid (Rr w v6):=hr;have f0:=cell_of_row v6 w.heap.size 0 _ 28 (0,0) hr.r;have f1:=cell_of_row v6 w.heap.size 1 _ 28 (0,0) hr.r;have f2:=cell_of_row v6 w.heap.size 2 _ 28 (0,0) hr.r;have f3:=cell_of_row v6 w.heap.size 3 _ 28 (0,0) hr.r;have ff:=fun i=>frozen_of_row v6 w.heap.size i _ 28 hr.r;simp only[List.getElem?_toArray,List.getElem?_cons_zero,List.getElem?_cons_succ]at f0 f1 f2 f3;clear hr)
  have g1:=heap_setCell_same v6 w.heap.size 0 _ _ (.slice none 0 0) HRR.out.r
  have g2:=heap_setCell_same _ w.heap.size 1 _ _ (.slice none 0 0) g1
  have g3:=heap_setCell_same _ w.heap.size 2 _ _ (.int .i64 0) g2
  have g4:=heap_setCell_same _ w.heap.size 3 _ _ (.int .i64 0) g3
  refine bodyPost_ret (v:=.tuple #[.agg #[.slice none 0 0,.slice none 0 0,.int .i64 0,.int .i64 0],.int .i64 6,.int .i64 z]) (aQ Tryz.results7 _ _ w.heap.size 28 _ (0,0) _ _ _ rfl rfl rfl g4 Tryz.underlying28 rfl (by kernel_rfl)) rfl ?_
  exact bZ.no vP.out (by decide) ((((HRR.out.low.setCell (p:=⟨w.heap.size,0,none⟩) (Nat.le_refl _) _).setCell (p:=⟨w.heap.size,1,none⟩) (Nat.le_refl _) _).setCell (p:=⟨w.heap.size,2,none⟩) (Nat.le_refl _) _).setCell (p:=⟨w.heap.size,3,none⟩) (Nat.le_refl _) _)
 have Ro:Hid (P6 xs):=by show ¬ (65536<(Pl.cu xs xs.length).b);rw[lM.out];exact UU hz
 obtain⟨z,hzz⟩:∃ z:Int,z=(if 65536<(Pl.cu xs len).b then 0 else -1):=⟨_,rfl⟩
 rw[<- hzz]at HC hz
 clear hzz HS
 go_wp2_with (go_at_call 34;refine Calls.mono HC.out ?_;rintro e v6 ⟨rfl,hr,hst⟩; have HS:Hid _:=hst hz;clear hr hst)
 clear HC hz
 have HC:Hid _:=Zl HS.out GG.out Qx.out
 rw[rounds_succ]
 by_cases hz:0<=(Pl.aV (Pl.dQ xs) len:Int)
 ·have vP:Hid (Pl.gI (fun i=>lF (Pl.gl xs i)) xs stack=(7,Pl.aV (Pl.dQ xs) len)):=by show _=_;rw[<- lM.out];exact Pl.Mv HL.out tV.out Ay.out Cq.out Jh.out Pj.out Ro.out (by rw[lM.out];exact hz)
  obtain⟨z,hzz⟩:∃ z:Int,z=(Pl.aV (Pl.dQ xs) len):=⟨_,rfl⟩
  rw[<- hzz]at HC vP hz
  clear hzz HS
  go_wp2_with (go_at_call 35;refine Calls.mono HC.out ?_;rintro e v7 ⟨rfl,hr,_⟩; have HRR:Hid (Rr w v7):=hr;have f0:=cell_of_row v7 w.heap.size 0 _ 28 (0,0) hr.r;have f1:=cell_of_row v7 w.heap.size 1 _ 28 (0,0) hr.r;have f2:=cell_of_row v7 w.heap.size 2 _ 28 (0,0) hr.r;have f3:=cell_of_row v7 w.heap.size 3 _ 28 (0,0) hr.r;have ff:=fun i=>frozen_of_row v7 w.heap.size i _ 28 hr.r;simp only[List.getElem?_toArray,List.getElem?_cons_zero,List.getElem?_cons_succ]at f0 f1 f2 f3;clear hr)
  have g1:=heap_setCell_same v7 w.heap.size 0 _ _ (.slice none 0 0) HRR.out.r
  have g2:=heap_setCell_same _ w.heap.size 1 _ _ (.slice none 0 0) g1
  have g3:=heap_setCell_same _ w.heap.size 2 _ _ (.int .i64 0) g2
  have g4:=heap_setCell_same _ w.heap.size 3 _ _ (.int .i64 0) g3
  refine bodyPost_ret (v:=.tuple #[.agg #[.slice none 0 0,.slice none 0 0,.int .i64 0,.int .i64 0],.int .i64 7,.int .i64 z]) (aQ Tryz.results7 _ _ w.heap.size 28 _ (0,0) _ _ _ rfl rfl rfl g4 Tryz.underlying28 rfl (by kernel_rfl)) rfl ?_
  exact bZ.no vP.out (by decide) ((((HRR.out.low.setCell (p:=⟨w.heap.size,0,none⟩) (Nat.le_refl _) _).setCell (p:=⟨w.heap.size,1,none⟩) (Nat.le_refl _) _).setCell (p:=⟨w.heap.size,2,none⟩) (Nat.le_refl _) _).setCell (p:=⟨w.heap.size,3,none⟩) (Nat.le_refl _) _)
 have Zo:Hid (Pl.aV (Pl.dQ xs) xs.length=-1):=by show _=_;rw[lM.out];exact (Pl.dO hz).1
 obtain⟨z,hzz⟩:∃ z:Int,z=(Pl.aV (Pl.dQ xs) len):=⟨_,rfl⟩
 rw[<- hzz]at HC hz
 clear hzz HS
 go_wp2_with (go_at_call 35;refine Calls.mono HC.out ?_;rintro e v7 ⟨rfl,hr,hst⟩; have HS:Hid _:=hst hz;clear hr hst)
 clear HC hz
 have HC:Hid _:=Zm HS.out HTB.out
 rw[rounds_succ]
 by_cases hz:0<=(Pl.stA xs:Int)
 ·have vP:Hid (Pl.gI (fun i=>lF (Pl.gl xs i)) xs stack=(8,Pl.stA xs)):=by show _=_;rw[Ph hz];exact Pl.Mw HL.out tV.out Ay.out Cq.out Jh.out Pj.out Ro.out Zo.out (NH hz)
  obtain⟨z,hzz⟩:∃ z:Int,z=(Pl.stA xs):=⟨_,rfl⟩
  rw[<- hzz]at HC vP hz
  clear hzz HS
  go_wp2_with (go_at_call 36;refine Calls.mono HC.out ?_;rintro e v8 ⟨rfl,hr,_⟩; have HRR:Hid (Rr w v8):=hr;have f0:=cell_of_row v8 w.heap.size 0 _ 28 (0,0) hr.r;have f1:=cell_of_row v8 w.heap.size 1 _ 28 (0,0) hr.r;have f2:=cell_of_row v8 w.heap.size 2 _ 28 (0,0) hr.r;have f3:=cell_of_row v8 w.heap.size 3 _ 28 (0,0) hr.r;have ff:=fun i=>frozen_of_row v8 w.heap.size i _ 28 hr.r;simp only[List.getElem?_toArray,List.getElem?_cons_zero,List.getElem?_cons_succ]at f0 f1 f2 f3;clear hr)
  have g1:=heap_setCell_same v8 w.heap.size 0 _ _ (.slice none 0 0) HRR.out.r
  have g2:=heap_setCell_same _ w.heap.size 1 _ _ (.slice none 0 0) g1
  have g3:=heap_setCell_same _ w.heap.size 2 _ _ (.int .i64 0) g2
  have g4:=heap_setCell_same _ w.heap.size 3 _ _ (.int .i64 0) g3
  refine bodyPost_ret (v:=.tuple #[.agg #[.slice none 0 0,.slice none 0 0,.int .i64 0,.int .i64 0],.int .i64 8,.int .i64 z]) (aQ Tryz.results7 _ _ w.heap.size 28 _ (0,0) _ _ _ rfl rfl rfl g4 Tryz.underlying28 rfl (by kernel_rfl)) rfl ?_
  exact bZ.no vP.out (by decide) ((((HRR.out.low.setCell (p:=⟨w.heap.size,0,none⟩) (Nat.le_refl _) _).setCell (p:=⟨w.heap.size,1,none⟩) (Nat.le_refl _) _).setCell (p:=⟨w.heap.size,2,none⟩) (Nat.le_refl _) _).setCell (p:=⟨w.heap.size,3,none⟩) (Nat.le_refl _) _)
 obtain⟨js,hsj,L8⟩:=Aw hz
 have Rp:Hid (Pl.lb xs Pl.dB=some js):=hsj
 have L9:Hid (P8 xs js):=L8
 clear hsj L8
 obtain⟨z,hzz⟩:∃ z:Int,z=(Pl.stA xs):=⟨_,rfl⟩
 rw[<- hzz]at HC hz
 clear hzz HS
 go_wp2_with (go_at_call 36;refine Calls.mono HC.out ?_;rintro e v8 ⟨rfl,hr,hst⟩; have HS:Hid _:=hst hz;clear hr hst)
 clear HC hz
 have HC:Hid _:=Zn HS.out
 rw[rounds_succ]
 by_cases hz:0<=(if 0<=stack/\stack<=65536/\stack % 16=0 then -1 else 0:Int)
 ·have vP:Hid (Pl.gI (fun i=>lF (Pl.gl xs i)) xs stack=(9,if 0<=stack/\stack<=65536/\stack % 16=0 then -1 else 0)):=by show _=_;rw[if_neg (II hz)];exact Pl.Mx HL.out tV.out Ay.out Cq.out Jh.out Pj.out Ro.out Zo.out Rp.out L9.out (II hz)
  obtain⟨z,hzz⟩:∃ z:Int,z=(if 0<=stack/\stack<=65536/\stack % 16=0 then -1 else 0):=⟨_,rfl⟩
  rw[<- hzz]at HC vP hz
  clear hzz HS
  go_wp2_with (go_at_call 37;refine Calls.mono HC.out ?_;rintro e v9 ⟨rfl,hr,_⟩; have HRR:Hid (Rr w v9):=hr;have f0:=cell_of_row v9 w.heap.size 0 _ 28 (0,0) hr.r;have f1:=cell_of_row v9 w.heap.size 1 _ 28 (0,0) hr.r;have f2:=cell_of_row v9 w.heap.size 2 _ 28 (0,0) hr.r;have f3:=cell_of_row v9 w.heap.size 3 _ 28 (0,0) hr.r;have ff:=fun i=>frozen_of_row v9 w.heap.size i _ 28 hr.r;simp only[List.getElem?_toArray,List.getElem?_cons_zero,List.getElem?_cons_succ]at f0 f1 f2 f3;clear hr)
  have g1:=heap_setCell_same v9 w.heap.size 0 _ _ (.slice none 0 0) HRR.out.r
  have g2:=heap_setCell_same _ w.heap.size 1 _ _ (.slice none 0 0) g1
  have g3:=heap_setCell_same _ w.heap.size 2 _ _ (.int .i64 0) g2
  have g4:=heap_setCell_same _ w.heap.size 3 _ _ (.int .i64 0) g3
  refine bodyPost_ret (v:=.tuple #[.agg #[.slice none 0 0,.slice none 0 0,.int .i64 0,.int .i64 0],.int .i64 9,.int .i64 z]) (aQ Tryz.results7 _ _ w.heap.size 28 _ (0,0) _ _ _ rfl rfl rfl g4 Tryz.underlying28 rfl (by kernel_rfl)) rfl ?_
  exact bZ.no vP.out (by decide) ((((HRR.out.low.setCell (p:=⟨w.heap.size,0,none⟩) (Nat.le_refl _) _).setCell (p:=⟨w.heap.size,1,none⟩) (Nat.le_refl _) _).setCell (p:=⟨w.heap.size,2,none⟩) (Nat.le_refl _) _).setCell (p:=⟨w.heap.size,3,none⟩) (Nat.le_refl _) _)
 have HF9:Hid (P9 stack):=by show (0<=stack/\stack<=65536/\stack % 16=0);exact UW hz
 obtain⟨z,hzz⟩:∃ z:Int,z=(if 0<=stack/\stack<=65536/\stack % 16=0 then -1 else 0):=⟨_,rfl⟩
 rw[<- hzz]at HC hz
 clear hzz HS
 go_wp2_with (go_at_call 37;refine Calls.mono HC.out ?_;rintro e v9 ⟨rfl,hr,hst⟩; have HS:Hid _:=hst hz;clear hr hst)
 clear HC hz
 obtain⟨B,mb,M0⟩:=HS.out.am
 have PV:Hid _:=UQ js M0 GG.out Qx.out (Pl.dO (xU Ay.out)).2 Rp.out
 have vP:Hid (Pl.gI (fun i=>lF (Pl.gl xs i)) xs stack=(0,0)):=Pl.Na HL.out tV.out Ay.out Cq.out Jh.out Pj.out Ro.out Zo.out Rp.out L9.out HF9.out
 have Ji:Hid (Rr w v9):=HS.out.rr
 have HAD:Hid (Pl.gT xs Pl.dB=(Pl.cu xs js).at):=UM Rp.out
 clear M0
 rw[rounds_succ]
 go_wp2_with (go_at_call 38;refine Calls.mono PV.out ?_;rintro e v10 ⟨vc,vd,rfl,hoc,hod,hb⟩; obtain⟨a5,y5,hv5⟩:=aT hoc;obtain⟨a6,y6,hv6⟩:=aT hod;subst hv5 hv6;have hr:=Ji.out.keep hb;have HRR:Hid (Rr w v10):=hr;have HOC:Hid _:=hoc;have Jd:Hid _:=hod;have Ra:Hid _:=hb;have f0:=cell_of_row v10 w.heap.size 0 _ 28 (0,0) hr.r;have f1:=cell_of_row v10 w.heap.size 1 _ 28 (0,0) hr.r;have f2:=cell_of_row v10 w.heap.size 2 _ 28 (0,0) hr.r;have f3:=cell_of_row v10 w.heap.size 3 _ 28 (0,0) hr.r;have ff:=fun i=>frozen_of_row v10 w.heap.size i _ 28 hr.r;simp only[List.getElem?_toArray,List.getElem?_cons_zero,List.getElem?_cons_succ]at f0 f1 f2 f3;clear hr hoc hod hb)
 have g1:=heap_setCell_same v10 w.heap.size 0 _ _ (.slice a5 (Pl.aL bI xs xs.length).length y5) HRR.out.r
 have g2:=heap_setCell_same _ w.heap.size 1 _ _ (.slice a6 (Pl.aH xs xs.length).length y6) g1
 have g3:=heap_setCell_same _ w.heap.size 2 _ _ (.int .i64 (Pl.cu xs js).at) g2
 have g4:=heap_setCell_same _ w.heap.size 3 _ _ (.int .i64 stack) g3
 have o4:=(((OnlyC.set w.heap.size 0 v10 (.slice a5 (Pl.aL bI xs xs.length).length y5)).trans (OnlyC.set w.heap.size 1 _ (.slice a6 (Pl.aH xs xs.length).length y6))).trans (OnlyC.set w.heap.size 2 _ (.int .i64 (Pl.cu xs js).at))).trans (OnlyC.set w.heap.size 3 _ (.int .i64 stack))
 refine bodyPost_ret (v:=.tuple #[.agg #[.slice a5 (Pl.aL bI xs xs.length).length y5,.slice a6 (Pl.aH xs xs.length).length y6,.int .i64 (Pl.cu xs js).at,.int .i64 stack],.int .i64 0,.int .i64 0]) (aQ Tryz.results7 _ _ w.heap.size 28 _ (0,0) _ _ _ rfl rfl rfl g4 Tryz.underlying28 rfl (by kernel_rfl)) rfl ?_
 refine⟨_,_,_,_,by rw[vP.out],HRR.out.low.trans (o4.low (Nat.le_refl _) HRR.out.low.size),fun _=>⟨?_,?_,HAD.out.symm,rfl⟩,fun q=>absurd (by rw[vP.out]) q⟩
 ·exact IE (mU HOC.out HRR.out.r (by decide) o4) Ji.out.low.size
 ·exact IE (mU Jd.out HRR.out.r (by decide) o4) Ji.out.low.size
end Go.Proofs.YtlbomnnldkeocaaGreat.W
