import Derived.Test.YtlbomnnldkeocaaGreatA41
set_option linter.unusedVariables false
set_option linter.unusedSimpArgs false
set_option maxHeartbeats 16000000
namespace Go.Proofs.YtlbomnnldkeocaaGreat.W
open Go.RowKit Go.Shelf Go.Maps Go.WideMaps Go.Sort
variable {lo:Nat} {xs:List Pl.Ln} {stack:Int} {len:Nat}
theorem run_store_fn {P:Program} {w:World} {a:Addr} {m:Mode} (fn:Fn) (first captured:Array Value):(store a (.func fn first captured) m).run P w=stored P w a (.func fn first captured) m:=run_store P w a _ m rfl
attribute [local go_sem] run_store_fn
theorem frozen_new (u:World) (c:Array Value) (t:TypeId) (b j:Nat) (hb:b=u.heap.size):(u.alloc (.cells c t)).frozen? ⟨b,j,none⟩=false:=frozen_of_row _ _ j _ t (new_at hb)
theorem owns_low {u:World} {B B':Nat} {e:TypeId} {s n:Nat} {v:Value} {ys:List Value} (h:u.ownsRow B e s v n ys) (hb:B'<=B):u.ownsRow B' e s v n ys:=by
 refine⟨h.1,?_⟩
 rcases h.2 with q | ⟨g,cap,cur,e1,e2,r⟩
 ·exact .inl q
 ·exact .inr ⟨g,cap,cur,e1,Nat.le_trans hb e2,r⟩
def P5 (xs:List Pl.Ln):Prop:=¬ ((Pl.cu xs xs.length).t=0\/65536<(Pl.cu xs xs.length).t)
def P6 (xs:List Pl.Ln):Prop:=¬ 65536<(Pl.cu xs xs.length).b
def P8 (xs:List Pl.Ln) (j:Nat):Prop:=¬ ((Pl.cu xs j).d=true\/(Pl.cu xs xs.length).t<=(Pl.cu xs j).t)
def P9 (stack:Int):Prop:=0<=stack/\stack<=65536/\stack % 16=0
theorem neg_of1 {z:Int} (h:z=-1):¬ 0<=z:=by omega
theorem n1_len (h:¬ 0<=(if 20000<len then 20000 else Pl.fst1 (fun i=>!okL (Pl.gl xs i)) len:Int)):len<=20000:=by
 by_cases q:20000<len
 ·rw[if_pos q]at h;omega
 ·omega
theorem n1_ok (h:¬ 0<=(if 20000<len then 20000 else Pl.fst1 (fun i=>!okL (Pl.gl xs i)) len:Int)):Pl.fst1 (fun i=>!okL (Pl.gl xs i)) len=-1:=by
 rw[if_neg (by have:=n1_len h;omega)]at h
 exact (Pl.fst1_neg h).1
theorem ansn1 (hl:xs.length=len) (h:0<=(if 20000<len then 20000 else Pl.fst1 (fun i=>!okL (Pl.gl xs i)) len:Int)):Pl.ansL (fun i=>okL (Pl.gl xs i)) xs stack=(1,if 20000<len then 20000 else Pl.fst1 (fun i=>!okL (Pl.gl xs i)) len):=by
 subst hl
 by_cases q:20000<xs.length
 ·rw[if_pos q];exact Pl.ans1a q
 ·rw[if_neg q]at h ⊢; exact Pl.ans1b (by omega) h
theorem cdA_pos (h:0<=Pl.cdA xs):(Pl.cu xs xs.length).t=0\/65536<(Pl.cu xs xs.length).t:=by
 unfold Pl.cdA at h
 by_cases q:(Pl.cu xs xs.length).t=0\/65536<(Pl.cu xs xs.length).t
 ·exact q
 ·rw[if_neg q]at h;omega
theorem cdA_neg (h:¬ 0<=Pl.cdA xs):¬ ((Pl.cu xs xs.length).t=0\/65536<(Pl.cu xs xs.length).t):=fun q=>by
 unfold Pl.cdA at h
 rw[if_pos q]at h;omega
theorem cdA_0 (h:0<=Pl.cdA xs):Pl.cdA xs=0:=by
 unfold Pl.cdA
 rw[if_pos (cdA_pos h)]
theorem stA_pos (h:0<=Pl.stA xs):∀ j,Pl.lb xs Pl.startS=some j->(Pl.cu xs j).d=true\/(Pl.cu xs xs.length).t<=(Pl.cu xs j).t:=fun j hj=>by
 rw[Pl.stA_some hj]at h
 by_cases q:(Pl.cu xs j).d=true\/(Pl.cu xs xs.length).t<=(Pl.cu xs j).t
 ·exact q
 ·rw[if_neg q]at h;omega
theorem stA_0 (h:0<=Pl.stA xs):Pl.stA xs=0:=by
 cases hl:Pl.lb xs Pl.startS with
 | none=>exact Pl.stA_none hl
 | some j=>rw[Pl.stA_some hl,if_pos (stA_pos h j hl)]
theorem stA_neg (h:¬ 0<=Pl.stA xs):∃ j,Pl.lb xs Pl.startS=some j/\¬ ((Pl.cu xs j).d=true\/(Pl.cu xs xs.length).t<=(Pl.cu xs j).t):=by
 cases hl:Pl.lb xs Pl.startS with
 | none=>rw[Pl.stA_none hl]at h;omega
 | some j=>exact⟨j,rfl,fun q=>by rw[Pl.stA_some hl,if_pos q]at h;omega⟩
theorem ite_pos0 {p:Prop} [Decidable p] (h:0<=(if p then 0 else -1:Int)):p:=by
 by_cases q:p
 ·exact q
 ·rw[if_neg q]at h;omega
theorem ite_neg0 {p:Prop} [Decidable p] (h:¬ 0<=(if p then 0 else -1:Int)):¬ p:=fun q=>by rw[if_pos q]at h;omega
theorem ite_negm {p:Prop} [Decidable p] (h:0<=(if p then -1 else 0:Int)):¬ p:=fun q=>by rw[if_pos q]at h;omega
theorem ite_posm {p:Prop} [Decidable p] (h:¬ 0<=(if p then -1 else 0:Int)):p:=by
 by_cases q:p
 ·exact q
 ·rw[if_neg q]at h;omega
set_option maxRecDepth 100000 in
theorem implAsm_is (a:Option Addr) (len cap:Nat) (xs:List Pl.Ln) (stack:Int) (w:World) (h:LRow lo w a len cap xs):Calls Tryz.prog 7 #[.slice a len cap,.int .i64 stack] w (AsmSaid xs stack w):=by
 have HXL:Hid (xs.length=len):=h.len.1
 obtain⟨v0,hv0⟩:∃ v0,v0=(((w.alloc (.cells #[.slice none 0 0,.slice none 0 0,.int .i64 0,.int .i64 0] 28)).alloc (.map #[] 0)).alloc (.cells #[.slice a len cap,.int .i64 stack,.map (some (w.heap.size+1)),.bool false,.int .i64 0,.int .i64 0] 71)).alloc (.cells #[.func (.func 29) #[.pointer (some ⟨w.heap.size+2,0,none⟩)] #[],.func (.func 30) #[.pointer (some ⟨w.heap.size+2,0,none⟩)] #[],.func (.func 31) #[.pointer (some ⟨w.heap.size+2,0,none⟩)] #[],.func (.func 32) #[.pointer (some ⟨w.heap.size+2,0,none⟩)] #[],.func (.func 33) #[.pointer (some ⟨w.heap.size+2,0,none⟩)] #[],.func (.func 34) #[.pointer (some ⟨w.heap.size+2,0,none⟩)] #[],.func (.func 35) #[.pointer (some ⟨w.heap.size+2,0,none⟩)] #[],.func (.func 36) #[.pointer (some ⟨w.heap.size+2,0,none⟩)] #[],.func (.func 37) #[.pointer (some ⟨w.heap.size+2,0,none⟩)] #[]] 72):=⟨_,rfl⟩
 have HS:Hid (StA lo xs w v0 (w.heap.size+2) (w.heap.size+1) a len cap stack):=by
  have hb1:=below_alloc w (.cells #[.slice none 0 0,.slice none 0 0,.int .i64 0,.int .i64 0] 28)
  have hb:Below w.heap.size w v0:=by rw[hv0];exact hb1.trans (((below_alloc _ _).mono (by simp)).trans (((below_alloc _ _).mono (by simp;omega)).trans ((below_alloc _ _).mono (by simp;omega))))
  have r0:v0.heap[w.heap.size]?=some (.cells #[.slice none 0 0,.slice none 0 0,.int .i64 0,.int .i64 0] 28 (0,0)):=by rw[hv0,Below.heap_alloc _ _ _ (by simp;omega),Below.heap_alloc _ _ _ (by simp;omega),Below.heap_alloc _ _ _ (by simp)];exact heap_alloc_new w _
  have r2:v0.heap[w.heap.size+2]?=some (.cells #[.slice a len cap,.int .i64 stack,.map (some (w.heap.size+1)),.bool false,.int .i64 0,.int .i64 0] 71 (0,0)):=by rw[hv0,Below.heap_alloc _ _ _ (by simp)];exact new_at (by simp)
  have om:v0.ownsMap Tryz.prog 9 rdM (w.heap.size+1) 0 (.map []):=by
   have:=World.ownsMap_made (w.alloc (.cells #[.slice none 0 0,.slice none 0 0,.int .i64 0,.int .i64 0] 28)) Tryz.prog 9 rdM
   rw[hv0]
   simpa using (this.alloc (.cells #[.slice a len cap,.int .i64 stack,.map (some (w.heap.size+1)),.bool false,.int .i64 0,.int .i64 0] 71)).alloc (.cells #[.func (.func 29) #[.pointer (some ⟨w.heap.size+2,0,none⟩)] #[],.func (.func 30) #[.pointer (some ⟨w.heap.size+2,0,none⟩)] #[],.func (.func 31) #[.pointer (some ⟨w.heap.size+2,0,none⟩)] #[],.func (.func 32) #[.pointer (some ⟨w.heap.size+2,0,none⟩)] #[],.func (.func 33) #[.pointer (some ⟨w.heap.size+2,0,none⟩)] #[],.func (.func 34) #[.pointer (some ⟨w.heap.size+2,0,none⟩)] #[],.func (.func 35) #[.pointer (some ⟨w.heap.size+2,0,none⟩)] #[],.func (.func 36) #[.pointer (some ⟨w.heap.size+2,0,none⟩)] #[],.func (.func 37) #[.pointer (some ⟨w.heap.size+2,0,none⟩)] #[]] 72)
  refine⟨⟨r2,hb,h,by omega,by omega,by omega⟩,fun B=>⟨⟨.map [],?_,om,fun s=>?_,fun s=>?_⟩,fun i hi=>absurd hi (Nat.not_lt_zero _)⟩,⟨r0,hb⟩,by omega,by omega⟩
  ·exact⟨_,rfl⟩
  ·rfl
  ·rfl
 have HV0:Hid _:=hv0.symm
 clear h hv0
 have hmm:∀ u:World,(Instr.makeMap 67 none).run Tryz.prog u=.ok (.map (some u.heap.size)) (u.alloc (.map #[] 0)):=fun u=>rfl
 have hx0:∀ u:World,(Instr.index 72 (.agg #[.func (.func 29) #[.pointer (some ⟨w.heap.size+1+1,0,none⟩)] #[],.func (.func 30) #[.pointer (some ⟨w.heap.size+1+1,0,none⟩)] #[],.func (.func 31) #[.pointer (some ⟨w.heap.size+1+1,0,none⟩)] #[],.func (.func 32) #[.pointer (some ⟨w.heap.size+1+1,0,none⟩)] #[],.func (.func 33) #[.pointer (some ⟨w.heap.size+1+1,0,none⟩)] #[],.func (.func 34) #[.pointer (some ⟨w.heap.size+1+1,0,none⟩)] #[],.func (.func 35) #[.pointer (some ⟨w.heap.size+1+1,0,none⟩)] #[],.func (.func 36) #[.pointer (some ⟨w.heap.size+1+1,0,none⟩)] #[],.func (.func 37) #[.pointer (some ⟨w.heap.size+1+1,0,none⟩)] #[]]) (.int .i64 0)).run Tryz.prog u=.ok (.func (.func 29) #[.pointer (some ⟨w.heap.size+1+1,0,none⟩)] #[]) u:=fun _=>by kernel_rfl
 have hx1:∀ u:World,(Instr.index 72 (.agg #[.func (.func 29) #[.pointer (some ⟨w.heap.size+1+1,0,none⟩)] #[],.func (.func 30) #[.pointer (some ⟨w.heap.size+1+1,0,none⟩)] #[],.func (.func 31) #[.pointer (some ⟨w.heap.size+1+1,0,none⟩)] #[],.func (.func 32) #[.pointer (some ⟨w.heap.size+1+1,0,none⟩)] #[],.func (.func 33) #[.pointer (some ⟨w.heap.size+1+1,0,none⟩)] #[],.func (.func 34) #[.pointer (some ⟨w.heap.size+1+1,0,none⟩)] #[],.func (.func 35) #[.pointer (some ⟨w.heap.size+1+1,0,none⟩)] #[],.func (.func 36) #[.pointer (some ⟨w.heap.size+1+1,0,none⟩)] #[],.func (.func 37) #[.pointer (some ⟨w.heap.size+1+1,0,none⟩)] #[]]) (.int .i64 1)).run Tryz.prog u=.ok (.func (.func 30) #[.pointer (some ⟨w.heap.size+1+1,0,none⟩)] #[]) u:=fun _=>by kernel_rfl
 have hx2:∀ u:World,(Instr.index 72 (.agg #[.func (.func 29) #[.pointer (some ⟨w.heap.size+1+1,0,none⟩)] #[],.func (.func 30) #[.pointer (some ⟨w.heap.size+1+1,0,none⟩)] #[],.func (.func 31) #[.pointer (some ⟨w.heap.size+1+1,0,none⟩)] #[],.func (.func 32) #[.pointer (some ⟨w.heap.size+1+1,0,none⟩)] #[],.func (.func 33) #[.pointer (some ⟨w.heap.size+1+1,0,none⟩)] #[],.func (.func 34) #[.pointer (some ⟨w.heap.size+1+1,0,none⟩)] #[],.func (.func 35) #[.pointer (some ⟨w.heap.size+1+1,0,none⟩)] #[],.func (.func 36) #[.pointer (some ⟨w.heap.size+1+1,0,none⟩)] #[],.func (.func 37) #[.pointer (some ⟨w.heap.size+1+1,0,none⟩)] #[]]) (.int .i64 2)).run Tryz.prog u=.ok (.func (.func 31) #[.pointer (some ⟨w.heap.size+1+1,0,none⟩)] #[]) u:=fun _=>by kernel_rfl
 have hx3:∀ u:World,(Instr.index 72 (.agg #[.func (.func 29) #[.pointer (some ⟨w.heap.size+1+1,0,none⟩)] #[],.func (.func 30) #[.pointer (some ⟨w.heap.size+1+1,0,none⟩)] #[],.func (.func 31) #[.pointer (some ⟨w.heap.size+1+1,0,none⟩)] #[],.func (.func 32) #[.pointer (some ⟨w.heap.size+1+1,0,none⟩)] #[],.func (.func 33) #[.pointer (some ⟨w.heap.size+1+1,0,none⟩)] #[],.func (.func 34) #[.pointer (some ⟨w.heap.size+1+1,0,none⟩)] #[],.func (.func 35) #[.pointer (some ⟨w.heap.size+1+1,0,none⟩)] #[],.func (.func 36) #[.pointer (some ⟨w.heap.size+1+1,0,none⟩)] #[],.func (.func 37) #[.pointer (some ⟨w.heap.size+1+1,0,none⟩)] #[]]) (.int .i64 3)).run Tryz.prog u=.ok (.func (.func 32) #[.pointer (some ⟨w.heap.size+1+1,0,none⟩)] #[]) u:=fun _=>by kernel_rfl
 have hx4:∀ u:World,(Instr.index 72 (.agg #[.func (.func 29) #[.pointer (some ⟨w.heap.size+1+1,0,none⟩)] #[],.func (.func 30) #[.pointer (some ⟨w.heap.size+1+1,0,none⟩)] #[],.func (.func 31) #[.pointer (some ⟨w.heap.size+1+1,0,none⟩)] #[],.func (.func 32) #[.pointer (some ⟨w.heap.size+1+1,0,none⟩)] #[],.func (.func 33) #[.pointer (some ⟨w.heap.size+1+1,0,none⟩)] #[],.func (.func 34) #[.pointer (some ⟨w.heap.size+1+1,0,none⟩)] #[],.func (.func 35) #[.pointer (some ⟨w.heap.size+1+1,0,none⟩)] #[],.func (.func 36) #[.pointer (some ⟨w.heap.size+1+1,0,none⟩)] #[],.func (.func 37) #[.pointer (some ⟨w.heap.size+1+1,0,none⟩)] #[]]) (.int .i64 4)).run Tryz.prog u=.ok (.func (.func 33) #[.pointer (some ⟨w.heap.size+1+1,0,none⟩)] #[]) u:=fun _=>by kernel_rfl
 have hx5:∀ u:World,(Instr.index 72 (.agg #[.func (.func 29) #[.pointer (some ⟨w.heap.size+1+1,0,none⟩)] #[],.func (.func 30) #[.pointer (some ⟨w.heap.size+1+1,0,none⟩)] #[],.func (.func 31) #[.pointer (some ⟨w.heap.size+1+1,0,none⟩)] #[],.func (.func 32) #[.pointer (some ⟨w.heap.size+1+1,0,none⟩)] #[],.func (.func 33) #[.pointer (some ⟨w.heap.size+1+1,0,none⟩)] #[],.func (.func 34) #[.pointer (some ⟨w.heap.size+1+1,0,none⟩)] #[],.func (.func 35) #[.pointer (some ⟨w.heap.size+1+1,0,none⟩)] #[],.func (.func 36) #[.pointer (some ⟨w.heap.size+1+1,0,none⟩)] #[],.func (.func 37) #[.pointer (some ⟨w.heap.size+1+1,0,none⟩)] #[]]) (.int .i64 5)).run Tryz.prog u=.ok (.func (.func 34) #[.pointer (some ⟨w.heap.size+1+1,0,none⟩)] #[]) u:=fun _=>by kernel_rfl
 have hx6:∀ u:World,(Instr.index 72 (.agg #[.func (.func 29) #[.pointer (some ⟨w.heap.size+1+1,0,none⟩)] #[],.func (.func 30) #[.pointer (some ⟨w.heap.size+1+1,0,none⟩)] #[],.func (.func 31) #[.pointer (some ⟨w.heap.size+1+1,0,none⟩)] #[],.func (.func 32) #[.pointer (some ⟨w.heap.size+1+1,0,none⟩)] #[],.func (.func 33) #[.pointer (some ⟨w.heap.size+1+1,0,none⟩)] #[],.func (.func 34) #[.pointer (some ⟨w.heap.size+1+1,0,none⟩)] #[],.func (.func 35) #[.pointer (some ⟨w.heap.size+1+1,0,none⟩)] #[],.func (.func 36) #[.pointer (some ⟨w.heap.size+1+1,0,none⟩)] #[],.func (.func 37) #[.pointer (some ⟨w.heap.size+1+1,0,none⟩)] #[]]) (.int .i64 6)).run Tryz.prog u=.ok (.func (.func 35) #[.pointer (some ⟨w.heap.size+1+1,0,none⟩)] #[]) u:=fun _=>by kernel_rfl
 have hx7:∀ u:World,(Instr.index 72 (.agg #[.func (.func 29) #[.pointer (some ⟨w.heap.size+1+1,0,none⟩)] #[],.func (.func 30) #[.pointer (some ⟨w.heap.size+1+1,0,none⟩)] #[],.func (.func 31) #[.pointer (some ⟨w.heap.size+1+1,0,none⟩)] #[],.func (.func 32) #[.pointer (some ⟨w.heap.size+1+1,0,none⟩)] #[],.func (.func 33) #[.pointer (some ⟨w.heap.size+1+1,0,none⟩)] #[],.func (.func 34) #[.pointer (some ⟨w.heap.size+1+1,0,none⟩)] #[],.func (.func 35) #[.pointer (some ⟨w.heap.size+1+1,0,none⟩)] #[],.func (.func 36) #[.pointer (some ⟨w.heap.size+1+1,0,none⟩)] #[],.func (.func 37) #[.pointer (some ⟨w.heap.size+1+1,0,none⟩)] #[]]) (.int .i64 7)).run Tryz.prog u=.ok (.func (.func 36) #[.pointer (some ⟨w.heap.size+1+1,0,none⟩)] #[]) u:=fun _=>by kernel_rfl
 have hx8:∀ u:World,(Instr.index 72 (.agg #[.func (.func 29) #[.pointer (some ⟨w.heap.size+1+1,0,none⟩)] #[],.func (.func 30) #[.pointer (some ⟨w.heap.size+1+1,0,none⟩)] #[],.func (.func 31) #[.pointer (some ⟨w.heap.size+1+1,0,none⟩)] #[],.func (.func 32) #[.pointer (some ⟨w.heap.size+1+1,0,none⟩)] #[],.func (.func 33) #[.pointer (some ⟨w.heap.size+1+1,0,none⟩)] #[],.func (.func 34) #[.pointer (some ⟨w.heap.size+1+1,0,none⟩)] #[],.func (.func 35) #[.pointer (some ⟨w.heap.size+1+1,0,none⟩)] #[],.func (.func 36) #[.pointer (some ⟨w.heap.size+1+1,0,none⟩)] #[],.func (.func 37) #[.pointer (some ⟨w.heap.size+1+1,0,none⟩)] #[]]) (.int .i64 8)).run Tryz.prog u=.ok (.func (.func 37) #[.pointer (some ⟨w.heap.size+1+1,0,none⟩)] #[]) u:=fun _=>by kernel_rfl
 have hfz:∀ (c:Array Value) (j:Nat),((((w.alloc (.cells #[.slice none 0 0,.slice none 0 0,.int .i64 0,.int .i64 0] 28)).alloc (.map #[] 0)).alloc (.cells #[.slice a len cap,.int .i64 stack,.map (some (w.heap.size+1)),.bool false,.int .i64 0,.int .i64 0] 71)).alloc (.cells c 72)).frozen? ⟨w.heap.size+1+1+1,j,none⟩=false:=fun c j=>frozen_new _ c 72 _ j (by simp)
 go_enter Tryz.func7,Tryz.ntmps7
 go_wp2_with fail
 refine wp_loop_rounds 10 ?_
 rw[HV0.out]
 have HC:Hid _:=chk1 HS.out
 rw[rounds_succ]
 by_cases hz:0<=(if 20000<len then 20000 else Pl.fst1 (fun i=>!okL (Pl.gl xs i)) len:Int)
 ·have HSD:Hid (Pl.ansL (fun i=>okL (Pl.gl xs i)) xs stack=(1,if 20000<len then 20000 else Pl.fst1 (fun i=>!okL (Pl.gl xs i)) len)):=ansn1 HXL.out hz
  obtain⟨z,hzz⟩:∃ z:Int,z=(if 20000<len then 20000 else Pl.fst1 (fun i=>!okL (Pl.gl xs i)) len):=⟨_,rfl⟩
  rw[<- hzz]at HC HSD hz
  clear hzz HS
  go_wp2_with (go_at_call 29;refine Calls.mono HC.out ?_;rintro e v1 ⟨rfl,hr,_⟩; have HRR:Hid (Rr w v1):=hr;have f0:=cell_of_row v1 w.heap.size 0 _ 28 (0,0) hr.r;have f1:=cell_of_row v1 w.heap.size 1 _ 28 (0,0) hr.r;have f2:=cell_of_row v1 w.heap.size 2 _ 28 (0,0) hr.r;have f3:=cell_of_row v1 w.heap.size 3 _ 28 (0,0) hr.r;have ff:=fun i=>frozen_of_row v1 w.heap.size i _ 28 hr.r;simp only[List.getElem?_toArray,List.getElem?_cons_zero,List.getElem?_cons_succ]at f0 f1 f2 f3;clear hr)
  have g1:=heap_setCell_same v1 w.heap.size 0 _ _ (.slice none 0 0) HRR.out.r
  have g2:=heap_setCell_same _ w.heap.size 1 _ _ (.slice none 0 0) g1
  have g3:=heap_setCell_same _ w.heap.size 2 _ _ (.int .i64 0) g2
  have g4:=heap_setCell_same _ w.heap.size 3 _ _ (.int .i64 0) g3
  refine bodyPost_ret (v:=.tuple #[.agg #[.slice none 0 0,.slice none 0 0,.int .i64 0,.int .i64 0],.int .i64 1,.int .i64 z]) (results_cell_tmp2 Tryz.results7 _ _ w.heap.size 28 _ (0,0) _ _ _ rfl rfl rfl g4 Tryz.underlying28 rfl (by kernel_rfl)) rfl ?_
  exact AsmSaid.no HSD.out (by decide) ((((HRR.out.low.setCell (p:=⟨w.heap.size,0,none⟩) (Nat.le_refl _) _).setCell (p:=⟨w.heap.size,1,none⟩) (Nat.le_refl _) _).setCell (p:=⟨w.heap.size,2,none⟩) (Nat.le_refl _) _).setCell (p:=⟨w.heap.size,3,none⟩) (Nat.le_refl _) _)
 have HN:Hid (len<=20000):=n1_len hz
 have HL:Hid (xs.length<=20000):=by show xs.length<=20000;rw[HXL.out];exact HN.out
 have HF1:Hid (Pl.fst1 (fun i=>!okL (Pl.gl xs i)) xs.length=-1):=by show _=_;rw[HXL.out];exact n1_ok hz
 have HKn:Hid (∀ i,i<xs.length->LnK (Pl.gl xs i)):=lnK_of (Pl.fst1_neg (neg_of1 HF1.out)).2
 obtain⟨z,hzz⟩:∃ z:Int,z=(if 20000<len then 20000 else Pl.fst1 (fun i=>!okL (Pl.gl xs i)) len):=⟨_,rfl⟩
 rw[<- hzz]at HC hz
 clear hzz HS
 go_wp2_with (go_at_call 29;refine Calls.mono HC.out ?_;rintro e v1 ⟨rfl,hr,hst⟩; have HS:Hid _:=hst hz;clear hr hst)
 clear HC hz
 have HC:Hid _:=chk2 HS.out HN.out HKn.out
 rw[rounds_succ]
 by_cases hz:0<=(Pl.fst1 (Pl.stray xs) len:Int)
 ·have HSD:Hid (Pl.ansL (fun i=>okL (Pl.gl xs i)) xs stack=(2,Pl.fst1 (Pl.stray xs) len)):=by show _=_;rw[<- HXL.out];exact Pl.ans2 HL.out HF1.out (by rw[HXL.out];exact hz)
  obtain⟨z,hzz⟩:∃ z:Int,z=(Pl.fst1 (Pl.stray xs) len):=⟨_,rfl⟩
  rw[<- hzz]at HC HSD hz
  clear hzz HS
  go_wp2_with (go_at_call 30;refine Calls.mono HC.out ?_;rintro e v2 ⟨rfl,hr,_⟩; have HRR:Hid (Rr w v2):=hr;have f0:=cell_of_row v2 w.heap.size 0 _ 28 (0,0) hr.r;have f1:=cell_of_row v2 w.heap.size 1 _ 28 (0,0) hr.r;have f2:=cell_of_row v2 w.heap.size 2 _ 28 (0,0) hr.r;have f3:=cell_of_row v2 w.heap.size 3 _ 28 (0,0) hr.r;have ff:=fun i=>frozen_of_row v2 w.heap.size i _ 28 hr.r;simp only[List.getElem?_toArray,List.getElem?_cons_zero,List.getElem?_cons_succ]at f0 f1 f2 f3;clear hr)
  have g1:=heap_setCell_same v2 w.heap.size 0 _ _ (.slice none 0 0) HRR.out.r
  have g2:=heap_setCell_same _ w.heap.size 1 _ _ (.slice none 0 0) g1
  have g3:=heap_setCell_same _ w.heap.size 2 _ _ (.int .i64 0) g2
  have g4:=heap_setCell_same _ w.heap.size 3 _ _ (.int .i64 0) g3
  refine bodyPost_ret (v:=.tuple #[.agg #[.slice none 0 0,.slice none 0 0,.int .i64 0,.int .i64 0],.int .i64 2,.int .i64 z]) (results_cell_tmp2 Tryz.results7 _ _ w.heap.size 28 _ (0,0) _ _ _ rfl rfl rfl g4 Tryz.underlying28 rfl (by kernel_rfl)) rfl ?_
  exact AsmSaid.no HSD.out (by decide) ((((HRR.out.low.setCell (p:=⟨w.heap.size,0,none⟩) (Nat.le_refl _) _).setCell (p:=⟨w.heap.size,1,none⟩) (Nat.le_refl _) _).setCell (p:=⟨w.heap.size,2,none⟩) (Nat.le_refl _) _).setCell (p:=⟨w.heap.size,3,none⟩) (Nat.le_refl _) _)
 have HF2:Hid (Pl.fst1 (Pl.stray xs) xs.length=-1):=by show _=_;rw[HXL.out];exact (Pl.fst1_neg hz).1
 obtain⟨z,hzz⟩:∃ z:Int,z=(Pl.fst1 (Pl.stray xs) len):=⟨_,rfl⟩
 rw[<- hzz]at HC hz
 clear hzz HS
 go_wp2_with (go_at_call 30;refine Calls.mono HC.out ?_;rintro e v2 ⟨rfl,hr,hst⟩; have HS:Hid _:=hst hz;clear hr hst)
 clear HC hz
 have HC:Hid _:=chk3 HS.out HN.out
 rw[rounds_succ]
 by_cases hz:0<=(Pl.fst1 (Pl.twice xs) len:Int)
 ·have HSD:Hid (Pl.ansL (fun i=>okL (Pl.gl xs i)) xs stack=(3,Pl.fst1 (Pl.twice xs) len)):=by show _=_;rw[<- HXL.out];exact Pl.ans3 HL.out HF1.out HF2.out (by rw[HXL.out];exact hz)
  obtain⟨z,hzz⟩:∃ z:Int,z=(Pl.fst1 (Pl.twice xs) len):=⟨_,rfl⟩
  rw[<- hzz]at HC HSD hz
  clear hzz HS
  go_wp2_with (go_at_call 31;refine Calls.mono HC.out ?_;rintro e v3 ⟨rfl,hr,_⟩; have HRR:Hid (Rr w v3):=hr;have f0:=cell_of_row v3 w.heap.size 0 _ 28 (0,0) hr.r;have f1:=cell_of_row v3 w.heap.size 1 _ 28 (0,0) hr.r;have f2:=cell_of_row v3 w.heap.size 2 _ 28 (0,0) hr.r;have f3:=cell_of_row v3 w.heap.size 3 _ 28 (0,0) hr.r;have ff:=fun i=>frozen_of_row v3 w.heap.size i _ 28 hr.r;simp only[List.getElem?_toArray,List.getElem?_cons_zero,List.getElem?_cons_succ]at f0 f1 f2 f3;clear hr)
  have g1:=heap_setCell_same v3 w.heap.size 0 _ _ (.slice none 0 0) HRR.out.r
  have g2:=heap_setCell_same _ w.heap.size 1 _ _ (.slice none 0 0) g1
  have g3:=heap_setCell_same _ w.heap.size 2 _ _ (.int .i64 0) g2
  have g4:=heap_setCell_same _ w.heap.size 3 _ _ (.int .i64 0) g3
  refine bodyPost_ret (v:=.tuple #[.agg #[.slice none 0 0,.slice none 0 0,.int .i64 0,.int .i64 0],.int .i64 3,.int .i64 z]) (results_cell_tmp2 Tryz.results7 _ _ w.heap.size 28 _ (0,0) _ _ _ rfl rfl rfl g4 Tryz.underlying28 rfl (by kernel_rfl)) rfl ?_
  exact AsmSaid.no HSD.out (by decide) ((((HRR.out.low.setCell (p:=⟨w.heap.size,0,none⟩) (Nat.le_refl _) _).setCell (p:=⟨w.heap.size,1,none⟩) (Nat.le_refl _) _).setCell (p:=⟨w.heap.size,2,none⟩) (Nat.le_refl _) _).setCell (p:=⟨w.heap.size,3,none⟩) (Nat.le_refl _) _)
 have HF3:Hid (Pl.fst1 (Pl.twice xs) xs.length=-1):=by show _=_;rw[HXL.out];exact (Pl.fst1_neg hz).1
 have HTW:Hid (∀ i,i<xs.length->Pl.twice xs i=false):=(Pl.fst1_neg (neg_of1 HF3.out)).2
 obtain⟨z,hzz⟩:∃ z:Int,z=(Pl.fst1 (Pl.twice xs) len):=⟨_,rfl⟩
 rw[<- hzz]at HC hz
 clear hzz HS
 go_wp2_with (go_at_call 31;refine Calls.mono HC.out ?_;rintro e v3 ⟨rfl,hr,hst⟩; have HS:Hid _:=hst hz;clear hr hst)
 clear HC hz
 have HC:Hid _:=chk4 HS.out
 rw[rounds_succ]
 by_cases hz:0<=(Pl.fst1 (Pl.lost xs) len:Int)
 ·have HSD:Hid (Pl.ansL (fun i=>okL (Pl.gl xs i)) xs stack=(4,Pl.fst1 (Pl.lost xs) len)):=by show _=_;rw[<- HXL.out];exact Pl.ans4 HL.out HF1.out HF2.out HF3.out (by rw[HXL.out];exact hz)
  obtain⟨z,hzz⟩:∃ z:Int,z=(Pl.fst1 (Pl.lost xs) len):=⟨_,rfl⟩
  rw[<- hzz]at HC HSD hz
  clear hzz HS
  go_wp2_with (go_at_call 32;refine Calls.mono HC.out ?_;rintro e v4 ⟨rfl,hr,_⟩; have HRR:Hid (Rr w v4):=hr;have f0:=cell_of_row v4 w.heap.size 0 _ 28 (0,0) hr.r;have f1:=cell_of_row v4 w.heap.size 1 _ 28 (0,0) hr.r;have f2:=cell_of_row v4 w.heap.size 2 _ 28 (0,0) hr.r;have f3:=cell_of_row v4 w.heap.size 3 _ 28 (0,0) hr.r;have ff:=fun i=>frozen_of_row v4 w.heap.size i _ 28 hr.r;simp only[List.getElem?_toArray,List.getElem?_cons_zero,List.getElem?_cons_succ]at f0 f1 f2 f3;clear hr)
  have g1:=heap_setCell_same v4 w.heap.size 0 _ _ (.slice none 0 0) HRR.out.r
  have g2:=heap_setCell_same _ w.heap.size 1 _ _ (.slice none 0 0) g1
  have g3:=heap_setCell_same _ w.heap.size 2 _ _ (.int .i64 0) g2
  have g4:=heap_setCell_same _ w.heap.size 3 _ _ (.int .i64 0) g3
  refine bodyPost_ret (v:=.tuple #[.agg #[.slice none 0 0,.slice none 0 0,.int .i64 0,.int .i64 0],.int .i64 4,.int .i64 z]) (results_cell_tmp2 Tryz.results7 _ _ w.heap.size 28 _ (0,0) _ _ _ rfl rfl rfl g4 Tryz.underlying28 rfl (by kernel_rfl)) rfl ?_
  exact AsmSaid.no HSD.out (by decide) ((((HRR.out.low.setCell (p:=⟨w.heap.size,0,none⟩) (Nat.le_refl _) _).setCell (p:=⟨w.heap.size,1,none⟩) (Nat.le_refl _) _).setCell (p:=⟨w.heap.size,2,none⟩) (Nat.le_refl _) _).setCell (p:=⟨w.heap.size,3,none⟩) (Nat.le_refl _) _)
 have HF4:Hid (Pl.fst1 (Pl.lost xs) xs.length=-1):=by show _=_;rw[HXL.out];exact (Pl.fst1_neg hz).1
 have HLT:Hid (∀ i,i<xs.length->Pl.lost xs i=false):=(Pl.fst1_neg (neg_of1 HF4.out)).2
 obtain⟨z,hzz⟩:∃ z:Int,z=(Pl.fst1 (Pl.lost xs) len):=⟨_,rfl⟩
 rw[<- hzz]at HC hz
 clear hzz HS
 go_wp2_with (go_at_call 32;refine Calls.mono HC.out ?_;rintro e v4 ⟨rfl,hr,hst⟩; have HS:Hid _:=hst hz;clear hr hst)
 clear HC hz
 have HC:Hid _:=chk5 HS.out HKn.out HTW.out
 rw[rounds_succ]
 by_cases hz:0<=(Pl.cdA xs:Int)
 ·have HSD:Hid (Pl.ansL (fun i=>okL (Pl.gl xs i)) xs stack=(5,Pl.cdA xs)):=by show _=_;rw[cdA_0 hz];exact Pl.ans5 HL.out HF1.out HF2.out HF3.out HF4.out (cdA_pos hz)
  obtain⟨z,hzz⟩:∃ z:Int,z=(Pl.cdA xs):=⟨_,rfl⟩
  rw[<- hzz]at HC HSD hz
  clear hzz HS
  go_wp2_with (go_at_call 33;refine Calls.mono HC.out ?_;rintro e v5 ⟨rfl,hr,_⟩; have HRR:Hid (Rr w v5):=hr;have f0:=cell_of_row v5 w.heap.size 0 _ 28 (0,0) hr.r;have f1:=cell_of_row v5 w.heap.size 1 _ 28 (0,0) hr.r;have f2:=cell_of_row v5 w.heap.size 2 _ 28 (0,0) hr.r;have f3:=cell_of_row v5 w.heap.size 3 _ 28 (0,0) hr.r;have ff:=fun i=>frozen_of_row v5 w.heap.size i _ 28 hr.r;simp only[List.getElem?_toArray,List.getElem?_cons_zero,List.getElem?_cons_succ]at f0 f1 f2 f3;clear hr)
  have g1:=heap_setCell_same v5 w.heap.size 0 _ _ (.slice none 0 0) HRR.out.r
  have g2:=heap_setCell_same _ w.heap.size 1 _ _ (.slice none 0 0) g1
  have g3:=heap_setCell_same _ w.heap.size 2 _ _ (.int .i64 0) g2
  have g4:=heap_setCell_same _ w.heap.size 3 _ _ (.int .i64 0) g3
  refine bodyPost_ret (v:=.tuple #[.agg #[.slice none 0 0,.slice none 0 0,.int .i64 0,.int .i64 0],.int .i64 5,.int .i64 z]) (results_cell_tmp2 Tryz.results7 _ _ w.heap.size 28 _ (0,0) _ _ _ rfl rfl rfl g4 Tryz.underlying28 rfl (by kernel_rfl)) rfl ?_
  exact AsmSaid.no HSD.out (by decide) ((((HRR.out.low.setCell (p:=⟨w.heap.size,0,none⟩) (Nat.le_refl _) _).setCell (p:=⟨w.heap.size,1,none⟩) (Nat.le_refl _) _).setCell (p:=⟨w.heap.size,2,none⟩) (Nat.le_refl _) _).setCell (p:=⟨w.heap.size,3,none⟩) (Nat.le_refl _) _)
 have HF5:Hid (P5 xs):=cdA_neg hz
 have HTB:Hid (0<=(Pl.cu xs len).t/\(Pl.cu xs len).t<=1099511627776):=by
  have:=Pl.cu_bd xs (fun i hi=>(HKn.out i hi).b) len (by rw[HXL.out];exact Nat.le_refl _)
  have:=HN.out
  exact⟨by omega,by omega⟩
 obtain⟨z,hzz⟩:∃ z:Int,z=(Pl.cdA xs):=⟨_,rfl⟩
 rw[<- hzz]at HC hz
 clear hzz HS
 go_wp2_with (go_at_call 33;refine Calls.mono HC.out ?_;rintro e v5 ⟨rfl,hr,hst⟩; have HS:Hid _:=hst hz;clear hr hst)
 clear HC hz
 have HC:Hid _:=chk6 HS.out
 rw[rounds_succ]
 by_cases hz:0<=(if 65536<(Pl.cu xs len).b then 0 else -1:Int)
 ·have HSD:Hid (Pl.ansL (fun i=>okL (Pl.gl xs i)) xs stack=(6,if 65536<(Pl.cu xs len).b then 0 else -1)):=by show _=_;rw[if_pos (ite_pos0 hz)];exact Pl.ans6 HL.out HF1.out HF2.out HF3.out HF4.out HF5.out (ite_pos0 (by rw[HXL.out];exact hz))
  obtain⟨z,hzz⟩:∃ z:Int,z=(if 65536<(Pl.cu xs len).b then 0 else -1):=⟨_,rfl⟩
  rw[<- hzz]at HC HSD hz
  clear hzz HS
  go_wp2_with (go_at_call 34;refine Calls.mono HC.out ?_;rintro e v6 ⟨rfl,hr,_⟩; have HRR:Hid (Rr w v6):=hr;have f0:=cell_of_row v6 w.heap.size 0 _ 28 (0,0) hr.r;have f1:=cell_of_row v6 w.heap.size 1 _ 28 (0,0) hr.r;have f2:=cell_of_row v6 w.heap.size 2 _ 28 (0,0) hr.r;have f3:=cell_of_row v6 w.heap.size 3 _ 28 (0,0) hr.r;have ff:=fun i=>frozen_of_row v6 w.heap.size i _ 28 hr.r;simp only[List.getElem?_toArray,List.getElem?_cons_zero,List.getElem?_cons_succ]at f0 f1 f2 f3;clear hr)
  have g1:=heap_setCell_same v6 w.heap.size 0 _ _ (.slice none 0 0) HRR.out.r
  have g2:=heap_setCell_same _ w.heap.size 1 _ _ (.slice none 0 0) g1
  have g3:=heap_setCell_same _ w.heap.size 2 _ _ (.int .i64 0) g2
  have g4:=heap_setCell_same _ w.heap.size 3 _ _ (.int .i64 0) g3
  refine bodyPost_ret (v:=.tuple #[.agg #[.slice none 0 0,.slice none 0 0,.int .i64 0,.int .i64 0],.int .i64 6,.int .i64 z]) (results_cell_tmp2 Tryz.results7 _ _ w.heap.size 28 _ (0,0) _ _ _ rfl rfl rfl g4 Tryz.underlying28 rfl (by kernel_rfl)) rfl ?_
  exact AsmSaid.no HSD.out (by decide) ((((HRR.out.low.setCell (p:=⟨w.heap.size,0,none⟩) (Nat.le_refl _) _).setCell (p:=⟨w.heap.size,1,none⟩) (Nat.le_refl _) _).setCell (p:=⟨w.heap.size,2,none⟩) (Nat.le_refl _) _).setCell (p:=⟨w.heap.size,3,none⟩) (Nat.le_refl _) _)
 have HF6:Hid (P6 xs):=by show ¬ (65536<(Pl.cu xs xs.length).b);rw[HXL.out];exact ite_neg0 hz
 obtain⟨z,hzz⟩:∃ z:Int,z=(if 65536<(Pl.cu xs len).b then 0 else -1):=⟨_,rfl⟩
 rw[<- hzz]at HC hz
 clear hzz HS
 go_wp2_with (go_at_call 34;refine Calls.mono HC.out ?_;rintro e v6 ⟨rfl,hr,hst⟩; have HS:Hid _:=hst hz;clear hr hst)
 clear HC hz
 have HC:Hid _:=chk7 HS.out HKn.out HLT.out
 rw[rounds_succ]
 by_cases hz:0<=(Pl.fst1 (Pl.badJ xs) len:Int)
 ·have HSD:Hid (Pl.ansL (fun i=>okL (Pl.gl xs i)) xs stack=(7,Pl.fst1 (Pl.badJ xs) len)):=by show _=_;rw[<- HXL.out];exact Pl.ans7 HL.out HF1.out HF2.out HF3.out HF4.out HF5.out HF6.out (by rw[HXL.out];exact hz)
  obtain⟨z,hzz⟩:∃ z:Int,z=(Pl.fst1 (Pl.badJ xs) len):=⟨_,rfl⟩
  rw[<- hzz]at HC HSD hz
  clear hzz HS
  go_wp2_with (go_at_call 35;refine Calls.mono HC.out ?_;rintro e v7 ⟨rfl,hr,_⟩; have HRR:Hid (Rr w v7):=hr;have f0:=cell_of_row v7 w.heap.size 0 _ 28 (0,0) hr.r;have f1:=cell_of_row v7 w.heap.size 1 _ 28 (0,0) hr.r;have f2:=cell_of_row v7 w.heap.size 2 _ 28 (0,0) hr.r;have f3:=cell_of_row v7 w.heap.size 3 _ 28 (0,0) hr.r;have ff:=fun i=>frozen_of_row v7 w.heap.size i _ 28 hr.r;simp only[List.getElem?_toArray,List.getElem?_cons_zero,List.getElem?_cons_succ]at f0 f1 f2 f3;clear hr)
  have g1:=heap_setCell_same v7 w.heap.size 0 _ _ (.slice none 0 0) HRR.out.r
  have g2:=heap_setCell_same _ w.heap.size 1 _ _ (.slice none 0 0) g1
  have g3:=heap_setCell_same _ w.heap.size 2 _ _ (.int .i64 0) g2
  have g4:=heap_setCell_same _ w.heap.size 3 _ _ (.int .i64 0) g3
  refine bodyPost_ret (v:=.tuple #[.agg #[.slice none 0 0,.slice none 0 0,.int .i64 0,.int .i64 0],.int .i64 7,.int .i64 z]) (results_cell_tmp2 Tryz.results7 _ _ w.heap.size 28 _ (0,0) _ _ _ rfl rfl rfl g4 Tryz.underlying28 rfl (by kernel_rfl)) rfl ?_
  exact AsmSaid.no HSD.out (by decide) ((((HRR.out.low.setCell (p:=⟨w.heap.size,0,none⟩) (Nat.le_refl _) _).setCell (p:=⟨w.heap.size,1,none⟩) (Nat.le_refl _) _).setCell (p:=⟨w.heap.size,2,none⟩) (Nat.le_refl _) _).setCell (p:=⟨w.heap.size,3,none⟩) (Nat.le_refl _) _)
 have HF7:Hid (Pl.fst1 (Pl.badJ xs) xs.length=-1):=by show _=_;rw[HXL.out];exact (Pl.fst1_neg hz).1
 obtain⟨z,hzz⟩:∃ z:Int,z=(Pl.fst1 (Pl.badJ xs) len):=⟨_,rfl⟩
 rw[<- hzz]at HC hz
 clear hzz HS
 go_wp2_with (go_at_call 35;refine Calls.mono HC.out ?_;rintro e v7 ⟨rfl,hr,hst⟩; have HS:Hid _:=hst hz;clear hr hst)
 clear HC hz
 have HC:Hid _:=chk8 HS.out HTB.out
 rw[rounds_succ]
 by_cases hz:0<=(Pl.stA xs:Int)
 ·have HSD:Hid (Pl.ansL (fun i=>okL (Pl.gl xs i)) xs stack=(8,Pl.stA xs)):=by show _=_;rw[stA_0 hz];exact Pl.ans8 HL.out HF1.out HF2.out HF3.out HF4.out HF5.out HF6.out HF7.out (stA_pos hz)
  obtain⟨z,hzz⟩:∃ z:Int,z=(Pl.stA xs):=⟨_,rfl⟩
  rw[<- hzz]at HC HSD hz
  clear hzz HS
  go_wp2_with (go_at_call 36;refine Calls.mono HC.out ?_;rintro e v8 ⟨rfl,hr,_⟩; have HRR:Hid (Rr w v8):=hr;have f0:=cell_of_row v8 w.heap.size 0 _ 28 (0,0) hr.r;have f1:=cell_of_row v8 w.heap.size 1 _ 28 (0,0) hr.r;have f2:=cell_of_row v8 w.heap.size 2 _ 28 (0,0) hr.r;have f3:=cell_of_row v8 w.heap.size 3 _ 28 (0,0) hr.r;have ff:=fun i=>frozen_of_row v8 w.heap.size i _ 28 hr.r;simp only[List.getElem?_toArray,List.getElem?_cons_zero,List.getElem?_cons_succ]at f0 f1 f2 f3;clear hr)
  have g1:=heap_setCell_same v8 w.heap.size 0 _ _ (.slice none 0 0) HRR.out.r
  have g2:=heap_setCell_same _ w.heap.size 1 _ _ (.slice none 0 0) g1
  have g3:=heap_setCell_same _ w.heap.size 2 _ _ (.int .i64 0) g2
  have g4:=heap_setCell_same _ w.heap.size 3 _ _ (.int .i64 0) g3
  refine bodyPost_ret (v:=.tuple #[.agg #[.slice none 0 0,.slice none 0 0,.int .i64 0,.int .i64 0],.int .i64 8,.int .i64 z]) (results_cell_tmp2 Tryz.results7 _ _ w.heap.size 28 _ (0,0) _ _ _ rfl rfl rfl g4 Tryz.underlying28 rfl (by kernel_rfl)) rfl ?_
  exact AsmSaid.no HSD.out (by decide) ((((HRR.out.low.setCell (p:=⟨w.heap.size,0,none⟩) (Nat.le_refl _) _).setCell (p:=⟨w.heap.size,1,none⟩) (Nat.le_refl _) _).setCell (p:=⟨w.heap.size,2,none⟩) (Nat.le_refl _) _).setCell (p:=⟨w.heap.size,3,none⟩) (Nat.le_refl _) _)
 obtain⟨js,hsj,hf8⟩:=stA_neg hz
 have HSJ:Hid (Pl.lb xs Pl.startS=some js):=hsj
 have HF8:Hid (P8 xs js):=hf8
 clear hsj hf8
 obtain⟨z,hzz⟩:∃ z:Int,z=(Pl.stA xs):=⟨_,rfl⟩
 rw[<- hzz]at HC hz
 clear hzz HS
 go_wp2_with (go_at_call 36;refine Calls.mono HC.out ?_;rintro e v8 ⟨rfl,hr,hst⟩; have HS:Hid _:=hst hz;clear hr hst)
 clear HC hz
 have HC:Hid _:=chk9 HS.out
 rw[rounds_succ]
 by_cases hz:0<=(if 0<=stack/\stack<=65536/\stack % 16=0 then -1 else 0:Int)
 ·have HSD:Hid (Pl.ansL (fun i=>okL (Pl.gl xs i)) xs stack=(9,if 0<=stack/\stack<=65536/\stack % 16=0 then -1 else 0)):=by show _=_;rw[if_neg (ite_negm hz)];exact Pl.ans9 HL.out HF1.out HF2.out HF3.out HF4.out HF5.out HF6.out HF7.out HSJ.out HF8.out (ite_negm hz)
  obtain⟨z,hzz⟩:∃ z:Int,z=(if 0<=stack/\stack<=65536/\stack % 16=0 then -1 else 0):=⟨_,rfl⟩
  rw[<- hzz]at HC HSD hz
  clear hzz HS
  go_wp2_with (go_at_call 37;refine Calls.mono HC.out ?_;rintro e v9 ⟨rfl,hr,_⟩; have HRR:Hid (Rr w v9):=hr;have f0:=cell_of_row v9 w.heap.size 0 _ 28 (0,0) hr.r;have f1:=cell_of_row v9 w.heap.size 1 _ 28 (0,0) hr.r;have f2:=cell_of_row v9 w.heap.size 2 _ 28 (0,0) hr.r;have f3:=cell_of_row v9 w.heap.size 3 _ 28 (0,0) hr.r;have ff:=fun i=>frozen_of_row v9 w.heap.size i _ 28 hr.r;simp only[List.getElem?_toArray,List.getElem?_cons_zero,List.getElem?_cons_succ]at f0 f1 f2 f3;clear hr)
  have g1:=heap_setCell_same v9 w.heap.size 0 _ _ (.slice none 0 0) HRR.out.r
  have g2:=heap_setCell_same _ w.heap.size 1 _ _ (.slice none 0 0) g1
  have g3:=heap_setCell_same _ w.heap.size 2 _ _ (.int .i64 0) g2
  have g4:=heap_setCell_same _ w.heap.size 3 _ _ (.int .i64 0) g3
  refine bodyPost_ret (v:=.tuple #[.agg #[.slice none 0 0,.slice none 0 0,.int .i64 0,.int .i64 0],.int .i64 9,.int .i64 z]) (results_cell_tmp2 Tryz.results7 _ _ w.heap.size 28 _ (0,0) _ _ _ rfl rfl rfl g4 Tryz.underlying28 rfl (by kernel_rfl)) rfl ?_
  exact AsmSaid.no HSD.out (by decide) ((((HRR.out.low.setCell (p:=⟨w.heap.size,0,none⟩) (Nat.le_refl _) _).setCell (p:=⟨w.heap.size,1,none⟩) (Nat.le_refl _) _).setCell (p:=⟨w.heap.size,2,none⟩) (Nat.le_refl _) _).setCell (p:=⟨w.heap.size,3,none⟩) (Nat.le_refl _) _)
 have HF9:Hid (P9 stack):=by show (0<=stack/\stack<=65536/\stack % 16=0);exact ite_posm hz
 obtain⟨z,hzz⟩:∃ z:Int,z=(if 0<=stack/\stack<=65536/\stack % 16=0 then -1 else 0):=⟨_,rfl⟩
 rw[<- hzz]at HC hz
 clear hzz HS
 go_wp2_with (go_at_call 37;refine Calls.mono HC.out ?_;rintro e v9 ⟨rfl,hr,hst⟩; have HS:Hid _:=hst hz;clear hr hst)
 clear HC hz
 obtain⟨B,mb,hAZ⟩:=HS.out.am
 have HIM:Hid _:=image_is js hAZ HKn.out HLT.out (Pl.fst1_neg (neg_of1 HF2.out)).2 HSJ.out
 have HSD:Hid (Pl.ansL (fun i=>okL (Pl.gl xs i)) xs stack=(0,0)):=Pl.ans0 HL.out HF1.out HF2.out HF3.out HF4.out HF5.out HF6.out HF7.out HSJ.out HF8.out HF9.out
 have HRR9:Hid (Rr w v9):=HS.out.rr
 have HAD:Hid (Pl.adr xs Pl.startS=(Pl.cu xs js).at):=adr_of HSJ.out
 clear hAZ
 rw[rounds_succ]
 go_wp2_with (go_at_call 38;refine Calls.mono HIM.out ?_;rintro e v10 ⟨vc,vd,rfl,hoc,hod,hb⟩; obtain⟨a5,y5,hv5⟩:=own_slice hoc;obtain⟨a6,y6,hv6⟩:=own_slice hod;subst hv5 hv6;have hr:=HRR9.out.keep hb;have HRR:Hid (Rr w v10):=hr;have HOC:Hid _:=hoc;have HOD:Hid _:=hod;have HBE:Hid _:=hb;have f0:=cell_of_row v10 w.heap.size 0 _ 28 (0,0) hr.r;have f1:=cell_of_row v10 w.heap.size 1 _ 28 (0,0) hr.r;have f2:=cell_of_row v10 w.heap.size 2 _ 28 (0,0) hr.r;have f3:=cell_of_row v10 w.heap.size 3 _ 28 (0,0) hr.r;have ff:=fun i=>frozen_of_row v10 w.heap.size i _ 28 hr.r;simp only[List.getElem?_toArray,List.getElem?_cons_zero,List.getElem?_cons_succ]at f0 f1 f2 f3;clear hr hoc hod hb)
 have g1:=heap_setCell_same v10 w.heap.size 0 _ _ (.slice a5 (Pl.codeL ewI xs xs.length).length y5) HRR.out.r
 have g2:=heap_setCell_same _ w.heap.size 1 _ _ (.slice a6 (Pl.dataL xs xs.length).length y6) g1
 have g3:=heap_setCell_same _ w.heap.size 2 _ _ (.int .i64 (Pl.cu xs js).at) g2
 have g4:=heap_setCell_same _ w.heap.size 3 _ _ (.int .i64 stack) g3
 have o4:=(((OnlyC.set w.heap.size 0 v10 (.slice a5 (Pl.codeL ewI xs xs.length).length y5)).trans (OnlyC.set w.heap.size 1 _ (.slice a6 (Pl.dataL xs xs.length).length y6))).trans (OnlyC.set w.heap.size 2 _ (.int .i64 (Pl.cu xs js).at))).trans (OnlyC.set w.heap.size 3 _ (.int .i64 stack))
 refine bodyPost_ret (v:=.tuple #[.agg #[.slice a5 (Pl.codeL ewI xs xs.length).length y5,.slice a6 (Pl.dataL xs xs.length).length y6,.int .i64 (Pl.cu xs js).at,.int .i64 stack],.int .i64 0,.int .i64 0]) (results_cell_tmp2 Tryz.results7 _ _ w.heap.size 28 _ (0,0) _ _ _ rfl rfl rfl g4 Tryz.underlying28 rfl (by kernel_rfl)) rfl ?_
 refine⟨_,_,_,_,by rw[HSD.out],HRR.out.low.trans (o4.low (Nat.le_refl _) HRR.out.low.size),fun _=>⟨?_,?_,HAD.out.symm,rfl⟩,fun q=>absurd (by rw[HSD.out]) q⟩
 ·exact owns_low (owns_onlyT HOC.out HRR.out.r (by decide) o4) HRR9.out.low.size
 ·exact owns_low (owns_onlyT HOD.out HRR.out.r (by decide) o4) HRR9.out.low.size
end Go.Proofs.YtlbomnnldkeocaaGreat.W
