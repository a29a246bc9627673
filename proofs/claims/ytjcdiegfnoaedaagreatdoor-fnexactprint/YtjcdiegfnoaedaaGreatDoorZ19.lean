import Derived.Test.YtjcdiegfnoaedaaGreatDoorZ02
set_option linter.unusedVariables false
set_option linter.unusedSimpArgs false
set_option maxHeartbeats 16000000
namespace Go.Proofs.YtjcdiegfnoaedaaGreatDoor
namespace W
open Go.RowKit
def RG (l:List ByteArray) (n:Nat) (w:World) (e:Ending) (w':World):Prop:=∃g,e=.returned (.slice (some ⟨g,0,none⟩) n n)/\w.heap.size<=g/\g<w'.heap.size/\(∀j,j<n->w'.cell? ⟨g,j,none⟩=some (.string (l.getD j ⟨#[]⟩)))/\Bw w w'
theorem Ec (l:List ByteArray) (w:World) (j:Nat) (hj:j<l.length):(w.alloc (.cells (l.map Value.string).toArray 9)).cell? ⟨w.heap.size,j,none⟩=some (.string (l.getD j ⟨#[]⟩)):=by
 rw[cell_of_row _ w.heap.size j _ 9 (0,0) (heap_alloc_new w _),List.getElem?_toArray,List.getElem?_map,List.getElem?_eq_getElem hj,List.getD_eq_getElem?_getD,List.getElem?_eq_getElem hj];rfl
theorem zG (l:List ByteArray) (w:World):RG l l.length w (.returned (.slice (some ⟨w.heap.size,0,none⟩) l.length l.length)) (w.alloc (.cells (l.map Value.string).toArray 9)):=⟨_,rfl,Nat.le_refl _,by simp,Ec l w,aA w _⟩
theorem Bp (w:World):Calls Tryz.prog 108 #[] w fun e w'=>RG Pl.BA 4 w e w':=by
 go_in;go_wp2;go_ret;exact zG Pl.BA w
theorem RH (w:World):Calls Tryz.prog 111 #[] w fun e w'=>RG Pl.stepW 3 w e w':=by
 go_in;go_wp2;go_ret;exact zG Pl.stepW w
theorem Ed (w:World):Calls Tryz.prog 112 #[] w fun e w'=>RG Pl.unW 7 w e w':=by
 go_in;go_wp2;go_ret;exact zG Pl.unW w
theorem XH (w:World):Calls Tryz.prog 113 #[] w fun e w'=>RG Pl.uU 19 w e w':=by
 go_in;go_wp2;go_ret;exact zG Pl.uU w
theorem yE (w:World):Calls Tryz.prog 89 #[] w fun e w'=>RG Pl.uU 19 w e w':=by
 go_in;go_wp2;go_ret;exact zG Pl.uU w
theorem wO (w:World):Calls Tryz.prog 90 #[] w fun e w'=>RG Pl.PL 17 w e w':=by
 go_in;go_wp2;go_ret;exact zG Pl.PL w
end W
end Go.Proofs.YtjcdiegfnoaedaaGreatDoor
