/-
  The contract of package index's List: all entries, by rising keys.
-/
import Derived.Test.YtnjdckoljmgcjaaGreatDoorW26
import Derived.Lib.OwnBridge
import Derived.Shelf.SlSortCmp.NoneTotal
import Derived.Shelf.Lay
set_option maxRecDepth 100000
set_option maxHeartbeats 4000000
namespace Go.Proofs.YtnjdckoljmgcjaaGreatDoor
open Go.ChangeShapes Go.WideShapes Go.ChangeAt Go.RowKit Go.Maps Go.WideMaps Go.Shelf Go.Sort
set_option linter.unusedVariables false
theorem zmt (l:List Nt) (ks:List KeyT) {j:Nat} (hj:j<ks.length * 10):(zaC (ks.map (mkE l)))[j]?=some ((flatK (encE l) 10 ks.toArray)[j]!):=by
 have hd:j / 10<ks.length:=by omega
 have e:j / 10 * 10+j % 10=j:=by omega
 rw [get_flatK _ _ _ _ (by simpa using hj)]
 have h1:=zcH (l:=ks.map (mkE l)) (j:=j / 10) (i:=j % 10) (by simpa using hd) (by omega)
 rw [e] at h1
 rw [h1,List.getElem_map]
 have h2:ks.toArray[j / 10]! = ks[j / 10]:=by rw [getElem!_pos _ _ (by simpa using hd)];simp
 rw [h2]
 have h3:j % 10<(encE l ks[j / 10]).length:=by show j % 10<10;omega
 rw [getElem!_pos (encE l ks[j / 10]) (j % 10) h3]
 exact List.getElem?_eq_getElem h3
theorem zih {B:Nat} {a w:World} (h:Below B a w) (hB:B≤w.heap.size) (os:Array Obj):Below B a (grow w os) :=
 ⟨h.os,h.tape,h.output,by have:=h.size;simp [grow];omega,fun k hk=>by
  rw [←h.block k hk]
  show (w.heap ++ os)[k]?=w.heap[k]?
  rw [Array.getElem?_append_left (by omega)]⟩
theorem zln {w:World} {g N:Nat} {l:List Nt} {ks:List KeyT} (hn:ks.Nodup) (hR:w.ownsRow g 114 10 (.slice (some ⟨g,0,none⟩) ks.length N) ks.length (zaC (ks.map (mkE l)))) (hlen:ks.length<100000) :
  Calls Tryz.prog 105 #[.slice (some ⟨g,0,none⟩) ks.length N,.func (.func 106) #[] #[]] w fun e w'=>e=.returned (.tuple #[])∧∃ds:List KeyT,ds.length=ks.length∧zea ds∧(∀x,x∈ds ↔ x∈ks) ∧
   (∀j v,(zaC (ds.map (mkE l)))[j]?=some v→w'.cell? ⟨g,j,none⟩=some v)∧Below g w w'∧g<w'.heap.size∧∃cs,Blk w' g 114 cs:=by
 have hg:g<w.heap.size:=(hR.lt g rfl).2
 have eg:∀args w,(callFunc 106 args).run Tryz.prog w=.ok (.enter 106 args) w:=enters_of Tryz.func106 (by kernel_rfl) rfl
 have hH:HoldsK (encE l) 10 w g 0 ks.toArray:=fun j hj=>by
  rw [size_flatK] at hj
  have hj':j<ks.length * 10:=by simpa using hj
  rw [Nat.zero_add]
  exact ⟨by rw [hR.cellAt j hj',zmt l ks hj'];rfl,hR.frozenAt j⟩
 have hcmp:CmpLays Tryz.prog 106 #[] (encE l) 10 cmpP g 0 ks.toArray.size w:=fun m os dk _ x y=>zi0 x.1 x.2 (zbq l x.1 x.2) y.1 y.2 (zbq l y.1 y.2) _
 have hcon:=AnyQ.slices_SortFunc Tryz.sortE 10 Tryz.isAgg114 Tryz.sizeOf114 (encE l) (fun _=>rfl) (fun x v hv=>zdH _ v hv) cmpP swoK 106 #[] g 0 N ks.toArray w eg hcmp hH hg (by simp;omega)
 have hcon2:Calls Tryz.prog 105 #[.slice (some ⟨g,0,none⟩) ks.length N,.func (.func 106) #[] #[]] w _:=hcon
 refine hcon2.mono fun e w' ⟨he,d,n,os,h1,h2,hw⟩=>⟨he,d.toList,?_,?_,?_,?_,?_,?_,?_⟩
 ·have:=h1.1
  simpa using this
 ·exact (zes hn h1 h2).1
 ·exact (zes hn h1 h2).2
 ·intro j v hv
  have hs:d.size=ks.toArray.size:=h1.1
  have hH2:HoldsK (encE l) 10 w' g 0 d:=by rw [hw];exact holdsK_sortWorldK_c (encE l) 10 w g 0 ks.toArray d n os hH hg hs
  have hj:j<d.toList.length * 10:=by
   have:=(List.getElem?_eq_some_iff.1 hv).1
   rw [zaX] at this
   simpa using this
  rw [zmt l d.toList hj] at hv
  have h3:=(hH2 j (by rw [size_flatK];simpa using hj)).1
  rw [Nat.zero_add] at h3
  rw [h3]
  exact hv
 ·rw [hw]
  exact zih (Lib.below_putRow (Below.refl g w) (Nat.le_refl _)) (by show g≤(putRow _ _ _ _ _).heap.size;rw [Sort.size_putRow];exact Nat.le_of_lt hg) os
 ·rw [hw]
  show g<(grow (putRow _ _ _ _ _) os).heap.size
  simp [grow]
  have:(Sort.ahead w n).heap.size=w.heap.size:=rfl
  omega
 ·rcases hR.2 with ⟨e0,_⟩ | ⟨g',cap',cur,e0,hb0,hg0,_⟩
  ·cases e0
  ·injection e0 with e1 _ _
   injection e1 with e1
   injection e1 with e1
   subst e1
   refine ⟨putCells id 0 (flatK (encE l) 10 d) cur,?_⟩
   rw [hw]
   show ((putRow id (Sort.ahead w n) g 0 (flatK (encE l) 10 d)).heap ++ os)[g]?=_
   rw [Array.getElem?_append_left (by rw [Sort.size_putRow];exact hg)]
   simp [putRow,mapBlock,Sort.ahead,Array.getElem?_modify,hg0,onCells]
end Go.Proofs.YtnjdckoljmgcjaaGreatDoor
namespace Go.Proofs.YtnjdckoljmgcjaaGreatDoor
open Go.ChangeShapes Go.WideShapes Go.ChangeAt Go.RowKit Go.Maps Go.WideMaps Go.Shelf Go.Sort
set_option linter.unusedVariables false
set_option linter.unusedSimpArgs false
theorem ziD (x y:IdT):ltOf cmpI x y=decide (cmpI x y<0):=rfl
theorem swoI:SWO (ltOf cmpI) where
 irrefl x:=by rw [ziD,zcM];rfl
 trans x y z h1 h2:=by
  rw [ziD,decide_eq_true_iff] at *
  exact zfL h1 h2
 ntrans x y z h1 h2:=by
  rw [ziD,decide_eq_false_iff_not] at *
  rw [zgI] at *
  omega
theorem zee {es:List IdT} (hn:es.Nodup) {d:Array IdT} (h1:PermIn 0 es.toArray.size es.toArray d) (h2:SortedIn (ltOf cmpI) 0 es.toArray.size d):zcl d.toList∧∀x,x∈d.toList ↔ x∈es:=by
 obtain ⟨hs,_,hp⟩:=h1
 have hs':d.size=es.length:=by simpa using hs
 have hp2:d.toList.Perm es:=by
  have e1:(d.extract 0 es.toArray.size).toList=d.toList:=by simp [←hs']
  have e2:(es.toArray.extract 0 es.toArray.size).toList=es:=by simp
  rw [e1,e2] at hp
  exact hp
 refine ⟨?_,fun x=>hp2.mem_iff⟩
 have hnd:d.toList.Nodup:=hp2.nodup_iff.2 hn
 unfold zcl
 rw [List.pairwise_iff_getElem]
 intro i j hi hj hij
 have h3:=h2 i j (Nat.zero_le _) hij (by simpa [hs'] using hj)
 have ei:d[i]! = d.toList[i]:=by simp at hi;rw [getElem!_pos d i hi];rfl
 have ej:d[j]! = d.toList[j]:=by simp at hj;rw [getElem!_pos d j hj];rfl
 rw [ei,ej,ziD,decide_eq_false_iff_not] at h3
 have h4:d.toList[i]≠d.toList[j]:=(List.pairwise_iff_getElem.1 hnd) i j hi hj hij
 exact zmR h3 (Ne.symm h4)
theorem zmr (w:World) (A B:Obj):(w.alloc A).alloc B=grow (w.drewN 0) #[A,B]:=by rw [alloc_eq_grow,alloc_eq_grow,grow_grow];rfl
theorem zko (r s r2 s2:Int) (w:World) :
  Calls Tryz.prog 45 #[nm r s,nm r2 s2] w fun e w'=>e=.returned (.int .i64 (zky r s r2 s2))∧∃q os',w'=grow (w.drewN q) os':=by
 obtain ⟨c,hc⟩:∃c,cmpN r r2=c:=⟨_,rfl⟩
 have HC:=hid hc
 by_cases h0:c=0
 ·subst h0
  have HV:Hid (zky r s r2 s2=cmpN s s2):=hid (by unfold zky;rw [hc];rfl)
  clear hc
  go_enter Tryz.func45,Tryz.ntmps45
  go_wp2_with (first
   | (go_at_call 77;(with_reducible refine (zfV r r2 _).mono ?_);rintro e w' ⟨rfl,rfl⟩;rw [HC.out])
   | (go_at_call 77;(with_reducible refine (zfV s s2 _).mono ?_);rintro e w' ⟨rfl,rfl⟩))
  go_ret
  exact ⟨zba HV.out.symm,0,_,zmr _ _ _⟩
 ·have HV:Hid (zky r s r2 s2=c):=hid (by unfold zky;rw [hc,if_pos h0])
  have h1:(c != 0)=true:=by rw [bne_iff_ne];exact h0
  clear hc
  go_enter Tryz.func45,Tryz.ntmps45
  go_wp2_with (first
   | (go_at_call 77;(with_reducible refine (zfV r r2 _).mono ?_);rintro e w' ⟨rfl,rfl⟩;rw [HC.out]))
  go_ret
  exact ⟨zba HV.out.symm,0,_,zmr _ _ _⟩
theorem zj4 (ks:List IdT) {j:Nat} (hj:j<ks.length * 2):(ze8 ks)[j]?=some ((flatK idC 2 ks.toArray)[j]!):=by
 have hd:j / 2<ks.length:=by omega
 have e:j / 2 * 2+j % 2=j:=by omega
 rw [get_flatK _ _ _ _ (by simpa using hj)]
 have h1:=zhq (l:=ks) (j:=j / 2) (i:=j % 2) hd (by omega)
 rw [e] at h1
 rw [h1]
 have h2:ks.toArray[j / 2]! = ks[j / 2]:=by rw [getElem!_pos _ _ (by simpa using hd)];simp
 rw [h2]
 have h3:j % 2<(idC ks[j / 2]).length:=by show j % 2<2;omega
 rw [getElem!_pos (idC ks[j / 2]) (j % 2) h3]
 exact List.getElem?_eq_getElem h3
theorem znh {w:World} {base g N:Nat} {ks:List IdT} (hn:ks.Nodup) (hR:w.ownsRow base 55 2 (.slice (some ⟨g,0,none⟩) ks.length N) ks.length (ze8 ks)) (hlen:ks.length<100000) :
  Calls Tryz.prog 75 #[.slice (some ⟨g,0,none⟩) ks.length N,.func (.func 45) #[] #[]] w fun e w'=>e=.returned (.tuple #[])∧∃ds:List IdT,ds.length=ks.length∧zcl ds∧(∀x,x∈ds ↔ x∈ks) ∧
   (∀j v,(ze8 ds)[j]?=some v→w'.cell? ⟨g,j,none⟩=some v)∧Below base w w'∧g<w'.heap.size:=by
 have hg:g<w.heap.size:=(hR.lt g rfl).2
 have hbg:base≤g:=(hR.lt g rfl).1
 have eg:∀args w,(callFunc 45 args).run Tryz.prog w=.ok (.enter 45 args) w:=enters_of Tryz.func45 (by kernel_rfl) rfl
 have hH:HoldsK idC 2 w g 0 ks.toArray:=fun j hj=>by
  rw [size_flatK] at hj
  have hj':j<ks.length * 2:=by simpa using hj
  rw [Nat.zero_add]
  exact ⟨by rw [hR.cellAt j hj',zj4 ks hj'];rfl,hR.frozenAt j⟩
 have hcmp:CmpLays Tryz.prog 45 #[] idC 2 cmpI g 0 ks.toArray.size w:=fun m os dk _ x y=>zko x.1 x.2 y.1 y.2 _
 have hcon:=AnyQ.slices_SortFunc Tryz.sortI 2 Tryz.isAgg55 Tryz.sizeOf55 idC (fun _=>rfl) (fun x v hv=>zpm _ v hv) cmpI swoI 45 #[] g 0 N ks.toArray w eg hcmp hH hg (by simp;omega)
 have hcon2:Calls Tryz.prog 75 #[.slice (some ⟨g,0,none⟩) ks.length N,.func (.func 45) #[] #[]] w _:=hcon
 refine hcon2.mono fun e w' ⟨he,d,n,os,h1,h2,hw⟩=>⟨he,d.toList,?_,?_,?_,?_,?_,?_⟩
 ·have:=h1.1
  simpa using this
 ·exact (zee hn h1 h2).1
 ·exact (zee hn h1 h2).2
 ·intro j v hv
  have hs:d.size=ks.toArray.size:=h1.1
  have hH2:HoldsK idC 2 w' g 0 d:=by rw [hw];exact holdsK_sortWorldK_c idC 2 w g 0 ks.toArray d n os hH hg hs
  have hj:j<d.toList.length * 2:=by
   have:=(List.getElem?_eq_some_iff.1 hv).1
   rw [zkF] at this
   simpa using this
  rw [zj4 d.toList hj] at hv
  have h3:=(hH2 j (by rw [size_flatK];simpa using hj)).1
  rw [Nat.zero_add] at h3
  rw [h3]
  exact hv
 ·rw [hw]
  exact zih (Lib.below_putRow (Below.refl base w) hbg) (by show base≤(putRow _ _ _ _ _).heap.size;rw [Sort.size_putRow];exact Nat.le_trans hbg (Nat.le_of_lt hg)) os
 ·rw [hw]
  show g<(grow (putRow _ _ _ _ _) os).heap.size
  simp [grow]
  have:(Sort.ahead w n).heap.size=w.heap.size:=rfl
  omega
def ze1 (w:World) (A:Option Addr) (l:List IdT):Prop:=∀(j:Nat) (y:IdT),l[j]?=some y→∃b o,A=some ⟨b,o,none⟩∧b<w.heap.size∧w.rangeAt b (o+j * 2) (idC y)
theorem ze1.nil (w:World) (A:Option Addr):ze1 w A []:=fun j x h=>by simp at h
theorem ze1.below {w w':World} {A:Option Addr} {l:List IdT} (h:ze1 w A l) (hb:Below w.heap.size w w'):ze1 w' A l:=fun j x hj=>by
 obtain ⟨b,o,h1,h2,h3⟩:=h j x hj
 exact ⟨b,o,h1,Nat.lt_of_lt_of_le h2 hb.size,fun i v hv=>(hb.cell (p:=⟨b,o+j * 2+i,none⟩) h2).trans (h3 i v hv)⟩
theorem ze1.of {w:World} {g:Nat} {l:List IdT} (hg:g<w.heap.size) (h:∀j v,(ze8 l)[j]?=some v→w.cell? ⟨g,j,none⟩=some v):ze1 w (some ⟨g,0,none⟩) l:=fun j y hj=>by
 obtain ⟨hj1,hj2⟩:=List.getElem?_eq_some_iff.1 hj
 refine ⟨g,0,rfl,hg,fun i v hv=>?_⟩
 rw [Nat.zero_add]
 have hi:i<2:=(List.getElem?_eq_some_iff.1 hv).1
 refine h (j * 2+i) v ?_
 rw [zhq hj1 hi,hj2]
 exact hv
def zuG (l:List J) (nn:Nat) (w:World) (e:Ending) (w':World):Prop :=
 ∃A c ds,e=.returned (.slice A (ds.length:Nat) c)∧EntV l ds∧ds.length≤nn∧ze1 w' A ds∧(∀b o,A=some ⟨b,o,none⟩→w.heap.size≤b∧b<w'.heap.size)∧Below w.heap.size w w'
theorem zly (m nn:Nat) (l:List J) (g:Nat) (w:World) (hg:g<w.heap.size) (hc:w.cell? ⟨g,0,none⟩=some (.map (some m))) (h:StM w m nn l) (hl:zfR l) (hnn:nn≤1000) :
  Calls Tryz.prog 43 #[.func (.func 76) #[] #[.pointer (some ⟨g,0,none⟩)],.func (.func 45) #[] #[]] w (zuG l nn w):=by
 have HC:=hid (zj6 m nn l g w hg hc h hl hnn)
 have HNone:=hid (fun fv w=>AnyF.slices_SortFunc_none Tryz.sortI none 0 fv w)
 clear hc h hl
 go_enter Tryz.func43,Tryz.ntmps43
 go_wp2_with fail
 refine HC.out.mono ?_
 rintro e w1 ⟨v,ks,rfl,hR,h2,h3,h4⟩
 have H2:=hid h2
 have H4:=hid h4
 have HR:=hid hR
 rcases hR.2 with ⟨e1,e2⟩ | ⟨g',cap',cur,e1,_⟩
 ·subst e1
  have hks:ks=[]:=List.eq_nil_of_length_eq_zero e2
  subst hks
  clear hR h2 h4
  go_wp2_with (go_at_call 75;refine (HNone.out _ _).mono ?_;rintro e w2 ⟨rfl,rfl⟩)
  go_ret
  exact ⟨none,0,[],rfl,⟨List.Pairwise.nil,H2.out.2⟩,Nat.zero_le _,ze1.nil _ _,(fun b o h=>by cases h),H4.out⟩
 ·subst e1
  have HS:=hid (znh (base:=w.heap.size) (g:=g') (N:=cap') H2.out.1 HR.out (by omega))
  obtain ⟨n,hn⟩:∃n,ks.length=n:=⟨_,rfl⟩
  rw [hn] at HS
  rw [hn]
  have HN:=hid hn
  clear hR h2 h4 hn
  go_wp2_with (go_at_call 75;refine HS.out.mono ?_;rintro e w2 ⟨rfl,ds,k1,k2,k3,k4,k5,k6⟩;have K2:=hid k2;have K3:=hid k3;have K4:=hid k4;have K5:=hid k5;clear k2 k3 k4 k5)
  go_ret
  subst k1
  exact ⟨_,_,ds,rfl,⟨K2.out,fun y=>(K3.out y).trans (H2.out.2 y)⟩,(by rw [←HN.out];exact h3),ze1.of k6 K4.out,(fun b o h=>by injection h with h;injection h with h;subst h;exact ⟨(HR.out.lt _ rfl).1,k6⟩),H4.out.trans K5.out⟩
end Go.Proofs.YtnjdckoljmgcjaaGreatDoor
namespace Go.Proofs.YtnjdckoljmgcjaaGreatDoor
open Go.ChangeShapes Go.WideShapes Go.ChangeAt Go.RowKit Go.Maps Go.WideMaps
set_option linter.unusedVariables false
set_option linter.unusedSimpArgs false
theorem znl (q:Int) (w:World):Calls Tryz.prog 108 #[.int .i64 q] w fun e w'=>e=.returned (.int .i64 (cutS q))∧w=w':=by
 have h1:Hid (q<0→cutS q=0):=hid (fun h=>by unfold cutS;rw [if_pos h])
 have h2:Hid (¬q<0→1073741824<q→cutS q=1073741824):=hid (fun h k=>by unfold cutS;rw [if_neg h,if_pos k])
 have h3:Hid (¬q<0→¬1073741824<q→cutS q=q):=hid (fun h k=>by unfold cutS;rw [if_neg h,if_neg k])
 rcases (show q<0∨¬q<0 by omega) with h | h
 ·have HE:=hid (h1.out h)
  go_enter Tryz.func108,Tryz.ntmps108
  go_wp2
  go_ret
  exact ⟨zba HE.out.symm,rfl⟩
 ·rcases (show 1073741824<q∨¬1073741824<q by omega) with k | k
  ·have HE:=hid (h2.out h k)
   go_enter Tryz.func108,Tryz.ntmps108
   go_wp2
   go_ret
   exact ⟨zba HE.out.symm,rfl⟩
  ·have HE:=hid (h3.out h k)
   go_enter Tryz.func108,Tryz.ntmps108
   go_wp2
   go_ret
   exact ⟨zba HE.out.symm,rfl⟩
def DocV (w:World) (v:Value) (l:List Nt):Prop:=w.ownsRow 0 116 10 v l.length (zaC l)
theorem DocV.nil (w:World):DocV w (.slice none 0 0) []:=World.ownsRow_nil w 0 _ 10
theorem DocV.below {w w':World} {v:Value} {l:List Nt} (h:DocV w v l) (hb:Below w.heap.size w w'):DocV w' v l:=h.kept (zam hb none) (by
 cases hv:v.ownBlock with
 | none=>exact Or.inl rfl
 | some b=>exact Or.inr (by simp))
def DocB (B:Nat) (w:World) (v:Value) (l:List Nt):Prop:=DocV w v l∧∀b,v.ownBlock=some b→b<B
theorem DocV.held {w:World} {v:Value} {l:List Nt} (h:DocV w v l):DocB w.heap.size w v l:=⟨h,fun b hb=>(World.ownsRow.lt h b hb).2⟩
theorem DocB.below {B:Nat} {w w':World} {v:Value} {l:List Nt} (h:DocB B w v l) (hb:Below B w w'):DocB B w' v l:=by
 obtain ⟨⟨hl,hc⟩,hB⟩:=h
 refine ⟨⟨hl,?_⟩,hB⟩
 rcases hc with h0 | ⟨g,cap,cur,hv,hb0,hg,rest⟩
 ·exact Or.inl h0
 ·exact Or.inr ⟨g,cap,cur,hv,hb0,(hb.block g (hB g (by rw [hv];rfl))).trans hg,rest⟩
theorem ztf {w:World} {base n:Nat} {v:Value} {xs:List Value} {l:List Nt} (h:w.ownsRow base 116 10 v n xs) (hn:n=l.length) (hx:xs=zaC l):DocV w v l:=by
 subst hn;subst hx
 exact ⟨h.1,h.2.imp id fun ⟨g,cap,cur,a,b,c⟩=>⟨g,cap,cur,a,Nat.zero_le _,c⟩⟩
theorem zs5:∃z,(Tryz.prog.info? 116).map (fun i=>(i.zero,i.size,i.bytes))=some (some z,10,88)∧z.cells.size=10:=⟨.agg #[.string ⟨#[]⟩,.int .u64 0,.int .i64 0,.int .i64 0,.int .i64 0,.int .i64 0,.int .i64 0,.int .i64 0,.int .i64 0,.int .i64 0],by kernel_rfl,rfl⟩
theorem zqv {w W:World} {cs:Array Value} {r s:Int} (h:(w.alloc (.cells cs 80)).alloc (.cells #[.int .i64 r,.int .i64 s] 78)=W) :
  Hid (Blk W w.heap.size 80 cs)∧Hid (Blk W (w.heap.size+1) 78 #[.int .i64 r,.int .i64 s])∧Hid (Below w.heap.size w W):=zcE h
theorem zpu {w':World} {g:Nat} {T:TypeId} {f:ByteArray} {u:Int} {a:Nat→Int} (h:Blk w' g T (#[.string f,.int .u64 u,.int .i64 (a 0),.int .i64 (a 1),.int .i64 (a 2),.int .i64 (a 3),.int .i64 (a 4),.int .i64 (a 5),.int .i64 (a 6),.int .i64 (a 7)])):(w'.cell? ⟨g,0,none⟩=some (.string f)∧w'.cell? ⟨g,1,none⟩=some (.int .u64 u)∧w'.cell? ⟨g,2,none⟩=some (.int .i64 (a 0))∧w'.cell? ⟨g,3,none⟩=some (.int .i64 (a 1))∧w'.cell? ⟨g,4,none⟩=some (.int .i64 (a 2))∧w'.cell? ⟨g,5,none⟩=some (.int .i64 (a 3))∧w'.cell? ⟨g,6,none⟩=some (.int .i64 (a 4))∧w'.cell? ⟨g,7,none⟩=some (.int .i64 (a 5))∧w'.cell? ⟨g,8,none⟩=some (.int .i64 (a 6))∧w'.cell? ⟨g,9,none⟩=some (.int .i64 (a 7))):=zg8 h
theorem zve (f:ByteArray) (u:Int) (b:Nat→Int) (x:Int):∀a:Nat,a<7→(#[.string f,.int .u64 u,.int .i64 (b 0),.int .i64 (b 1),.int .i64 (b 2),.int .i64 (b 3),.int .i64 (b 4),.int .i64 (b 5),.int .i64 (b 6),.int .i64 (b 7)]:Array Value).setIfInBounds (3+a) (.int .i64 x)=#[.string f,.int .u64 u,.int .i64 ((upd b (1+a) x) 0),.int .i64 ((upd b (1+a) x) 1),.int .i64 ((upd b (1+a) x) 2),.int .i64 ((upd b (1+a) x) 3),.int .i64 ((upd b (1+a) x) 4),.int .i64 ((upd b (1+a) x) 5),.int .i64 ((upd b (1+a) x) 6),.int .i64 ((upd b (1+a) x) 7)]
 | 0,_=>rfl
 | 1,_=>rfl
 | 2,_=>rfl
 | 3,_=>rfl
 | 4,_=>rfl
 | 5,_=>rfl
 | 6,_=>rfl
theorem zu8 (f:ByteArray) (u:Int) (b:Nat→Int):∀a:Nat,a<7→(#[.string f,.int .u64 u,.int .i64 (b 0),.int .i64 (b 1),.int .i64 (b 2),.int .i64 (b 3),.int .i64 (b 4),.int .i64 (b 5),.int .i64 (b 6),.int .i64 (b 7)]:Array Value)[3+a]?=some (.int .i64 (b (1+a)))
 | 0,_=>rfl
 | 1,_=>rfl
 | 2,_=>rfl
 | 3,_=>rfl
 | 4,_=>rfl
 | 5,_=>rfl
 | 6,_=>rfl
theorem n_at {W w:World} {f:ByteArray} {u:Int} {b:Nat→Int} (h:w.alloc (.cells (#[.string f,.int .u64 u,.int .i64 (b 0),.int .i64 (b 1),.int .i64 (b 2),.int .i64 (b 3),.int .i64 (b 4),.int .i64 (b 5),.int .i64 (b 6),.int .i64 (b 7)]) 116)=W):∀j x,(ntC ⟨f,u,b⟩)[j]?=some x→W.cell? ((⟨w.heap.size,0,none⟩:Addr).add j)=some x:=by
 obtain ⟨K,_⟩:=za1 h
 intro j x hj
 rw [Addr.add_mid,Nat.zero_add,K.out.cell j]
 exact (List.getElem?_toArray ..).trans hj
theorem zlo (v:Value) (l:List Nt) (c:K) (r s q:Int) (w:World) (h:DocV w v l) (ho:okK c) (hf:c.foot.size<200) (hp:c.path.size<200) (hlen:l.length<1000) :
  Calls Tryz.prog 73 #[v,val c,nm r s,.int .i64 q] w fun e w'=>∃v',e=.returned v'∧DocV w' v' (zdt l c r s q)∧Below w.heap.size w w':=by
 have KO:=hid (fun w=>zn9 c w ho (by omega) (by omega))
 obtain ⟨F,hF⟩:∃F,keyF c=F:=⟨_,rfl⟩
 obtain ⟨y,hy⟩:∃y,zds r s=y:=⟨_,rfl⟩
 obtain ⟨B,hB⟩:∃B,zns c=B:=⟨_,rfl⟩
 have HL:Hid (zdt l c r s q=if B && y then l ++ [⟨F,c.num,upd (upd (fun _=>0) 0 (cutS q)) (1+r.toNat) (s+1)⟩] else l):=hid (by
  unfold zdt zo4 keyN
  have:(za9 c).2=zns c:=rfl
  rw [this,hB,hy,hF]
  cases B <;> rfl)
 have e1:(za9 c).1=F:=hF
 have e2:(za9 c).2=B:=hB
 rw [e1,e2] at KO
 have HY:=hid hy
 have HN:Hid (y=true→∃a b:Nat,r=a∧s=b∧a<7∧b<1024):=hid (fun h=>by
  subst h;obtain ⟨a,b,h1,h2,h3,h4,_⟩:=ze9 hy;exact ⟨a,b,h1,h2,h3,h4⟩)
 have HV:=hid h.held
 obtain ⟨i,z,hi,hz0,hz1,hz2,hz3⟩:∃i z,Tryz.prog.info? 116=some i∧i.zero=some z∧i.size=10∧i.bytes=88∧z.cells.size=10:=by
  obtain ⟨z,h1,h2⟩:=zs5
  obtain ⟨i,a,b,c,d⟩:=info_parts h1
  exact ⟨i,z,a,b,c,d,h2⟩
 have HI:=hid (And.intro hi (And.intro hz0 (And.intro hz1 (And.intro hz2 hz3))))
 clear h ho hf hp hF hy hB e1 e2 hi hz0 hz1 hz2 hz3
 obtain ⟨k,u,f,q',s',m',n,t⟩:=c
 go_enter Tryz.func73,Tryz.ntmps73
 go_upto_region 1 with fail
 obtain ⟨W,hW⟩:∃W,(w.alloc (.cells (cellsOf ⟨k,u,f,q',s',m',n,t⟩) 80)).alloc (.cells #[.int .i64 r,.int .i64 s] 78)=W:=⟨_,rfl⟩
 rw [hW]
 obtain ⟨K0,K1,KB⟩:=zqv hW
 clear hW
 obtain ⟨g,hk⟩:∃k,w.heap.size=k:=⟨_,rfl⟩
 rw [hk] at K0 K1 KB
 rw [hk]
 have HK:=hid hk
 rw [hk] at HV
 clear hk
 obtain ⟨⟨c0,c1,c2,c3,c4,c5,c6,c7⟩,_⟩:=zaa K0.out
 go_wp2_with fail
 with_reducible refine (KO.out _).mono ?_
 rintro e w1 ⟨rfl,hb⟩
 clear c0 c1 c2 c3 c4 c5 c6 c7
 have D0:=hid (K0.out.below hb K0.out.lt)
 have D1:=hid (K1.out.below hb K1.out.lt)
 have DB:=hid (KB.out.trans (hb.mono (Nat.le_of_lt K0.out.lt)))
 clear hb K0 K1 KB
 cases B
 ·have HL2:Hid (zdt l ⟨k,u,f,q',s',m',n,t⟩ r s q=l):=hid (by rw [HL.out];simp)
  go_wp2
  refine bodyPost_ret (v:=v) (by simp [results,Tryz.results73,go_sem]) rfl ?_
  exact ⟨_,rfl,by rw [HL2.out];exact (HV.out.below DB.out).1,by rw [HK.out];exact DB.out⟩
 ·obtain ⟨⟨i0,i1⟩,_,_⟩:=blkn D1.out
  go_wp2_with fail
  with_reducible refine (zfi r s _).mono ?_
  rw [HY.out]
  rintro e w2 ⟨rfl,hb⟩
  clear i0 i1
  have E0:=hid (D0.out.below hb D0.out.lt)
  have E1:=hid (D1.out.below hb D1.out.lt)
  have EB:=hid (DB.out.trans (hb.mono (Nat.le_of_lt D0.out.lt)))
  clear hb D0 D1 DB
  cases y
  ·have HL2:Hid (zdt l ⟨k,u,f,q',s',m',n,t⟩ r s q=l):=hid (by rw [HL.out];simp)
   go_wp2
   refine bodyPost_ret (v:=v) (by simp [results,Tryz.results73,go_sem]) rfl ?_
   exact ⟨_,rfl,by rw [HL2.out];exact (HV.out.below EB.out).1,by rw [HK.out];exact EB.out⟩
  ·obtain ⟨a,b,rfl,rfl,ha,hb2⟩:=HN.out rfl
   obtain ⟨cu,hcu⟩:∃cu,cutS q=cu:=⟨_,rfl⟩
   have HC:=hid (fun w=>znl q w)
   rw [hcu] at HC
   have HL2:Hid (zdt l ⟨k,u,f,q',s',m',n,t⟩ a b q=l ++ [⟨F,u,upd (upd (fun _=>0) 0 cu) (1+a) (b+1)⟩]):=hid (by rw [HL.out,hcu,Int.toNat_natCast];rfl)
   clear HL hcu
   obtain ⟨⟨c0,c1,c2,c3,c4,c5,c6,c7⟩,_⟩:=zaa E0.out
   go_upto_region 5 with fail
   obtain ⟨W3,hW3⟩:∃W3,w2.alloc (.cells #[.string F,.int .u64 u,.int .i64 0,.int .i64 0,.int .i64 0,.int .i64 0,.int .i64 0,.int .i64 0,.int .i64 0,.int .i64 0] 116)=W3:=⟨_,rfl⟩
   rw [hW3]
   obtain ⟨A0,AB⟩:=za1 hW3
   have A0:Hid (Blk W3 w2.heap.size 116 (#[.string F,.int .u64 u,.int .i64 ((fun _=>(0:Int)) 0),.int .i64 ((fun _=>(0:Int)) 1),.int .i64 ((fun _=>(0:Int)) 2),.int .i64 ((fun _=>(0:Int)) 3),.int .i64 ((fun _=>(0:Int)) 4),.int .i64 ((fun _=>(0:Int)) 5),.int .i64 ((fun _=>(0:Int)) 6),.int .i64 ((fun _=>(0:Int)) 7)])):=A0
   clear hW3 c0 c1 c2 c3 c4 c5 c6 c7
   have F1:=hid (E1.out.below AB.out E1.out.lt)
   have FB:=hid (EB.out.trans (AB.out.mono (Nat.le_of_lt E0.out.lt)))
   have z2:Hid (g+1<w2.heap.size):=hid E1.out.lt
   obtain ⟨d,hd⟩:∃v,w2.heap.size=v:=⟨_,rfl⟩
   rw [hd] at A0 AB z2
   rw [hd]
   clear E0 E1 EB AB hd
   have g2:=A0.out.frozen 2
   have h2:W3.cell? ⟨d,2,none⟩=some (.int .i64 0):=(A0.out.cell 2).trans rfl
   go_wp2_with fail
   with_reducible refine (HC.out _).mono ?_
   rintro e w4 ⟨rfl,rfl⟩
   go_upto_region 6 with fail
   obtain ⟨W4,hW4⟩:∃W4,W3.setCell ⟨d,2,none⟩ (.int .i64 cu)=W4:=⟨_,rfl⟩
   rw [hW4]
   have B0:Hid (Blk W4 d 116 (#[.string F,.int .u64 u,.int .i64 ((upd (fun _=>0) 0 cu) 0),.int .i64 ((upd (fun _=>0) 0 cu) 1),.int .i64 ((upd (fun _=>0) 0 cu) 2),.int .i64 ((upd (fun _=>0) 0 cu) 3),.int .i64 ((upd (fun _=>0) 0 cu) 4),.int .i64 ((upd (fun _=>0) 0 cu) 5),.int .i64 ((upd (fun _=>0) 0 cu) 6),.int .i64 ((upd (fun _=>0) 0 cu) 7)])):=hid (by rw [←hW4];exact (A0.out.set_ 2 (.int .i64 cu)).as rfl)
   have hb4:Hid (Below d W3 W4):=hid (by rw [←hW4];exact (Below.refl d W3).setCell (p:=⟨d,2,none⟩) (Nat.le_refl _) _)
   have G1:=hid (F1.out.below hb4.out z2.out)
   have GB:=hid (FB.out.trans (hb4.out.mono (by have:=z2.out;omega)))
   clear hW4 hb4 g2 h2 A0 F1 FB
   have g2:=B0.out.frozen (3+a)
   have h2:W4.cell? ⟨d,3+a,none⟩=some (.int .i64 (upd (fun _=>0) 0 cu (1+a))):=(B0.out.cell (3+a)).trans (zu8 F u _ a ha)
   obtain ⟨⟨i0,i1⟩,_,_⟩:=blkn G1.out
   have hb3:(b:Int)<1024:=by omega
   have ha3:(a:Int)<7:=by omega
   go_upto_region 7 with fail
   obtain ⟨W5,hW5⟩:∃W5,W4.setCell ⟨d,3+a,none⟩ (.int .i64 ((b:Int)+1))=W5:=⟨_,rfl⟩
   rw [hW5]
   obtain ⟨A,hA⟩:∃A,upd (upd (fun _=>(0:Int)) 0 cu) (1+a) ((b:Int)+1)=A:=⟨_,rfl⟩
   have C0:Hid (Blk W5 d 116 (#[.string F,.int .u64 u,.int .i64 (A 0),.int .i64 (A 1),.int .i64 (A 2),.int .i64 (A 3),.int .i64 (A 4),.int .i64 (A 5),.int .i64 (A 6),.int .i64 (A 7)])):=hid (by rw [←hW5,←hA];exact (B0.out.set_ (3+a) (.int .i64 ((b:Int)+1))).as (zve F u _ _ a ha))
   have CB:Hid (Below g w W5):=hid (GB.out.trans (by rw [←hW5];exact (Below.refl g W4).setCell (p:=⟨d,3+a,none⟩) (by have:=z2.out;show g≤d;omega) _))
   rw [hA] at HL2
   clear hW5 hA g2 h2 i0 i1 B0 G1 GB
   have CV:=hid (HV.out.below CB.out).1
   have z3:Hid (g≤W5.heap.size):=hid (by have:=C0.out.lt;have:=z2.out;omega)
   obtain ⟨hi,hz0,hz1,hz2,hz3⟩:=HI.out
   go_upto_region 9 with (first
    | (at_builtin;refine zfI rfl (.tmp 42) (.tmp 43) 108 rfl g 0 116 i z 10 88 Tryz.underlying108 hi hz0 hz1 hz2 hz3 (by decide) (.slice none 0 0) 0 [] rfl (World.ownsRow_nil _ _ _ _) v l.length (zaC l) rfl CV.out (zb0 l) (by unfold maxLen;omega) (by omega) z3.out ?_;intro v1 w5 hown1 hg1))
   have O1:=hid hown1
   have J0:=hid (C0.out.grown hg1 (by simp [Value.ownBlock]))
   have JB:=hid (CB.out.trans (Below.mono (Below.of_grown hg1) z3.out))
   have z4:Hid (g≤w5.heap.size):=hid (Nat.le_trans z3.out hg1.size)
   clear hown1 hg1 CV C0 CB
   obtain ⟨c0,c1,c2,c3,c4,c5,c6,c7,c8,c9⟩:=zpu J0.out
   go_wp2_with (first
    | (at_builtin;refine wpList_append_own _ rfl (.tmp 45) (.tmp 47) 108 rfl g 116 i z 10 88 Tryz.underlying108 hi hz0 hz1 hz2 hz3 (by decide) v1 (0+l.length) ([] ++ zaC l) rfl (O1.out.alloc _) ⟨w5.heap.size,0,none⟩ 1 1 (ntC ⟨F,u,A⟩) rfl rfl (n_at rfl) (zdH _) (by unfold maxLen;omega) (by omega) (by have:=z4.out;simp;omega) ?_;intro v2 w6 hown2 hg2 _))
   have X2:=hid hown2
   have XB:Hid (Below g w w6):=hid ((JB.out.alloc z4.out _).grown hg2 (by have:=z4.out;simp;omega) (fun k hk=>(World.ownsRow.lt O1.out k hk).1))
   clear hown2 hg2 O1 JB c0 c1 c2 c3 c4 c5 c6 c7 c8 c9
   refine bodyPost_ret (v:=v2) (by simp [results,Tryz.results73,go_sem]) rfl ?_
   exact ⟨_,rfl,by rw [HL2.out];exact ztf X2.out (by simp) (by rw [zh4];rfl),by rw [HK.out];exact XB.out⟩
theorem n_of {w:World} {g:Nat} {T:TypeId} {f:ByteArray} {u:Int} {b:Nat→Int} (h:Blk w g T (#[.string f,.int .u64 u,.int .i64 (b 0),.int .i64 (b 1),.int .i64 (b 2),.int .i64 (b 3),.int .i64 (b 4),.int .i64 (b 5),.int .i64 (b 6),.int .i64 (b 7)])):∀j x,(ntC ⟨f,u,b⟩)[j]?=some x→w.cell? ((⟨g,0,none⟩:Addr).add j)=some x:=by
 intro j x hj
 rw [Addr.add_mid,Nat.zero_add,h.cell j]
 exact (List.getElem?_toArray ..).trans hj
end Go.Proofs.YtnjdckoljmgcjaaGreatDoor
namespace Go.Proofs.YtnjdckoljmgcjaaGreatDoor
open Go.ChangeShapes Go.WideShapes Go.ChangeAt Go.RowKit Go.Maps Go.WideMaps Go.Shelf Go.Sort
set_option linter.unusedVariables false
set_option linter.unusedSimpArgs false
theorem zok:∃z,(Tryz.prog.info? 114).map (fun i=>(i.zero,i.size,i.bytes))=some (some z,10,88)∧z.cells.size=10:=⟨.agg #[.string ⟨#[]⟩,.int .u64 0,.int .i64 0,.int .i64 0,.int .i64 0,.int .i64 0,.int .i64 0,.int .i64 0,.int .i64 0,.int .i64 0],by kernel_rfl,rfl⟩
theorem zpA {D:DataW Unit} {w:World} {m n:Nat} {l:List Nt} (h:w.ownsMap Tryz.prog 112 attR m n D) (hl:zcA l)
  (h2:∀f u,f.size≤200→0≤u→u<18446744073709551616→Maps.has D (klit f u)=told l f u∧(told l f u=true→∀z,D.atKey (klit f u) z=datA (zbq l f u)))
  (h3:∀kl,Maps.has D kl=true→∃nt∈l,kl=klit nt.foot nt.num) {ks:List KeyT} (hn:ks.Nodup) (hk:∀y:KeyT,y∈ks ↔ told l y.1 y.2=true):Maps.size D=ks.length:=by
 obtain ⟨es,rfl,hp,hkl⟩:=h.entries zex
 have hfair:∀y:KeyT,y∈ks→y.1.size≤200∧0≤y.2∧y.2<18446744073709551616:=fun y hy=>by
  obtain ⟨nt,hm,e1,e2⟩:=zeT.1 ((hk y).1 hy)
  obtain ⟨_,_,a,b,c⟩:=hl nt hm
  rw [←e1,←e2]
  exact ⟨c,a,b⟩
 have n1:(es.map (·.1)).Nodup:=by
  unfold List.Nodup
  rw [List.pairwise_map]
  exact hp
 have n2:(ks.map fun y=>klit y.1 y.2).Nodup:=by
  unfold List.Nodup at *
  rw [List.pairwise_map]
  refine List.Pairwise.imp_of_mem (fun {a b} ha hb hne e=>hne ?_) hn
  obtain ⟨a1,a2,a3⟩:=hfair a ha
  obtain ⟨b1,b2,b3⟩:=hfair b hb
  obtain ⟨e1,e2⟩:=zgz (by unfold maxLen;omega) ⟨a2,a3⟩ (by unfold maxLen;omega) ⟨b2,b3⟩ e
  exact Prod.ext e1 e2
 have hperm:=(List.perm_ext_iff_of_nodup n1 n2).2 fun kl=>by
  constructor
  ·intro hm
   obtain ⟨p,hp1,rfl⟩:=List.mem_map.1 hm
   have hh:Maps.has (DataW.map es) p.1=true:=List.any_eq_true.2 ⟨p,hp1,WideAt.sameKey_self (hkl p hp1)⟩
   obtain ⟨nt,hm2,e⟩:=h3 _ hh
   exact List.mem_map.2 ⟨(nt.foot,nt.num),(hk _).2 (zeT.2 ⟨nt,hm2,rfl,rfl⟩),e.symm⟩
  ·intro hm
   obtain ⟨y,hy,rfl⟩:=List.mem_map.1 hm
   obtain ⟨a1,a2,a3⟩:=hfair y hy
   have hh:=(h2 y.1 y.2 a1 a2 a3).1
   rw [(hk y).1 hy] at hh
   obtain ⟨p,hp1,hp2⟩:=List.any_eq_true.1 hh
   exact List.mem_map.2 ⟨p,hp1,WideAt.sameKey_eq hp2⟩
 have:=hperm.length_eq
 simpa [Maps.size] using this
def zoC (w wr:World) (g b r m n N:Nat) (D:DataW Unit) (l:List Nt) (ks:List KeyT) (left:Lit→Bool) (cnt:Nat):Prop :=
 wr.ranges Tryz.prog 112 attR m r n D left cnt∧(∀kl,left kl=true→Maps.has D kl=true)∧wr.ownsRow g 114 10 (.slice (some ⟨b,0,none⟩) ks.length N) ks.length (zaC (ks.map (mkE l)))∧Below g w wr ∧
  ks.Nodup∧(∀y∈ks,told l y.1 y.2=true∧left (klit y.1 y.2)=false)∧(∀y:KeyT,told l y.1 y.2=true→left (klit y.1 y.2)=false→y∈ks)∧ks.length+cnt≤N
theorem ztj {f:ByteArray} {u:Int} {c a:Nat→Int} (h:rowA c=rowA a):ntC ⟨f,u,c⟩=ntC ⟨f,u,a⟩:=by
 unfold ntC
 simp only [zcX h (show 0<8 by omega),zcX h (show 1<8 by omega),zcX h (show 2<8 by omega),zcX h (show 3<8 by omega),zcX h (show 4<8 by omega),zcX h (show 5<8 by omega),zcX h (show 6<8 by omega),zcX h (show 7<8 by omega)]
theorem ziS (w:World) (a:Addr) (u:Value):w.grownBy (w.setCell a u) (some a.block):=⟨rfl,rfl,rfl,by simp,fun i _ hi=>RowKit.Below.heap_setCell _ _ _ _ (by simpa using hi)⟩
theorem znq {l:List Nt} (hl:zcA l) {ks:List KeyT} {left:Lit→Bool} {f:ByteArray} {u:Int} (hf:f.size≤200) (hu:0≤u∧u<18446744073709551616) (ht:told l f u=true) (hlk:left (klit f u)=true)
  (h1:ks.Nodup) (h2:∀y∈ks,told l y.1 y.2=true∧left (klit y.1 y.2)=false) (h3:∀y:KeyT,told l y.1 y.2=true→left (klit y.1 y.2)=false→y∈ks) :
  (ks ++ [((f,u):KeyT)]).Nodup∧(∀y∈ks ++ [((f,u):KeyT)],told l y.1 y.2=true∧(left (klit y.1 y.2) && !(klit y.1 y.2).sameKey (klit f u))=false) ∧
   (∀y:KeyT,told l y.1 y.2=true→(left (klit y.1 y.2) && !(klit y.1 y.2).sameKey (klit f u))=false→y∈ks ++ [((f,u):KeyT)]):=by
 have hself:(klit f u).sameKey (klit f u)=true:=WideAt.sameKey_self (zex.key (zdY (by unfold maxLen;omega) hu))
 refine ⟨?_,?_,?_⟩
 ·rw [List.nodup_append]
  refine ⟨h1,by simp,fun a ha b hb=>?_⟩
  rintro rfl
  simp at hb
  subst hb
  have:=(h2 _ ha).2
  rw [hlk] at this
  cases this
 ·intro y hy
  rcases List.mem_append.1 hy with hy | hy
  ·exact ⟨(h2 y hy).1,by rw [(h2 y hy).2];rfl⟩
  ·simp at hy
   subst hy
   exact ⟨ht,by rw [hself];simp⟩
 ·intro y hy hq
  rw [Bool.and_eq_false_iff] at hq
  rcases hq with hq | hq
  ·exact List.mem_append_left _ (h3 y hy hq)
  ·obtain ⟨nt,hm,e1,e2⟩:=zeT.1 hy
   obtain ⟨_,_,a,b,c⟩:=hl nt hm
   have hs:(klit y.1 y.2).sameKey (klit f u)=true:=by simpa using hq
   rw [e1] at c
   rw [e2] at a b
   obtain ⟨k1,k2⟩:=zgz (by unfold maxLen;omega) ⟨a,b⟩ (by unfold maxLen;omega) hu (WideAt.sameKey_eq hs)
   exact List.mem_append_right _ (by simp;exact Prod.ext k1 k2)
theorem zrt (x m:Nat) (l:List Nt) (w:World) (h:Ix w x m l) (hlen:l.length<1000) :
  Calls Tryz.prog 71 #[.pointer (some ⟨x,0,none⟩)] w fun e w'=>∃b cap ks,e=.returned (.slice (some ⟨b,0,none⟩) ks.length cap)∧w.heap.size≤b∧b<w'.heap.size∧Below w.heap.size w w' ∧
   (∀j v,(zaC (ks.map (mkE l)))[j]?=some v→w'.cell? ⟨b,j,none⟩=some v)∧zea ks∧(∀y:KeyT,y∈ks ↔ told l y.1 y.2=true)∧(∀n D,w.ownsMap Tryz.prog 112 attR m n D→Maps.size D=ks.length)∧∃cs,Blk w' b 114 cs:=by
 obtain ⟨hx,⟨D,hD,h2,h3⟩,hl,hgm⟩:=h
 have hlt:=hx.lt
 have hlt2:=hD.lt
 have H2:=hid h2
 have H3:=hid h3
 have HL:=hid hl
 have HX:=hid hx
 have HD:=hid hD
 have HN:Hid (Maps.size D≤l.length):=hid hD.size_le
 obtain ⟨i0,z,hi,hz0,hz1,hz2,hz3⟩:∃i z,Tryz.prog.info? 114=some i∧i.zero=some z∧i.size=10∧i.bytes=88∧z.cells.size=10:=by
  obtain ⟨z,h1,h2⟩:=zok
  obtain ⟨i,a,b,c,d⟩:=info_parts h1
  exact ⟨i,z,a,b,c,d,h2⟩
 have HI:=hid (And.intro hi (And.intro hz0 (And.intro hz1 (And.intro hz2 hz3))))
 have hc:w.cell? ⟨x,0,none⟩=some (.map (some m)):=(HX.out.cell 0).trans rfl
 have HCt:=hid (zk2 x m _ D w hc hD)
 clear h2 h3 hl hx hD hgm hi hz0 hz1 hz2 hz3
 obtain ⟨N,hN⟩:∃N,Maps.size D=N:=⟨_,rfl⟩
 have HNe:=hid hN
 rw [hN] at HCt HN
 clear hN
 go_enter Tryz.func71,Tryz.ntmps71
 go_upto_region 2 with (first
  | (go_at_call 104;(with_reducible refine HCt.out.mono ?_);rintro e1 w0 ⟨rfl,rfl⟩)
  | (refine wpList_make_own w rfl (.const (.int .i64 0)) (.tmp 7) 106 rfl w.heap.size 114 i0 z 10 Tryz.underlying106 HI.out.1 HI.out.2.1 HI.out.2.2.1 .i64 .i64 (N:Int) N rfl rfl rfl (by rw [HI.out.2.2.2.1];have:=HN.out;omega) (by unfold maxLen;have:=HN.out;omega) (Nat.le_refl _) ?_;intro w1 hown hgr))
 have KD:Hid (w1.ownsMap Tryz.prog 112 attR m l.length D):=hid (HD.out.kept hgr (by simp))
 have KX:=hid (HX.out.grown hgr (by simp))
 have KB:=hid (Below.of_grown hgr)
 have hc1:w1.cell? ⟨x,0,none⟩=some (.map (some m)):=(KX.out.cell 0).trans rfl
 have RO:=hid hown
 have hbl:w.heap.size<w1.heap.size:=(hown.lt w.heap.size rfl).2
 clear hc hown hgr HCt
 obtain ⟨g,hk⟩:∃k,w.heap.size=k:=⟨_,rfl⟩
 rw [hk] at hlt hlt2 KB RO hbl
 rw [hk]
 have HK:=hid hk
 clear hk
 go_wp2_with (first
  | (at_range;with_reducible refine wpList_range_own _ rfl _ 176 rfl 112 64 zex Tryz.underlying176 attR m l.length D rfl KD.out ?_;intro w0 hrg0 hg0 hs0))
 go_frame
 obtain ⟨rr,hrr⟩:∃r,w1.heap.size=r:=⟨_,rfl⟩
 rw [hrr] at hrg0 hs0 hbl
 rw [hrr]
 have A0:Hid (zoC w w0 g g rr m l.length N D l [] (Maps.has D) (Maps.size D)):=hid ⟨hrg0,fun _ h=>h,RO.out.kept hg0 (Or.inr (by simp [Value.ownBlock])),KB.out.trans ((Below.of_grown hg0).mono (by omega)),List.nodup_nil,fun y hy=>by simp at hy,(fun y hy hl0=>by
   obtain ⟨nt,hm,e1,e2⟩:=zeT.1 hy
   obtain ⟨_,_,a,b,c⟩:=HL.out nt hm
   rw [←e1,←e2] at hl0 hy
   rw [(H2.out _ _ c a b).1,hy] at hl0
   exact absurd hl0 (by simp)),by rw [HNe.out];simp⟩
 clear hrg0 hg0 hs0 RO KB KX KD HX HD hc1 hrr
 go_loopw [3] (fun lv wr=>∃ks left cnt,lv=.slice (some ⟨g,0,none⟩) (List.length ks) N∧Hid (zoC w wr g g rr m l.length N D l ks left cnt)) (fun _ wr=>wr.rangeLeft m rr)
 case atStart=>exact ⟨[],_,_,rfl,A0⟩
 case round =>
  obtain ⟨ks,left,cnt,rfl,HA⟩:=hrel
  clear A0
  have HG:Hid (wr.ranges Tryz.prog 112 attR m rr l.length D left cnt):=hid HA.out.1
  go_wp2_with (first
   | (at_next;with_reducible refine wpList_next_ranges _ rfl _ rfl 112 zex attR (fun x:ByteArray × Int=>(keyV x.1 x.2:Value)) (fun c:Nat→Int=>(.agg #[.int .i64 (c 0),.int .i64 (c 1),.int .i64 (c 2),.int .i64 (c 3),.int .i64 (c 4),.int .i64 (c 5),.int .i64 (c 6),.int .i64 (c 7)]:Value)) zti ztA m rr l.length D left cnt rfl HG.out ?_ ?_))
  ·intro _ hl0
   have hks:∀y:KeyT,y∈ks ↔ told l y.1 y.2=true:=fun y=>⟨fun hy=>(HA.out.2.2.2.2.2.1 y hy).1,fun hy=>HA.out.2.2.2.2.2.2.1 y hy (hl0 _)⟩
   have HK2:=hid hks
   have HSz:Hid (∀n D,w.ownsMap Tryz.prog 112 attR m n D→Maps.size D=ks.length):=hid (fun n D' hD'=>by
    obtain ⟨es,clock,b1,b2,b3,b4⟩:=hD'
    have hb:=HG.out.owns
    obtain ⟨es2,clock2,c1,c2,c3,c4⟩:=hb
    have e:wr.heap[m]?=w.heap[m]?:=HA.out.2.2.2.1.block m (by omega)
    rw [e,b1] at c1
    injection c1 with c1
    injection c1 with c1 c5
    have hDD:D'=D:=by rw [b4,c4,c1]
    rw [hDD]
    exact zpA HG.out.owns HL.out H2.out H3.out HA.out.2.2.2.2.1 hks)
   have HS:=hid (zln (l:=l) HA.out.2.2.2.2.1 HA.out.2.2.1 (by have:=HA.out.2.2.2.2.2.2.2;have:=HN.out;omega))
   have HB:=hid HA.out.2.2.2.1
   clear hl0 hks HA HG
   go_wp2_with (first
    | (go_at_call 105;(with_reducible refine HS.out.mono ?_);rintro e1 w2 ⟨rfl,ds,s1,s2,s3,s4,s5,s6,s7⟩))
   go_ret
   exact ⟨g,N,ds,by rw [s1];rfl,by rw [HK.out];exact Nat.le_refl _,s6,by rw [HK.out];exact HB.out.trans s5,s4,s2,fun y=>(s3 y).trans (HK2.out y),fun n D hD=>by rw [HSz.out n D hD,s1],s7⟩
  ·intro f2 u2 c kl y yp w1 cnt1 hkey hlk hv hat hrg1 hlt1 hg1 hs1 hen
   obtain ⟨rfl,a1,a2,a3,a4⟩:=zrh (y:=(y,yp)) HL.out H2.out H3.out hkey (HA.out.2.1 _ hlk) hv hat
   have HCl:=hid (fun w=>zdQ f2 w (by omega))
   have HR:=hid (znq HL.out a1 a2 a3 hlk HA.out.2.2.2.2.1 HA.out.2.2.2.2.2.1 HA.out.2.2.2.2.2.2.1)
   have HE:Hid (ntC ⟨f2,u2,c⟩=ntC (mkE l (f2,u2))):=hid (ztj a4)
   have hcap:ks.length+1+cnt1≤N:=by have:=HA.out.2.2.2.2.2.2.2;omega
   have BG:=hid hrg1
   have BH:Hid (∀kl,(left kl && !kl.sameKey (klit f2 u2))=true→Maps.has D kl=true):=hid (fun kl h=>HA.out.2.1 kl (by simp at h;exact h.1))
   have BR:=hid (HA.out.2.2.1.kept hg1 (Or.inr (by simp [Value.ownBlock];omega)))
   have BB:Hid (Below g w w1):=hid (HA.out.2.2.2.1.trans (zci hg1 (by omega) (by have:=HG.out.lt;omega)))
   have BL:=hid hlt1
   have BT:Hid (wr.rangeLeft m rr=cnt):=hid HG.out.left_eq
   have BS:Hid (rr<w1.heap.size):=hid (by rw [hs1];exact HG.out.lt)
   clear hkey hlk hv hat hrg1 hlt1 hg1 hs1 a1 a2 a3 a4 HA HG
   go_upto_region 5 with fail
   obtain ⟨v,hv⟩:∃v,w1.heap.size=v:=⟨_,rfl⟩
   obtain ⟨W1,hW1⟩:∃W1,(w1.alloc (.cells #[.string f2,.int .u64 u2] 112)).alloc (.cells (#[.int .i64 (c 0),.int .i64 (c 1),.int .i64 (c 2),.int .i64 (c 3),.int .i64 (c 4),.int .i64 (c 5),.int .i64 (c 6),.int .i64 (c 7)]) 64)=W1:=⟨_,rfl⟩
   rw [hW1]
   obtain ⟨E6,E7,EB⟩:=zcE hW1
   rw [hv] at E6 E7 EB BS
   rw [hv]
   have HV:=hid hv
   have cG:=hid (BG.out.kept (zam (by rw [HV.out];exact EB.out) none) (by simp) (by simp))
   have cR:=hid (BR.out.kept (zam (by rw [HV.out];exact EB.out) none) (Or.inr (by simp [Value.ownBlock])))
   have cB:Hid (Below g w W1):=hid (BB.out.trans (EB.out.mono (by have:=BS.out;omega)))
   clear hv hW1 BB BG BR EB hen HV
   obtain ⟨⟨d0,d1⟩,z0,z1⟩:=zeY E6.out
   go_wp2_with fail
   with_reducible refine (HCl.out _).mono ?_
   rintro e1 w2 ⟨rfl,hb⟩
   have F6:=hid (E6.out.below hb E6.out.lt)
   have F7:=hid (E7.out.below hb E7.out.lt)
   have dG:=hid (cG.out.kept (zam hb none) (by simp) (by simp))
   have dR:=hid (cR.out.kept (zam hb none) (Or.inr (by simp [Value.ownBlock])))
   have dB:Hid (Below g w w2):=hid (cB.out.trans (hb.mono (by have:=BS.out;have:=E6.out.lt;omega)))
   clear hb cG cR cB E6 E7 d0 d1 z0 z1
   obtain ⟨⟨d0,d1⟩,z0,z1⟩:=zeY F6.out
   go_upto_region 6 with fail
   obtain ⟨W3,hW3⟩:∃W3,w2.setCell ⟨v,0,none⟩ (.string f2)=W3:=⟨_,rfl⟩
   rw [hW3]
   have G6:Hid (Blk W3 v 112 #[.string f2,.int .u64 u2]):=hid (by rw [←hW3];exact (F6.out.set_ 0 (.string f2)).as rfl)
   have hg3:w2.grownBy W3 (some v):=by rw [←hW3];exact ziS w2 ⟨v,0,none⟩ _
   have G7:=hid (F7.out.grown hg3 (by simp))
   have eG:=hid (dG.out.kept hg3 (by simp;have:=HL.out;have:=BS.out;have:=dG.out.owns.lt;omega) (by simp;have:=BS.out;omega))
   have eR:=hid (dR.out.kept hg3 (Or.inr (by simp [Value.ownBlock];have:=BS.out;omega)))
   have eB:Hid (Below g w W3):=hid (dB.out.trans (zci hg3 (by have:=BS.out;omega) (by have:=BS.out;have:=F6.out.lt;omega)))
   clear hg3 hW3 dG dR dB F6 F7 d0 d1 z0 z1
   obtain ⟨⟨d0,d1⟩,z0,z1⟩:=zeY G6.out
   obtain ⟨o0,o1,o2,o3,o4,o5,o6,o7⟩:=zka G7.out.eight
   have MN:=hid (n_of (T:=114) (Blk.new W3 114 (#[.string f2,.int .u64 u2,.int .i64 (c 0),.int .i64 (c 1),.int .i64 (c 2),.int .i64 (c 3),.int .i64 (c 4),.int .i64 (c 5),.int .i64 (c 6),.int .i64 (c 7)])))
   have M1:=hid (eR.out.alloc (.cells (#[.string f2,.int .u64 u2,.int .i64 (c 0),.int .i64 (c 1),.int .i64 (c 2),.int .i64 (c 3),.int .i64 (c 4),.int .i64 (c 5),.int .i64 (c 6),.int .i64 (c 7)]) 114))
   go_wp2_with (first
    | (at_builtin;refine wpList_append_fits _ rfl (.tmp 23) (.tmp 27) 106 rfl g 114 i0 10 Tryz.underlying106 HI.out.1 HI.out.2.2.1 g ks.length N (zaC (ks.map (mkE l))) rfl M1.out ⟨W3.heap.size,0,none⟩ 1 1 (ntC ⟨f2,u2,c⟩) rfl rfl MN.out (zdH _) (by omega) ?_;intro w4 hown4 hg4))
   have hgA:W3.grownBy w4 (some g):=((Below.refl _ W3).alloc (Nat.le_refl _) (.cells (#[.string f2,.int .u64 u2,.int .i64 (c 0),.int .i64 (c 1),.int .i64 (c 2),.int .i64 (c 3),.int .i64 (c 4),.int .i64 (c 5),.int .i64 (c 6),.int .i64 (c 7)]) 114) |> fun h=>zam h (some g)).trans hg4
   have fG:=hid (eG.out.kept hgA (by simp;omega) (by simp;omega))
   have fB:Hid (Below g w w4):=hid (eB.out.trans (zci hgA (Nat.le_refl _) (by have:=BS.out;have:=G6.out.lt;omega)))
   have fS:Hid (zoC w w4 g g rr m l.length N D l (ks ++ [((f2,u2):KeyT)]) (fun z=>left z && !z.sameKey (klit f2 u2)) cnt1):=hid ⟨fG.out,BH.out,by
    rw [List.length_append,List.map_append,List.map_cons,List.map_nil,zh4,←HE.out]
    exact hown4,fB.out,HR.out.1,HR.out.2.1,HR.out.2.2,by rw [List.length_append];simpa using hcap⟩
   clear hown4 hg4 hgA
   go_wp2
   go_roundw
   case rel=>exact ⟨_,_,_,by rw [List.length_append];rfl,fS⟩
   case measure=>rw [fG.out.left_eq,BT.out];exact BL.out
end Go.Proofs.YtnjdckoljmgcjaaGreatDoor
