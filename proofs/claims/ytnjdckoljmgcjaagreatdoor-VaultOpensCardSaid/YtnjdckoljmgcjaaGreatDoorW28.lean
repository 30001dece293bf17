/-
  The contracts of nextHead, picture, rim (package vault): the picture of a vault that knows nothing.
-/
import Derived.Test.YtnjdckoljmgcjaaGreatDoorW27
import Derived.Shelf.Spec.SlicesGrow
set_option maxRecDepth 100000
set_option maxHeartbeats 4000000
namespace Go.Proofs.YtnjdckoljmgcjaaGreatDoor
open Go.ChangeShapes Go.WideShapes Go.ChangeAt Go.RowKit Go.Maps Go.WideMaps
set_option linter.unusedVariables false
set_option linter.unusedSimpArgs false
theorem znT:(Tryz.prog.info? 66).map (fun i=>(i.zero,i.size,i.bytes))=some (some (.agg (rowJ zau)),22,184):=by kernel_rfl
theorem zcc {w w':World} {base n size:Nat} {E:TypeId} {v:Value} {xs:List Value} (h:w.ownsRow base E size v n xs) (hb:Below w.heap.size w w'):w'.ownsRow base E size v n xs:=by
 refine h.kept (zam hb none) ?_
 cases v.ownBlock with
 | none=>exact .inl rfl
 | some g=>exact .inr (by simp)
def rowI (y:IdT):Array Value:=#[.int .i64 y.1,.int .i64 y.2]
theorem zgL (y:IdT):(idC y).toArray=rowI y:=rfl
theorem zlU (y:IdT):(Tryz.prog.info? 55).map (·.size)=some (idC y).length:=by kernel_rfl
theorem zr6 (y:IdT):(Tryz.prog.info? 55).map (·.size)=some (rowI y).size:=by kernel_rfl
theorem zrN (y:IdT):(rowI y).all (·.oneCell')=true:=by simp [rowI,Value.oneCell']
theorem zt6 (y:IdT) (T:TypeId) (w:World):(storeCells ⟨w.heap.size,0,none⟩ (rowI y).toList).run Tryz.prog (w.alloc (.cells #[.int .i64 0,.int .i64 0] T))=.ok () ((w.alloc (.cells #[.int .i64 0,.int .i64 0] T)).setRow w.heap.size (rowI y)) :=
 zbL (Blk.new w T #[.int .i64 0,.int .i64 0]) (rowI y) rfl (zrN y)
theorem zlB (W:World) (x:J) (T:TypeId):∀j u,(jC x)[j]?=some u→(W.alloc (.cells (rowJ x) T)).cell? ((⟨W.heap.size,0,none⟩:Addr).add j)=some u:=by
 intro j u hj
 rw [Addr.add_mid,Nat.zero_add,(Blk.new W T _).cell j]
 exact (List.getElem?_toArray ..).trans hj
theorem ze1.turns {S:Nat→Prop} {w w':World} {A:Option Addr} {l:List IdT} (h:ze1 w A l) (t:zai S w w') (hS:∀b o,A=some ⟨b,o,none⟩→¬S b):ze1 w' A l:=fun j x hj=>by
 obtain ⟨b,o,h1,h2,h3⟩:=h j x hj
 exact ⟨b,o,h1,Nat.lt_of_lt_of_le h2 t.size,fun i v hv=>(World.cell?_of_block (w:=w) (by simpa using t.block b h2 (hS b o h1))).trans (h3 i v hv)⟩
theorem zcw.ofRow {w:World} {base:Nat} {T:TypeId} {v:Value} {xs:List J} (h:w.ownsRow base T 22 v xs.length (zaQ xs)):∃A c,v=.slice A xs.length c∧zcw w A xs:=by
 have hc:=h
 rcases h.2 with ⟨rfl,e⟩ | ⟨g,cap,cur,rfl,_⟩
 ·have hx:xs=[]:=List.eq_nil_of_length_eq_zero e
  subst hx
  exact ⟨none,0,rfl,zcw.nil _ _⟩
 ·refine ⟨_,cap,rfl,fun j x hj=>?_⟩
  obtain ⟨hj1,hj2⟩:=List.getElem?_eq_some_iff.1 hj
  refine ⟨g,0,rfl,(hc.lt g rfl).2,fun i u hu=>?_⟩
  have hi:i<22:=(List.getElem?_eq_some_iff.1 hu).1
  rw [Nat.zero_add,hc.cellAt (j * 22+i) (by omega),zd1 hj1 hi,hj2]
  exact hu
def LsAt (w:World) (n3:Nat) (l:List J) (ds:List IdT) (A:Option Addr) (base v g:Nat) (cur gen:Int) (m x mi:Nat) (nl:List Nt) (k:Nat) (u:Value) (wr:World):Prop :=
 VAt wr base v g cur gen m x mi l nl∧(v<w.heap.size∧m<w.heap.size∧x<w.heap.size∧mi<w.heap.size)∧ze1 wr A ds∧wr.ownsRow w.heap.size 66 22 u k (zaQ ((ds.take k).map (mkV l)))∧(∀b,u.ownBlock=some b→b=w.heap.size∨n3≤b)∧Below w.heap.size w wr∧n3≤wr.heap.size∧∀b o,A=some ⟨b,o,none⟩→w.heap.size<b∧b<n3
section
variable {w:World} {n3:Nat} {l:List J} {ds:List IdT} {A:Option Addr} {base v g:Nat} {cur gen:Int} {m x mi:Nat} {nl:List Nt} {k:Nat} {u:Value} {wr:World}
theorem LsAt.vat (h:LsAt w n3 l ds A base v g cur gen m x mi nl k u wr):VAt wr base v g cur gen m x mi l nl:=h.1
theorem LsAt.sees (h:LsAt w n3 l ds A base v g cur gen m x mi nl k u wr):ze1 wr A ds:=h.2.2.1
theorem LsAt.row (h:LsAt w n3 l ds A base v g cur gen m x mi nl k u wr):wr.ownsRow w.heap.size 66 22 u k (zaQ ((ds.take k).map (mkV l))):=h.2.2.2.1
theorem LsAt.below (h:LsAt w n3 l ds A base v g cur gen m x mi nl k u wr):Below w.heap.size w wr:=h.2.2.2.2.2.1
theorem LsAt.le (h:LsAt w n3 l ds A base v g cur gen m x mi nl k u wr):w.heap.size≤wr.heap.size:=h.below.size
theorem LsAt.on {w':World} (h:LsAt w n3 l ds A base v g cur gen m x mi nl k u wr) (hb:Below wr.heap.size wr w'):LsAt w n3 l ds A base v g cur gen m x mi nl k u w':=by
 obtain ⟨h1,h2,h3,h4,h5,h6,h7,h8⟩:=h
 exact ⟨h1.on hb,h2,h3.below hb,zcc h4 hb,h5,h6.trans (hb.mono h6.size),Nat.le_trans h7 hb.size,h8⟩
theorem LsAt.more {w':World} {u':Value} (h:LsAt w n3 l ds A base v g cur gen m x mi nl k u wr) (hk:k<ds.length) (hr:w'.ownsRow w.heap.size 66 22 u' (k+1) (zaQ ((ds.take k).map (mkV l)) ++ jC (mkV l ds[k])))
  (hg:wr.grownBy w' u.ownBlock) (hu:u'.ownBlock=u.ownBlock∨u'.ownBlock=some wr.heap.size):LsAt w n3 l ds A base v g cur gen m x mi nl (k+1) u' w':=by
 obtain ⟨h1,h2,h3,h4,h5,h6,h7,h8⟩:=h
 have t:zai (fun b=>u.ownBlock=some b) wr w':=zai.of_grown hg (fun b e=>e)
 have ge:∀b,u.ownBlock=some b→w.heap.size≤b:=fun b e=>(h4.lt b e).1
 refine ⟨h1.stay t ⟨fun e=>?_,fun e=>?_,fun e=>?_,fun e=>?_⟩,h2,h3.turns t (fun b o hb e=>?_),?_,fun b e=>?_,h6.grown hg h6.size ge,Nat.le_trans h7 t.size,h8⟩
 ·have:=ge _ e;omega
 ·have:=ge _ e;omega
 ·have:=ge _ e;omega
 ·have:=ge _ e;omega
 ·have a1:=h8 b o hb
  rcases h5 b e with e1 | e1 <;> omega
 ·rw [List.take_succ_eq_append_getElem hk,List.map_append,List.map_cons,List.map_nil,zeQ]
  exact hr
 ·rcases hu with e1 | e1
  ·exact h5 b (e1 ▸ e)
  ·rw [e1] at e
   injection e with e
   exact .inr (by omega)
end
def zup (l:List J) (w:World) (e:Ending) (w':World):Prop :=
 ∃A c ks,e=.returned (.slice A (ks.length:Nat) c)∧EntV l ks∧ks.length≤l.length∧zcw w' A (ks.map (mkV l))∧Below w.heap.size w w'
theorem zgP (base v g:Nat) (cur gen:Int) (m x mi:Nat) (l:List J) (nl:List Nt) (w:World) (h:VAt w base v g cur gen m x mi l nl) (hall:∀z∈l,zbv z) (hlen:l.length<900) :
  Calls Tryz.prog 17 #[.pointer (some ⟨v,0,none⟩)] w (zup l w):=by
 obtain ⟨D,hD,hD2⟩:=h.st
 obtain ⟨lo,hi,hb⟩:=h.blk
 have hN:Maps.size D≤l.length:=hD.size_le
 obtain ⟨N,hN2⟩:∃N,Maps.size D=N:=⟨_,rfl⟩
 rw [hN2] at hN
 have HNe:=hid hN2
 obtain ⟨i0,hi0,hz0,hz1,hz2⟩:=info_parts znT
 have HI:=hid (And.intro hi0 (And.intro hz0 (And.intro hz1 hz2)))
 have HV:=hid h
 have HD:=hid hD
 have c3:=(zbw hb).1.2.2.2.1
 have HAll:=hid hall
 have HIn:=hid (zeN hall)
 have HGet:=hid (fun (y:IdT) (w:World) (h:VAt w base v g cur gen m x mi l nl) (hr:zbl y.1) (hs:zbl y.2)=>(show Calls Tryz.prog 36 #[.pointer (some ⟨v,0,none⟩),.agg (rowI y)] w fun e w'=>e=.returned (.agg (rowJ (mkV l y)))∧Below w.heap.size w w' from zje base v g cur gen m x mi l nl y.1 y.2 w h hr hs hall))
 clear h hD hD2 hb hall hN2 hi0 hz0 hz1 hz2
 go_enter Tryz.func17,Tryz.ntmps17
 go_upto_region 2 with (first
  | (at_len;with_reducible refine wpList_len_own _ rfl _ 92 rfl 55 66 Tryz.underlying92 idR m l.length D rfl HD.out ?_;rw [HNe.out])
  | (refine wpList_make_own w rfl (.const (.int .i64 0)) (.tmp 10) 22 rfl w.heap.size 66 i0 (.agg (rowJ zau)) 22 Tryz.underlying22 HI.out.1 HI.out.2.1 HI.out.2.2.1 .i64 .i64 (N:Int) N rfl rfl rfl (by rw [HI.out.2.2.2];omega) (by unfold maxLen;omega) (Nat.le_refl _) ?_;intro w1 hown hgr))
 have V1:Hid (VAt w1 base v g cur gen m x mi l nl):=hid (HV.out.on (Below.of_grown hgr))
 have B1:=hid (Below.of_grown hgr)
 have R1:=hid hown
 have hs1:w.heap.size<w1.heap.size:=(hown.lt w.heap.size rfl).2
 clear hown hgr c3 HD
 obtain ⟨lo1,hi1,hb1⟩:=V1.out.blk
 have c3:=(zbw hb1).1.2.2.2.1
 clear hb1
 go_wp2_with (first
  | (go_at_call 44;(with_reducible refine (zoA m _).mono ?_);rintro e w2 ⟨rfl,hw2⟩;obtain ⟨K2,KB2⟩:=za1 hw2.symm;clear hw2;have V2:=hid (V1.out.on KB2.out))
  | (go_at_call 43;(with_reducible refine (zly m l.length l w1.heap.size _ K2.out.lt ((K2.out.cell 0).trans rfl) V2.out.st V2.out.ints (by omega)).mono ?_);rintro e w3 ⟨A,cA,ds,rfl,s1,s2,s3,s4,s5⟩;have S1:=hid s1;have S3:=hid s3;have S4:=hid s4;have B3:=hid (KB2.out.trans (s5.mono KB2.out.size));have V3:=hid (V2.out.on s5);have hs2:w1.heap.size<w2.heap.size:=K2.out.lt;clear s1 s3 s4 s5 K2 KB2 V2))
 obtain ⟨nd,hnd⟩:∃n,ds.length=n:=⟨_,rfl⟩
 have s2':nd≤l.length:=by rw [←hnd];exact s2
 have HND:=hid hnd
 have L0:Hid (LsAt w w3.heap.size l ds A base v g cur gen m x mi nl 0 (.slice (some ⟨w.heap.size,0,none⟩) 0 N) w3):=hid ⟨V3.out,HV.out.lts,S3.out,(zcc R1.out B3.out),(fun b e=>by injection e with e;exact .inl e.symm),B1.out.trans (B3.out.mono B1.out.size),Nat.le_refl _,fun b o e=>by have:=S4.out b o e;omega⟩
 rw [hnd]
 clear V1 V3 B1 B3 R1 S3 S4 hnd HV c3
 go_loopw [3,19] (fun u iv wr=>∃k:Nat,k≤nd∧iv=.int .i64 (k:Int)∧Hid (LsAt w w3.heap.size l ds A base v g cur gen m x mi nl k u wr)) (fun _ iv _=>nd - (intOf iv).toNat)
 case atStart=>exact ⟨0,Nat.zero_le _,rfl,L0⟩
 case round =>
  obtain ⟨k,hk,rfl,LA⟩:=hrel
  clear L0
  by_cases hlt:k<nd
  ·have hltd:k<ds.length:=by rw [HND.out];exact hlt
   have hltI:(k:Int)<(nd:Int):=by omega
   obtain ⟨b,o,rfl,hbl,hra⟩:=LA.out.sees k ds[k] (List.getElem?_eq_getElem hltd)
   have HRA:=hid hra
   have HIy:=hid (zk0 HIn.out ((S1.out.2 ds[k]).1 (List.getElem_mem hltd)))
   have HMo:=hid (fun (wr w':World) (u u':Value) (h:LsAt w w3.heap.size l ds (some ⟨b,o,none⟩) base v g cur gen m x mi nl k u wr) hr hg hu=>h.more (w':=w') (u':=u') hltd hr hg hu)
   clear hra
   obtain ⟨y,hy⟩:∃y,ds[k]=y:=⟨_,rfl⟩
   rw [hy] at HRA HIy HMo
   clear hy
   have LI:=hid (zlU y)
   have LR:=hid (zr6 y)
   have hst:=zt6 y 55 wr
   go_upto_region 5 with (first
    | (with_reducible refine wpList_load_mid (op:=⟨some 22,_,_,_,_,_⟩) rfl 55 (.tmp 21) rfl b (o+k * 2) rfl (idC y) _ HRA.out Tryz.underlying55 rfl LI.out ?_;rw [zgL]))
   clear hst
   obtain ⟨W,hW⟩:∃W,(wr.alloc (.cells #[.int .i64 0,.int .i64 0] 55)).setRow wr.heap.size (rowI y)=W:=⟨_,rfl⟩
   rw [hW]
   obtain ⟨K0,KB⟩:=zcS hW
   have A1:=hid (LA.out.on KB.out)
   clear hW LA HRA KB
   have HB:=hid (zip (mkV l y))
   go_wp2_with (first
    | (with_reducible refine wpList_load_row (o:=⟨some 25,_,_,_,_,_⟩) rfl 55 (.tmp 5) rfl wr.heap.size rfl 55 (rowI y) (0,0) _ K0.out.heap Tryz.underlying55 rfl LR.out ?_)
    | (go_at_call 36;(with_reducible refine (HGet.out y _ A1.out.vat HIy.out.1 HIy.out.2).mono ?_);rintro e w5 ⟨rfl,hb5⟩;have A2:=hid (A1.out.on hb5);clear hb5)
    | (with_reducible refine zbj (o:=⟨some 27,_,_,_,_,_⟩) rfl 22 66 (.tmp 26) rfl (rowJ (mkV l y)) rfl HB.out ?_;have A3:=hid (A2.out.on ((Below.refl _ _).alloc (Nat.le_refl _) (.cells (rowJ (mkV l y)) 66))))
    | (at_builtin;refine wpList_append_own_at _ rfl (.tmp 23) (.tmp 27) 22 rfl w.heap.size 66 i0 (.agg (rowJ zau)) 22 184 Tryz.underlying22 HI.out.1 HI.out.2.1 HI.out.2.2.1 HI.out.2.2.2 rfl (by decide) _ _ _ rfl A3.out.row ⟨w5.heap.size,0,none⟩ 1 1 (jC (mkV l y)) rfl rfl (zlB _ _ _) (zf5 _) (by unfold maxLen;omega) (by omega) (by have:=A2.out.le;simp;omega) ?_;intro u' w6 hown6 hg6 _ hu6))
   have A4:=hid (HMo.out _ _ _ u' A3.out hown6 hg6 hu6)
   clear A1 A2 A3 hown6 hg6 hu6 K0
   go_roundw
   case rel=>exact ⟨k+1,by omega,by go_num,A4⟩
   case measure=>simp only [intOf];omega
  ·have hke:k=nd:=by omega
   have hnI:¬(k:Int)<(nd:Int):=by omega
   have HE:Hid (wr.ownsRow w.heap.size 66 22 u3 (ds.map (mkV l)).length (zaQ (ds.map (mkV l)))):=hid (by
    have h:=LA.out.row
    rw [hke,←HND.out,List.take_length] at h
    rw [List.length_map]
    exact h)
   obtain ⟨A1,c1,rfl,hsee⟩:=zcw.ofRow HE.out
   have HS:=hid hsee
   have HB:=hid LA.out.below
   clear hsee LA HE
   go_wp2
   go_ret
   exact ⟨A1,c1,ds,rfl,S1.out,(by rw [HND.out];exact s2'),HS.out,HB.out⟩
theorem zbv.slot {x:J} (h:zbv x):0≤x.r∧x.r<7∧0≤x.s∧x.s<1024:=by
 obtain ⟨a,b,v,u,t,ha,hb,hv,hu,ht,ha7,hb10,_⟩:=zcG h.1 h.2.2
 omega
theorem zoq (ks:List IdT) (y:IdT) (r:Int):zaq (ks ++ [y]) r=if y.1=r then max (zaq ks r) (y.2+1) else zaq ks r:=by
 rw [zf0 (a:=ks ++ [y]) (b:=y :: ks) (fun z=>by simp [or_comm]) r]
 rfl
def SlAt (w wr:World) (rr m:Nat) (l:List J) (D:DataW Value) (ks:List IdT) (left:Lit→Bool) (cnt:Nat):Prop :=
 wr.ranges Tryz.prog 55 idR m rr l.length D left cnt∧(∀kl,left kl=true→Maps.has D kl=true)∧zft l left ks∧Below w.heap.size w wr∧w.heap.size≤rr
theorem zoi (base v g:Nat) (cur gen:Int) (m x mi:Nat) (l:List J) (nl:List Nt) (r:Int) (w:World) (h:VAt w base v g cur gen m x mi l nl) (hall:∀z∈l,zbv z) :
  Calls Tryz.prog 37 #[.pointer (some ⟨v,0,none⟩),.int .i64 r] w fun e w'=>(∃ks,zlD l ks∧e=.returned (.int .i64 (zaq ks r)))∧Below w.heap.size w w':=by
 obtain ⟨D,hD,h2,h3⟩:=h.st
 obtain ⟨lo,hi,hb⟩:=h.blk
 have c3:=(zbw hb).1.2.2.2.1
 have HD:=hid hD
 have H2:=hid h2
 have HL:=hid (zeN hall)
 have HSl:Hid (∀y:IdT,hasV l y.1 y.2=true→0≤y.2∧y.2<1024):=hid (fun y hy=>by
  obtain ⟨z,hz,h1,h2⟩:=zms.1 hy
  have:=(hall z hz).slot
  omega)
 clear h hD h2 h3 hb hall
 go_enter Tryz.func37,Tryz.ntmps37
 go_wp2_with (first
  | (at_range;with_reducible refine wpList_range_own _ rfl _ 92 rfl 55 66 zfD Tryz.underlying92 idR m l.length D rfl HD.out ?_;intro w0 hrg0 hg0 hs0))
 go_frame
 have A0:Hid (SlAt w w0 w.heap.size m l D [] (Maps.has D) (Maps.size D)):=hid ⟨hrg0,fun _ h=>h,zft.start HL.out (fun r s a b=>(H2.out r s a b).1),Below.of_grown hg0,Nat.le_refl _⟩
 obtain ⟨rr,hrr⟩:∃r,w.heap.size=r:=⟨_,rfl⟩
 rw [hrr] at A0 ⊢
 clear hrg0 hg0 hs0 c3 HD
 go_loopw [5] (fun lv wr=>∃ks left cnt,lv=.int .i64 (zaq ks r)∧Hid (SlAt w wr rr m l D ks left cnt)) (fun _ wr=>wr.rangeLeft m rr)
 case atStart=>exact ⟨[],_,_,rfl,A0⟩
 case round =>
  obtain ⟨ks,left,cnt,rfl,HA⟩:=hrel
  clear A0
  have HG:Hid (wr.ranges Tryz.prog 55 idR m rr l.length D left cnt):=hid HA.out.1
  go_wp2_with (first
   | (at_next;refine wpList_next_ranges _ rfl _ rfl 55 zfD idR (fun x:IdT=>(nm x.1 x.2:Value)) id zs0 zqT m rr l.length D left cnt rfl HG.out ?_ ?_))
  ·intro _ hl0
   have HF:=hid HA.out
   clear HA HG
   go_wp2
   go_ret
   exact ⟨⟨ks,⟨HF.out.2.2.1.1,fun y=>⟨fun hy=>(HF.out.2.2.1.2.1 y hy).1,fun hy=>HF.out.2.2.1.2.2 y hy (hl0 _)⟩⟩,rfl⟩,HF.out.2.2.2.1⟩
  ·intro r2 s2 c kl yd yp w2 cnt2 hkey hlk hv hat hrg2 hlt2 hg2 hs2 hen
   obtain ⟨r',s',ex,hr,hs,rfl⟩:=zeB hkey
   obtain ⟨rfl,rfl⟩:r2=r'∧s2=s':=by simpa [nm] using ex
   have hhas:=HA.out.2.1 _ hlk
   rw [(H2.out r2 s2 hr hs).1] at hhas
   have hs24:=HSl.out (r2,s2) hhas
   have hsl0:0≤s2∧s2<1024:=hs24
   have hbs:0≤zaq ks r∧zaq ks r≤1024:=by
    refine ⟨ziA.1,?_⟩
    rcases zjl (ks:=ks) (r:=r) with e | ⟨z,hz,_,e⟩
    ·omega
    ·have:=HSl.out z (HA.out.2.2.1.2.1 z hz).1
     omega
   have HC2:=hid (HA.out.2.2.1.step HL.out hr hs hhas hlk)
   have BH:Hid (∀kl,(left kl && !kl.sameKey (ilit r2 s2))=true→Maps.has D kl=true):=hid (fun kl h=>HA.out.2.1 kl (by simp at h;exact h.1))
   have BB:Hid (Below w.heap.size w w2):=hid (HA.out.2.2.2.1.trans (zci hg2 HA.out.2.2.2.2 HA.out.2.2.2.1.size))
   have BR:=hid hrg2
   have BL:=hid hlt2
   have BT:Hid (wr.rangeLeft m rr=cnt):=hid HG.out.left_eq
   have HRr:=hid HA.out.2.2.2.2
   have HSn:=hid (zoq ks (r2,s2) r)
   clear hkey hlk hv hat hrg2 hlt2 hg2 hs2 HA HG ex hhas hs24
   go_upto_region 5 with fail
   have CR:=hid (BR.out.kept (zam ((Below.refl w2.heap.size w2).alloc (Nat.le_refl _) (.cells #[.int .i64 r2,.int .i64 s2] 55)) none) (by simp) (by simp))
   have CB:Hid (Below w.heap.size w (w2.alloc (.cells #[.int .i64 r2,.int .i64 s2] 55))):=hid (BB.out.alloc BB.out.size _)
   clear hen BB BR
   have q1:IntKind.i64.wrap (s2+1)=s2+1:=IntWalk.i64_in _ (by omega)
   obtain ⟨W,hW⟩:∃W,w2.alloc (.cells #[.int .i64 r2,.int .i64 s2] 55)=W:=⟨_,rfl⟩
   rw [hW] at CR CB
   rw [hW]
   obtain ⟨K0,KB⟩:=za1 hW
   obtain ⟨q,hq⟩:∃q,w2.heap.size=q:=⟨_,rfl⟩
   rw [hq] at K0
   rw [hq]
   clear hW hq KB
   obtain ⟨⟨d0,d1⟩,z0,z1⟩:=zeY K0.out
   have RN:∀sl,zaq (ks ++ [(r2,s2)]) r=sl→Hid (∃ks left cnt,Value.int .i64 sl=Value.int .i64 (zaq ks r)∧Hid (SlAt w W rr m l D ks left cnt)):=fun sl e=>hid ⟨ks ++ [((r2,s2):IdT)],_,cnt2,by rw [e],hid ⟨CR.out,BH.out,HC2.out,CB.out,HRr.out⟩⟩
   have hms:W.rangeLeft m rr<wr.rangeLeft m rr:=by rw [CR.out.left_eq,BT.out];exact BL.out
   obtain ⟨sl,hsl⟩:∃sl,zaq ks r=sl:=⟨_,rfl⟩
   rw [hsl] at hbs HSn
   rw [hsl]
   by_cases he:r2=r
   ·have HE:Hid (zaq (ks ++ [(r2,s2)]) r=max sl (s2+1)):=hid (by rw [HSn.out];exact if_pos he)
    have RN2:=RN _ HE.out
    clear RN HE CR CB BT BL HC2 BH HSn hsl
    subst he
    rcases (show sl<s2+1∨¬sl<s2+1 by omega) with hm | hm
    ·have hmx:max sl (s2+1)=s2+1:=by omega
     rw [hmx] at RN2
     go_wp2
     go_roundw
     case rel=>exact RN2.out
     case measure=>exact hms
    ·have hmx:max sl (s2+1)=sl:=by omega
     rw [hmx] at RN2
     go_wp2
     go_roundw
     case rel=>exact RN2.out
     case measure=>exact hms
   ·have HE:Hid (zaq (ks ++ [(r2,s2)]) r=sl):=hid (by rw [HSn.out];exact if_neg he)
    have RN2:=RN _ HE.out
    clear RN HE CR CB BT BL HC2 BH HSn hsl
    go_wp2
    go_roundw
    case rel=>exact RN2.out
    case measure=>exact hms
theorem zgh (base v g:Nat) (cur gen:Int) (m x mi:Nat) (l:List J) (nl:List Nt) (w:World) (h:VAt w base v g cur gen m x mi l nl) (hlen:nl.length<1000) :
  Calls Tryz.prog 38 #[.pointer (some ⟨v,0,none⟩)] w fun e w'=>∃b cap ks,e=.returned (.slice (some ⟨b,0,none⟩) ks.length cap)∧w.heap.size≤b∧b<w'.heap.size∧Below w.heap.size w w' ∧
   (∀j v,(zaC (ks.map (mkE nl)))[j]?=some v→w'.cell? ⟨b,j,none⟩=some v)∧zea ks∧(∀y:KeyT,y∈ks ↔ told nl y.1 y.2=true)∧∃cs,Blk w' b 114 cs:=by
 obtain ⟨lo,hi,hb⟩:=h.blk
 have c4:=(zbw hb).1.2.2.2.2.1
 have HLi:=hid (zrt x mi nl w h.ix hlen)
 clear h hb
 go_enter Tryz.func38,Tryz.ntmps38
 go_wp2_with fail
 with_reducible refine HLi.out.mono ?_
 rintro e w1 ⟨b,cap,ks,rfl,h1,h2,h3,h4,h5,h6,h7,h8⟩
 have H:=hid (And.intro h1 (And.intro h2 (And.intro h3 (And.intro h4 (And.intro h5 (And.intro h6 h8))))))
 clear h1 h2 h3 h4 h5 h6 h7 h8 HLi c4
 go_wp2
 go_ret
 exact ⟨b,cap,ks,rfl,H.out⟩
end Go.Proofs.YtnjdckoljmgcjaaGreatDoor
namespace Go.Proofs.YtnjdckoljmgcjaaGreatDoor
open Go.ChangeShapes Go.WideShapes Go.ChangeAt Go.RowKit Go.Maps Go.WideMaps Go.Shelf
set_option linter.unusedVariables false
set_option linter.unusedSimpArgs false
def zmf:Go.Shelf.Ren:=⟨fun | 4=>130 | n=>n,fun | 0=>0 | 3=>3 | 4=>4 | 9=>9 | 20=>20 | 22=>89 | 25=>45 | n=>n,fun | n=>n⟩
theorem zqd:Lays8.n4 Tryz.prog zmf:={
 mixed:=by kernel_rfl
 f4:=⟨Tryz.f130.name,by decide,Tryz.func130.trans (congrArg some (by kernel_rfl))⟩
 t0:=Tryz.underlying0
 a0:=Tryz.isAgg0
 z0:=Tryz.sizeOf0
 v0:=Tryz.zeroValue0
 t3:=Tryz.underlying3
 a3:=Tryz.isAgg3
 z3:=Tryz.sizeOf3
 v3:=Tryz.zeroValue3
 t4:=Tryz.underlying4
 a4:=Tryz.isAgg4
 z4:=Tryz.sizeOf4
 v4:=Tryz.zeroValue4
 t9:=Tryz.underlying9
 a9:=Tryz.isAgg9
 z9:=Tryz.sizeOf9
 v9:=Tryz.zeroValue9
 t20:=Tryz.underlying20
 a20:=Tryz.isAgg20
 z20:=Tryz.sizeOf20
 v20:=Tryz.zeroValue20
 t22:=Tryz.underlying89
 a22:=Tryz.isAgg89
 z22:=Tryz.sizeOf89
 v22:=Tryz.zeroValue89 }
theorem zpn (w:World):Calls Tryz.prog 130 #[.slice none 0 0,.int .i64 2] w fun e w' =>
  ∃u,e=.returned u∧w'.ownsRow w.heap.size 45 1 u 0 []∧Below w.heap.size w w':=by
 obtain ⟨ir,hir,hr0,hr1,hr2⟩:=info_parts zgA
 have h:Calls Tryz.prog 130 #[.slice none 0 0,.int .i64 2] w _:=Any8.slices_Grow_grow (P:=Tryz.prog) (ρ:=zmf) zqd ir (.slice none 0 0) hir hr0 (by rw [hr1];decide) none 0 0 2 [] w (Nat.le_refl _) (by decide) (by rw [hr2];decide) (by decide) (by simp) (fun _=>rfl) (fun a e=>by cases e)
 refine h.mono fun e w' ⟨he,hw⟩=>?_
 refine ⟨_,he,?_,?_⟩
 ·rw [hw]
  refine ⟨rfl,.inr ⟨w.heap.size,_,_,rfl,Nat.le_refl _,(Blk.new w.drew 45 _).heap,Nat.zero_le _,grownCap_le_maxLen _ _ _ _ (by decide),?_,rfl⟩⟩
  have hge:=grownCap_ge w 2 0 45
  simp [Builtin.zeroCells]
  show 2 * 1+(grownCap w 2 0 45 - 2) * 1=grownCap w 2 0 45
  omega
 ·rw [hw]
  exact (zag (Below.refl _ w)).alloc (Nat.le_refl _) _
def cntC (k:Nat):Nat:=if k=0 then 0 else if k<4 then 1 else 2
def xsC (x1 x4:Value) (k:Nat):List Value:=if k=0 then [] else if k<4 then [x1] else [x1,x4]
def zqe (w:World) (p p1 p4:Nat) (A2:Option Addr) (c1 c2 c4:Nat) (x1 x4:Value):Prop :=
 Blk w p 89 #[.slice (some ⟨p1,0,none⟩) 1 c1,.slice A2 0 c2,.slice none 0 0,.slice (some ⟨p4,0,none⟩) 1 c4]∧p1<w.heap.size∧p4<w.heap.size∧w.cell? ⟨p1,0,none⟩=some x1∧w.cell? ⟨p4,0,none⟩=some x4∧(A2=none→c2=0)∧x1.oneCell'=true∧x4.oneCell'=true
theorem zqe.on {w w':World} {p p1 p4:Nat} {A2:Option Addr} {c1 c2 c4:Nat} {x1 x4:Value} (h:zqe w p p1 p4 A2 c1 c2 c4 x1 x4) (hb:Below w.heap.size w w'):zqe w' p p1 p4 A2 c1 c2 c4 x1 x4:=by
 obtain ⟨h1,h2,h3,h4,h5,h6,h7⟩:=h
 exact ⟨h1.below hb h1.lt,Nat.lt_of_lt_of_le h2 hb.size,Nat.lt_of_lt_of_le h3 hb.size,(hb.cell (p:=⟨p1,0,none⟩) h2).trans h4,(hb.cell (p:=⟨p4,0,none⟩) h3).trans h5,h6,h7⟩
def CcAt (w wr:World) (x1 x4:Value) (k:Nat) (u:Value):Prop:=wr.ownsRow w.heap.size 45 1 u (cntC k) (xsC x1 x4 k)∧Below w.heap.size w wr
theorem zs1 {w:World} {p:Nat} {x:Value} (h:w.cell? ⟨p,0,none⟩=some x):∀j u,[x][j]?=some u→w.cell? ((⟨p,0,none⟩:Addr).add j)=some u:=by
 intro j u hj
 match j,hj with
 | 0,hj=>simp at hj;subst hj;simpa [Addr.add] using h
theorem zoH {x:Value} (h:x.oneCell'=true):∀u∈[x],u.oneCell'=true:=by
 intro u hu;simp at hu;subst hu;exact h
theorem zlH (p p1 p4:Nat) (A2:Option Addr) (c1 c2 c4:Nat) (x1 x4:Value) (w:World) (h:zqe w p p1 p4 A2 c1 c2 c4 x1 x4) :
  Calls Tryz.prog 89 #[.slice (some ⟨p,0,none⟩) 4 4] w fun e w'=>∃u,e=.returned u∧w'.ownsRow w.heap.size 45 1 u 2 [x1,x4]∧Below w.heap.size w w':=by
 obtain ⟨ir,hir,hr0,hr1,hr2⟩:=info_parts zgA
 have HI:=hid (And.intro hir (And.intro hr0 (And.intro hr1 hr2)))
 have HF:=hid h
 clear h hir hr0 hr1 hr2
 have d0:w.cell? ⟨p,0,none⟩=some (.slice (some ⟨p1,0,none⟩) 1 c1):=(HF.out.1.cell 0).trans rfl
 have d1:w.cell? ⟨p,1,none⟩=some (.slice A2 0 c2):=(HF.out.1.cell 1).trans rfl
 have d2:w.cell? ⟨p,2,none⟩=some (.slice none 0 0):=(HF.out.1.cell 2).trans rfl
 have d3:w.cell? ⟨p,3,none⟩=some (.slice (some ⟨p4,0,none⟩) 1 c4):=(HF.out.1.cell 3).trans rfl
 go_enter Tryz.func89,Tryz.ntmps89
 go_wp2
 go_loopw [3,11] (fun sz iv wr=>∃k:Nat,k≤4∧iv=.int .i64 (k:Int)∧sz=.int .i64 (cntC k:Int)∧wr=w) (fun _ iv _=>4 - (intOf iv).toNat)
 case atStart=>exact ⟨0,by omega,rfl,rfl,rfl⟩
 case round =>
  obtain ⟨k,hk,rfl,rfl,rfl⟩:=hrel
  rcases (show k=0∨k=1∨k=2∨k=3∨k=4 by omega) with rfl | rfl | rfl | rfl | rfl
  ·rw [show ((cntC 0:Nat):Int)=0 from rfl]
   go_wp2
   go_roundw
   case rel=>exact ⟨1,by omega,rfl,rfl,trivial⟩
   case measure=>simp [intOf]
  ·rw [show ((cntC 1:Nat):Int)=1 from rfl]
   go_wp2
   go_roundw
   case rel=>exact ⟨2,by omega,rfl,rfl,trivial⟩
   case measure=>simp [intOf]
  ·rw [show ((cntC 2:Nat):Int)=1 from rfl]
   go_wp2
   go_roundw
   case rel=>exact ⟨3,by omega,rfl,rfl,trivial⟩
   case measure=>simp [intOf]
  ·rw [show ((cntC 3:Nat):Int)=1 from rfl]
   go_wp2
   go_roundw
   case rel=>exact ⟨4,by omega,rfl,rfl,trivial⟩
   case measure=>simp [intOf]
  ·obtain ⟨w0,rfl⟩:∃x,x=wr:=⟨_,rfl⟩
   have hcn:((cntC 4:Nat):Int)=2:=rfl
   rw [hcn]
   clear d0 d1 d2 d3
   go_wp2_with fail
   with_reducible refine (zpn _).mono ?_
   rintro e w1 ⟨u,rfl,hown,hb⟩
   have H0:Hid (CcAt w0 w1 x1 x4 0 u):=hid ⟨hown,hb⟩
   clear hown hb
   go_wp2
   go_loopw [6,27] (fun u iv wr=>∃k:Nat,k≤4∧iv=.int .i64 (k:Int)∧Hid (CcAt w0 wr x1 x4 k u)) (fun _ iv _=>4 - (intOf iv).toNat)
   case atStart=>exact ⟨0,by omega,rfl,H0⟩
   case round =>
    obtain ⟨k,hk,rfl,HC⟩:=hrel
    have HBw:=hid HC.out.2
    have H4:=hid (HF.out.on HBw.out)
    have d0:wr.cell? ⟨p,0,none⟩=some (.slice (some ⟨p1,0,none⟩) 1 c1):=(H4.out.1.cell 0).trans rfl
    have d1:wr.cell? ⟨p,1,none⟩=some (.slice A2 0 c2):=(H4.out.1.cell 1).trans rfl
    have d2:wr.cell? ⟨p,2,none⟩=some (.slice none 0 0):=(H4.out.1.cell 2).trans rfl
    have d3:wr.cell? ⟨p,3,none⟩=some (.slice (some ⟨p4,0,none⟩) 1 c4):=(H4.out.1.cell 3).trans rfl
    clear H0
    rcases (show k=0∨k=1∨k=2∨k=3∨k=4 by omega) with rfl | rfl | rfl | rfl | rfl
    ·rw [show ((0:Nat):Int)=0 from rfl]
     have HO:Hid (wr.ownsRow w0.heap.size 45 1 u6 0 []):=hid HC.out.1
     clear HC
     go_wp2_with (at_builtin;refine wpList_append_own _ rfl (.tmp 31) (.tmp 32) 89 rfl w0.heap.size 45 ir (.slice none 0 0) 1 24 Tryz.underlying89 HI.out.1 HI.out.2.1 HI.out.2.2.1 HI.out.2.2.2 rfl (by decide) _ _ _ rfl HO.out ⟨p1,0,none⟩ 1 c1 [x1] rfl rfl (zs1 H4.out.2.2.2.1) (zoH H4.out.2.2.2.2.2.2.1) (by unfold maxLen;decide) (by decide) HBw.out.size ?_;intro u' w6 hown6 hg6 _)
     go_roundw
     case rel=>exact ⟨1,by omega,rfl,hid ⟨hown6,HBw.out.grown hg6 HBw.out.size (fun b e=>(HO.out.lt b e).1)⟩⟩
     case measure=>simp [intOf]
    ·rw [show ((1:Nat):Int)=1 from rfl]
     have HO:Hid (wr.ownsRow w0.heap.size 45 1 u6 1 [x1]):=hid HC.out.1
     clear HC
     cases A2 with
     | none =>
      have hc0:c2=0:=H4.out.2.2.2.2.2.1 rfl
      subst hc0
      go_wp2_with (at_builtin;refine wpList_append_own_none rfl (.tmp 31) (.tmp 32) 89 rfl w0.heap.size 45 ir 1 Tryz.underlying89 HI.out.1 _ _ _ rfl HO.out rfl ?_)
      go_roundw
      case rel=>exact ⟨2,by omega,rfl,hid ⟨HO.out,HBw.out⟩⟩
      case measure=>simp [intOf]
     | some ad =>
      go_wp2_with (at_builtin;refine wpList_append_own _ rfl (.tmp 31) (.tmp 32) 89 rfl w0.heap.size 45 ir (.slice none 0 0) 1 24 Tryz.underlying89 HI.out.1 HI.out.2.1 HI.out.2.2.1 HI.out.2.2.2 rfl (by decide) _ _ _ rfl HO.out ad 0 c2 [] rfl rfl (by simp) (by simp) (by unfold maxLen;decide) (by decide) HBw.out.size ?_;intro u' w6 hown6 hg6 _)
      go_roundw
      case rel=>exact ⟨2,by omega,rfl,hid ⟨hown6,HBw.out.grown hg6 HBw.out.size (fun b e=>(HO.out.lt b e).1)⟩⟩
      case measure=>simp [intOf]
    ·rw [show ((2:Nat):Int)=2 from rfl]
     have HO:Hid (wr.ownsRow w0.heap.size 45 1 u6 1 [x1]):=hid HC.out.1
     clear HC
     go_wp2_with (at_builtin;refine wpList_append_own_none rfl (.tmp 31) (.tmp 32) 89 rfl w0.heap.size 45 ir 1 Tryz.underlying89 HI.out.1 _ _ _ rfl HO.out rfl ?_)
     go_roundw
     case rel=>exact ⟨3,by omega,rfl,hid ⟨HO.out,HBw.out⟩⟩
     case measure=>simp [intOf]
    ·rw [show ((3:Nat):Int)=3 from rfl]
     have HO:Hid (wr.ownsRow w0.heap.size 45 1 u6 1 [x1]):=hid HC.out.1
     clear HC
     go_wp2_with (at_builtin;refine wpList_append_own _ rfl (.tmp 31) (.tmp 32) 89 rfl w0.heap.size 45 ir (.slice none 0 0) 1 24 Tryz.underlying89 HI.out.1 HI.out.2.1 HI.out.2.2.1 HI.out.2.2.2 rfl (by decide) _ _ _ rfl HO.out ⟨p4,0,none⟩ 1 c4 [x4] rfl rfl (zs1 H4.out.2.2.2.2.1) (zoH H4.out.2.2.2.2.2.2.2) (by unfold maxLen;decide) (by decide) HBw.out.size ?_;intro u' w6 hown6 hg6 _)
     go_roundw
     case rel=>exact ⟨4,by omega,rfl,hid ⟨hown6,HBw.out.grown hg6 HBw.out.size (fun b e=>(HO.out.lt b e).1)⟩⟩
     case measure=>simp [intOf]
    ·rw [show ((4:Nat):Int)=4 from rfl]
     have HO:Hid (wr.ownsRow w0.heap.size 45 1 u6 2 [x1,x4]):=hid HC.out.1
     clear HC
     go_wp2
     go_ret
     exact ⟨u6,rfl,HO.out,HBw.out⟩
end Go.Proofs.YtnjdckoljmgcjaaGreatDoor
namespace Go.Proofs.YtnjdckoljmgcjaaGreatDoor
open Go.ChangeShapes Go.WideShapes Go.ChangeAt Go.RowKit Go.Maps Go.WideMaps
set_option linter.unusedVariables false
set_option linter.unusedSimpArgs false
theorem zby.seq {w w1 w2:World} {base g:Nat} {d2:Dk} {v v1:Nat→Value} {r2:Value} {e2:Ending} (t:zai (OwnD g v) w w1) (o:∀b,OwnD g v1 b→OwnD g v b∨w.heap.size≤b) (k:zby base g v1 d2 r2 w1 e2 w2):zby base g v d2 r2 w e2 w2:=by
 obtain ⟨v2,he,D2,T2,O2⟩:=k
 refine ⟨v2,he,D2,t.trans T2 (fun i hi h=>(o i h).resolve_right (Nat.not_le_of_lt hi)),fun b hb=>?_⟩
 rcases O2 b hb with h | h
 ·exact o b h
 ·exact .inr (Nat.le_trans t.size h)
theorem zaj.types {w:World} {base g:Nat} {d:Dk} {v:Nat→Value} (h:zaj w base g d v) {b:Nat} (hb:OwnD g v b):∃cs T fr,w.heap[b]?=some (.cells cs T fr)∧(T=71∨T=5):=by
 have row:∀k,k<2→(v k).ownBlock=some b→∃cs T fr,w.heap[b]?=some (.cells cs T fr)∧(T=71∨T=5):=fun k hk hv=>by
  rcases (h.row k hk).2 with ⟨e,_⟩ | ⟨g',cap,cur,e,_,hg,_⟩
  ·rw [e] at hv;cases hv
  ·rw [e] at hv
   have:g'=b:=by simpa [Value.ownBlock] using hv
   subst this
   exact ⟨_,_,_,hg,.inr rfl⟩
 rcases hb with rfl | hb | hb
 ·exact ⟨_,_,_,h.blk,.inl rfl⟩
 ·exact row 0 (by decide) hb
 ·exact row 1 (by decide) hb
theorem zaj.far {w:World} {base g:Nat} {d:Dk} {v:Nat→Value} (h:zaj w base g d v) {b:Nat} {cs:Array Value} {T:TypeId} {fr:Nat × Nat} (hb:w.heap[b]?=some (.cells cs T fr)) (h1:T≠71) (h2:T≠5):¬OwnD g v b:=fun ho=>by
 obtain ⟨cs',T',fr',e,hT⟩:=h.types ho
 rw [hb] at e
 injection e with e
 injection e with _ e _
 subst e
 exact hT.elim h1 h2
theorem zaj.farMap {w:World} {base g:Nat} {d:Dk} {v:Nat→Value} (h:zaj w base g d v) {b:Nat} {es:Array MapEntry} {clock:Nat} (hb:w.heap[b]?=some (.map es clock)):¬OwnD g v b:=fun ho=>by
 obtain ⟨cs',T',fr',e,hT⟩:=h.types ho
 rw [hb] at e
 cases e
theorem VAt.apartD {w:World} {base v g cg based:Nat} {cur gen:Int} {m x mi:Nat} {l:List J} {nl:List Nt} {d:Dk} {dv:Nat→Value} (h:VAt w base v g cur gen m x mi l nl) (D:zaj w based cg d dv) :
  ¬OwnD cg dv v∧¬OwnD cg dv m∧¬OwnD cg dv x∧¬OwnD cg dv mi:=by
 obtain ⟨lo,hi,hb⟩:=h.blk
 obtain ⟨es,clock,hm⟩:=h.st.isMap
 obtain ⟨D0,⟨es2,clock2,hm2,_⟩,_⟩:=h.ix.2.1
 exact ⟨D.far hb (by decide) (by decide),D.farMap hm,D.far h.ix.1 (by decide) (by decide),D.farMap hm2⟩
theorem VAt.beside {w w':World} {base v g cg based:Nat} {cur gen:Int} {m x mi:Nat} {l:List J} {nl:List Nt} {d:Dk} {dv:Nat→Value} (h:VAt w base v g cur gen m x mi l nl) (D:zaj w based cg d dv) (t:zai (OwnD cg dv) w w'):VAt w' base v g cur gen m x mi l nl :=
 h.stay t (h.apartD D)
theorem zaj.beside {w w':World} {base v g cg based:Nat} {cur gen:Int} {m x mi:Nat} {l:List J} {nl:List Nt} {d:Dk} {dv:Nat→Value} (D:zaj w based cg d dv) (h:VAt w base v g cur gen m x mi l nl) (t:zai (OwnV v m mi) w w'):zaj w' based cg d dv :=
 D.stay t (fun b hb hv=>by
  obtain ⟨a1,a2,a3,a4⟩:=h.apartD D
  rcases hv with rfl | rfl | rfl
  ·exact a1 hb
  ·exact a2 hb
  ·exact a4 hb)
def zef (d:Dk) (k:Nat) (b:List Nat):Dk:=ziG (putD d k b) k
theorem zjo {d:Dk} {k:Nat} (hk:k<2) (hd:d.dn=false) (ha:d.arm=false) {b:List Nat} (hb:(b.length:Int)≤zcV d):appD d (k:Int) b=(putD d k b,0):=by
 obtain ⟨q1,q2,q3,_⟩:=zhi ha b.length
 rw [zpQ hk hd,if_neg (by omega),q1,q2,q3,List.take_length]
theorem zqP {d:Dk} {k:Nat} (hk:k<2) (hd:d.dn=false) (ha:d.arm=false):ze3 d (k:Int)=(ziG d k,0):=by
 obtain ⟨q1,_,_,q4⟩:=zhi ha 1
 unfold ze3
 rw [if_pos (zi6 hk hd),q4,q1]
 simp
theorem zl6 (base g:Nat) (d:Dk) (v:Nat→Value) (k:Nat) (f:Int) (A:Option Addr) (b:List Nat) (n c:Nat) (w:World) (h:zaj w base g d v) (ho:d.Ok) (hk:k<2) (hf:f=k) (hd:d.dn=false) (ha:d.arm=false) (hn:b.length=n) (hle:(n:Int)≤zcV d) (hA0:A=none→c=0) (hc:n≤c) (hcm:c≤maxLen) (hA:zd6 (OwnD g v) w A b) :
  Calls Tryz.prog 30 #[.pointer (some ⟨g,0,none⟩),.int .i64 f,.slice A n c] w (zby base g v (zef d k b) (.int .i64 0) w):=by
 subst hf
 have hle':(b.length:Int)≤zcV d:=by rw [hn];exact hle
 have HA:=hid (zdZ base g d v (k:Int) A b n c w h ho hn hA0 hc hcm hA)
 rw [zjo hk hd ha hle'] at HA
 have ho2:(putD d k b).Ok:=ho.put hk hle'
 have HS:=hid (fun v1 w h=>zr0 base g (putD d k b) v1 (k:Int) w h ho2)
 rw [zqP (d:=putD d k b) hk hd ha] at HS
 clear h ho hn hA0 hA ho2 hle'
 go_enter Tryz.func30,Tryz.ntmps30
 go_wp2_with fail
 with_reducible refine HA.out.mono ?_
 rintro e w1 ⟨v1,rfl,D1,T1,O1⟩
 have HD1:=hid D1
 have HT1:=hid T1
 have HO1:=hid O1
 clear D1 T1 O1
 go_wp2_with fail
 with_reducible refine (HS.out v1 _ HD1.out).mono ?_
 intro e w2 h2
 have HR:Hid (zby base g v (zef d k b) (.int .i64 0) w e w2):=hid (zby.seq HT1.out HO1.out h2)
 obtain ⟨v2,rfl,_⟩:=h2
 clear HT1 HO1 HD1
 go_wp2
 go_ret
 exact HR.out
def zbX (d:Dk) (k n:Nat):Dk × Int:=if (d.l k).length≤n then (d,0) else zc7 d (k:Int) (n:Int)
theorem zrv {d:Dk} (h:d.Ok) (k n:Nat):(zbX d k n).1.Ok:=by
 unfold zbX
 split
 ·exact h
 ·exact zrj h _ _
theorem zgF (base g:Nat) (d:Dk) (v:Nat→Value) (k n:Nat) (f a:Int) (w:World) (h:zaj w base g d v) (ho:d.Ok) (hk:k<2) (hf:f=k) (ha:a=n) :
  Calls Tryz.prog 50 #[.pointer (some ⟨g,0,none⟩),.int .i64 f,.int .i64 a] w (zby base g v (zbX d k n).1 (.int .i64 (zbX d k n).2) w):=by
 subst hf
 subst ha
 have HD:=hid h
 have HRd:=hid (zgC base g d v k (k:Int) w h ho rfl hk)
 have HTr:=hid (fun w h=>zsR base g d v (k:Int) (n:Int) w h ho)
 obtain ⟨q,hq⟩:∃q,(d.l k).length=q:=⟨_,rfl⟩
 have HQ:=hid hq
 by_cases hle:q≤n
 ·have HE:Hid (zbX d k n=(d,0)):=hid (by unfold zbX;rw [hq,if_pos hle])
  have hlei:(q:Int)≤(n:Int):=by omega
  clear h ho hq
  go_enter Tryz.func50,Tryz.ntmps50
  go_wp2_with (first | (go_at_call 15;(with_reducible refine HRd.out.mono ?_);rintro e w1 ⟨s,rfl,hown,hb⟩;rw [HQ.out] at hown;obtain ⟨A,c,rfl⟩:=zcJ hown;have HB:=hid hb;clear hown hb))
  go_ret
  rw [HE.out]
  exact ⟨v,rfl,HD.out.on HB.out,zai.of_below HB.out,fun b hb=>.inl hb⟩
 ·have HE:Hid (zbX d k n=zc7 d (k:Int) (n:Int)):=hid (by unfold zbX;rw [hq,if_neg hle])
  have hlei:¬(q:Int)≤(n:Int):=by omega
  clear h ho hq
  go_enter Tryz.func50,Tryz.ntmps50
  go_wp2_with (first
   | (go_at_call 15;(with_reducible refine HRd.out.mono ?_);rintro e w1 ⟨s,rfl,hown,hb⟩;rw [HQ.out] at hown;obtain ⟨A,c,rfl⟩:=zcJ hown;have HB:=hid hb;clear hown hb)
   | (go_at_call 88;(with_reducible refine (HTr.out _ (HD.out.on HB.out)).mono ?_);intro e w2 h2;have HR:=hid (h2.on (zai.of_below HB.out));obtain ⟨v2,rfl,_⟩:=h2))
  go_ret
  rw [HE.out]
  exact HR.out
theorem zfo (base v g:Nat) (cur gen:Int) (n:Nat) (m x mi:Nat) (l:List J) (nl:List Nt) (w:World) (h:VAt w base v g cur gen m x mi l nl) (hgen:gen=(n:Int)) (hn:n<1000000) :
  Calls Tryz.prog 90 #[.pointer (some ⟨v,0,none⟩)] w (zcy ([1] ++ zae (n+1)) w):=by
 subst hgen
 obtain ⟨lo,hi,hb⟩:=h.blk
 have HB:Hid (Blk w.drew v 97 (vaC g cur (n:Int) m x lo hi)):=hid hb.drew
 have hvl:=hb.lt
 have HWr:Hid (IntKind.u64.wrap ((n:Int)+1)=(n:Int)+1):=hid (by unfold IntKind.wrap;simp [IntKind.bits,IntKind.signed];omega)
 have hs3:(zae (n+1)).length≤10:=by have:=zfM 2 (n+1) (by omega);omega
 have hgi:Hid ((n:Int)+1=((n+1:Nat):Int)):=hid (by push_cast;rfl)
 clear h hb
 go_enter Tryz.func90,Tryz.ntmps90
 go_upto_region 1 with fail
 refine wp_region_held_drew (S:=fun w'=>Blk w' v 97 (vaC g cur (n:Int) m x lo hi)) (by kernel_rfl) (by exact HB.out) (fun hHeld=>?_)
 refine ta 2 rfl hHeld ?_
 refine ta 3 rfl hHeld ?_
 refine ta 4 rfl hHeld ?_
 try simp only [Act.put,g1,g2,g3,g4,g5,g6]
 refine tl 5 ?_ rfl ?_ hHeld ?_
 rotate_left 1
 focus (intro w' hSw;(try dsimp only at hSw);(have q0:w'.cell? ⟨v,2,none⟩=some (.int .u64 (n:Int)):=(hSw.cell 2).trans rfl);go_simp;try with_reducible rfl)
 try simp only [Act.put,g1,g2,g3,g4,g5,g6]
 refine tl 6 ?_ rfl ?_ hHeld ?_
 rotate_left 1
 focus (intro w' hSw;(try dsimp only at hSw);(have q0:=HWr.out);go_simp;try with_reducible rfl)
 try simp only [Act.put,g1,g2,g3,g4,g5,g6]
 refine wpAnyH_ready (rs:=[0]) (by kernel_rfl) (by simp) ?_
 refine AllReadyH.cons (o:=_) rfl (fun K hK=>?_) AllReadyH.nil
 go_simp
 have HO:Hid (zaB ((w.alloc (.cells #[.slice none 0 0] 139)).drew) w.heap.size w.heap.size []):=hid (zoP w.drew)
 have HB0:Hid (Blk ((w.alloc (.cells #[.slice none 0 0] 139)).drew) v 97 (vaC g cur (n:Int) m x lo hi)):=hid (HB.out.alloc _)
 have HL0:Hid (Below w.heap.size w ((w.alloc (.cells #[.slice none 0 0] 139)).drew)):=hid ((zag (Below.refl _ w)).alloc (Nat.le_refl _) _)
 refine hK.out _ _ (by exact HB0.out) (fun hHeld=>?_)
 clear hK K
 try simp only [Act.put,g1,g2,g3,g4,g5,g6]
 refine wpAnyH_ready (rs:=[1]) (by kernel_rfl) (by simp) ?_
 refine AllReadyH.cons (o:=_) rfl (fun K hK=>?_) AllReadyH.nil
 go_simp
 go_at_call 56
 with_reducible refine (zaT w.heap.size w.heap.size [] 1 _ _ HO.out (by first | rfl | omega) (by simp)).mono ?_
 rintro en w1 ⟨⟨rfl,ho,hb1⟩,hs1⟩
 have HO1:Hid (zaB w1 w.heap.size w.heap.size ([] ++ [1])):=hid ho
 have HL1:=hid (HL0.out.trans hb1)
 have HB1:=hid (HB0.out.below hb1 hvl)
 clear ho hb1 hs1
 refine hK.out _ _ (by exact HB1.out) (fun hHeld=>?_)
 clear hK K
 try simp only [Act.put,g1,g2,g3,g4,g5,g6]
 refine wpAnyH_ready (rs:=[7]) (by kernel_rfl) (by simp) ?_
 refine AllReadyH.cons (o:=_) rfl (fun K hK=>?_) AllReadyH.nil
 go_simp
 go_at_call 131
 with_reducible refine (zaz w.heap.size w.heap.size ([] ++ [1]) (n+1) _ _ HO1.out hgi.out (by omega) (by simp)).mono ?_
 rintro en w2 ⟨⟨rfl,ho,hb1⟩,hs1⟩
 have HO2:=hid ho
 have HL2:=hid (HL1.out.trans hb1)
 have HB2:=hid (HB1.out.below hb1 hvl)
 clear ho hb1 hs1
 refine hK.out _ _ (by exact HB2.out) (fun hHeld=>?_)
 clear hK K
 try simp only [Act.put,g1,g2,g3,g4,g5,g6]
 refine wpAnyH_ready (rs:=[8]) (by kernel_rfl) (by simp) ?_
 refine AllReadyH.cons (o:=_) rfl (fun K hK=>?_) AllReadyH.nil
 go_simp
 go_at_call 57
 with_reducible refine (zf9 w.heap.size w.heap.size ([] ++ [1] ++ zae (n+1)) _ HO2.out (by simp;omega)).mono ?_
 rintro en w3 ⟨s,rfl,hown,hb3⟩
 have HM:Hid (zcy ([1] ++ zae (n+1)) w (.returned s) w3):=hid ⟨s,rfl,zjh hown HL2.out.size,HL2.out.trans (hb3.mono HL2.out.size)⟩
 have HB3:=hid (HB2.out.below hb3 HB2.out.lt)
 clear hown hb3
 refine hK.out _ _ (by exact HB3.out) (fun hHeld=>?_)
 clear hK K
 try simp only [Act.put,g1,g2,g3,g4,g5,g6]
 refine ta 9 rfl hHeld ?_
 try simp only [Act.put,g1,g2,g3,g4,g5,g6]
 refine wpAnyH_done (by kernel_rfl) ?_ _
 clear hHeld
 clear HB HB0 HB1 HB2 HB3 HO HO1 HO2 HL0 HL1 HL2
 go_wp2
 go_ret
 exact HM.out
theorem zk6 (A:Option Addr) (c:Nat) (w:World) :
  Calls Tryz.prog 91 #[.int .u8 3,.slice A 0 c] w fun e w'=>e=.returned (.slice none 0 0)∧w'=w:=by
 go_enter Tryz.func91,Tryz.ntmps91
 go_wp2
 go_loopw [5,11] (fun v iv wr=>v=.slice none 0 0∧iv=.int .i64 0∧wr=w) (fun _ _ _=>0)
 case atStart=>exact ⟨rfl,rfl,rfl⟩
 case round =>
  obtain ⟨rfl,rfl,rfl⟩:=hrel
  go_wp2
  go_ret
  exact ⟨rfl,rfl⟩
theorem zmc {ks:List IdT} (h:EntV [] ks):ks=[]:=h.ext EntV.nil
theorem zr9 (w:World) (x:Nat):Sees .u8 (w.alloc (.cells #[.int .u8 (x:Int)] 5)) (some ⟨w.heap.size,0,none⟩) [x]:=fun i y hi=>by
 match i,hi with
 | 0,hi =>
  simp at hi
  subst hi
  exact ⟨w.heap.size,0,rfl,by simp,((Blk.new w 5 _).cell 0).trans rfl⟩
def picN:List Nat:=zaf [[1,1],[4]]
theorem zp0:zae (0+1)=[1]:=zcQ (by decide)
theorem zpi:zae (1+1)=[2]:=zcQ (by decide)
theorem zdE:picN.length≤20:=by
 unfold picN
 rw [zbu,zbu,zdi,List.append_nil,List.length_append]
 have h1:=zdI (r:=[1,1]) (by decide)
 have h2:=zdI (r:=[4]) (by decide)
 simp at h1 h2
 omega
theorem zub (w:World) (p1:Nat) (A:Option Addr) (c:Nat) (B:Option Addr) (nB cB:Nat) (h:Blk w p1 45 #[.slice B nB cB]) (hA:A=none→c=0) :
  zqe (((w.alloc (.cells #[.int .u8 4] 5)).alloc (.cells #[.slice (some ⟨w.heap.size,0,none⟩) 1 1] 45)).alloc (.cells #[.slice (some ⟨p1,0,none⟩) 1 1,.slice A 0 c,.slice none 0 0,.slice (some ⟨w.heap.size+1,0,none⟩) 1 1] 89))
   (w.heap.size+1+1) p1 (w.heap.size+1) A 1 c 1 (.slice B nB cB) (.slice (some ⟨w.heap.size,0,none⟩) 1 1)∧Below w.heap.size w (((w.alloc (.cells #[.int .u8 4] 5)).alloc (.cells #[.slice (some ⟨w.heap.size,0,none⟩) 1 1] 45)).alloc (.cells #[.slice (some ⟨p1,0,none⟩) 1 1,.slice A 0 c,.slice none 0 0,.slice (some ⟨w.heap.size+1,0,none⟩) 1 1] 89)):=by
 have hl:=h.lt
 have h1:=((h.alloc (.cells #[.int .u8 4] 5)).alloc (.cells #[.slice (some ⟨w.heap.size,0,none⟩) 1 1] 45)).alloc (.cells #[.slice (some ⟨p1,0,none⟩) 1 1,.slice A 0 c,.slice none 0 0,.slice (some ⟨w.heap.size+1,0,none⟩) 1 1] 89)
 have h2:=(Blk.new (w.alloc (.cells #[.int .u8 4] 5)) 45 #[.slice (some ⟨w.heap.size,0,none⟩) 1 1]).alloc (.cells #[.slice (some ⟨p1,0,none⟩) 1 1,.slice A 0 c,.slice none 0 0,.slice (some ⟨w.heap.size+1,0,none⟩) 1 1] 89)
 have h3:=Blk.new ((w.alloc (.cells #[.int .u8 4] 5)).alloc (.cells #[.slice (some ⟨w.heap.size,0,none⟩) 1 1] 45)) 89 #[.slice (some ⟨p1,0,none⟩) 1 1,.slice A 0 c,.slice none 0 0,.slice (some ⟨w.heap.size+1,0,none⟩) 1 1]
 have e1:(w.alloc (.cells #[.int .u8 4] 5)).heap.size=w.heap.size+1:=by simp
 have e2:((w.alloc (.cells #[.int .u8 4] 5)).alloc (.cells #[.slice (some ⟨w.heap.size,0,none⟩) 1 1] 45)).heap.size=w.heap.size+1+1:=by simp
 rw [e1] at h2
 rw [e2] at h3
 refine ⟨⟨h3,h1.lt,h2.lt,(h1.cell 0).trans rfl,(h2.cell 0).trans rfl,hA,rfl,rfl⟩,(((Below.refl _ w).alloc (Nat.le_refl _) _).alloc (by simp) _).alloc (by simp;omega) _⟩
theorem zsp {w W w9:World} {B:Option Addr} {cB:Nat} {u:Value} (h1:B=none→cB=0) (h2:Sees .u8 w B [1,1]) (hown:w9.ownsRow W.heap.size 45 1 u 2 [.slice B 2 cB,.slice (some ⟨w.heap.size,0,none⟩) 1 1]) (hb9:Below W.heap.size W w9)
  {a b:Obj} (hW:((w.alloc (.cells #[.int .u8 4] 5)).alloc a).alloc b=W) :
  ∃A c,u=.slice A 2 c∧(A=none→c=0)∧2≤c∧zbg w9 A [[1,1],[4]]∧zcn w9 A 2:=by
 have hb1:Below w.heap.size w W:=by rw [←hW];exact (((Below.refl _ w).alloc (Nat.le_refl _) _).alloc (by simp) _).alloc (by simp;omega) _
 have hb0:Below (w.alloc (.cells #[.int .u8 4] 5)).heap.size (w.alloc (.cells #[.int .u8 4] 5)) W:=by rw [←hW];exact ((Below.refl _ _).alloc (Nat.le_refl _) _).alloc (by simp) _
 have s1:=(h2.below hb1).below hb9
 have s2:=((zr9 w 4).below hb0).below hb9
 have hWs:w.heap.size+3=W.heap.size:=by rw [←hW];simp
 have lt1:∀b o,B=some ⟨b,o,none⟩→b<W.heap.size:=fun b o e=>by
  obtain ⟨b',o',e',hb',_⟩:=h2 0 1 rfl
  rw [e] at e'
  injection e' with e'
  injection e' with e'
  omega
 have hrec:Recs w9 W.heap.size ([] ++ [.slice B ([1,1]:List Nat).length cB] ++ [.slice (some ⟨w.heap.size,0,none⟩) ([4]:List Nat).length 1]) ([] ++ [[1,1]] ++ [[4]]) :=
  ((Recs.nil w9 W.heap.size).snoc h1 s1 (fun b o e _=>.inl (lt1 b o e))).snoc (fun e=>by cases e) s2 (fun b o e _=>.inl (by injection e with e;injection e with e;omega))
 exact zhs hown hrec (by decide) (by decide)
theorem zkR (base v g:Nat) (cur:Int) (m x mi:Nat) (w:World) (h:zbZ w base v g cur 0 m x mi []) (hP:zad w) :
  Calls Tryz.prog 51 #[.pointer (some ⟨v,0,none⟩)] w (zcy picN w):=by
 have V0:=hid h
 have HP:=hid hP
 have HNx:=hid (fun w h=>zfo base v g cur 0 0 m x mi [] (zaP []) w h rfl (by decide))
 rw [zp0] at HNx
 have HLi:=hid (fun w h=>zgP base v g cur 0 m x mi [] (zaP []) w h (fun z hz=>by simp at hz) (by decide))
 have HEn:=hid (fun w h=>zgh base v g cur 0 m x mi [] (zaP []) w h (by decide))
 clear h hP
 go_enter Tryz.func51,Tryz.ntmps51
 go_wp2_with fail
 with_reducible refine (HNx.out _ V0.out).mono ?_
 rintro e w1 ⟨s,rfl,hown,hb⟩
 obtain ⟨B,cB,rfl,k1,k2,k3,_⟩:=zg5 rfl hown
 have HK1:=hid k1
 have HS1:Hid (Sees .u8 w1 B [1,1]):=hid k3
 have B1:=hid hb
 clear hown hb k1 k3
 have V1:=hid (V0.out.on B1.out)
 have P1:=hid (HP.out.below B1.out)
 clear V0 HP HNx
 go_upto_region 2 with (first
  | (go_at_call 17;obtain ⟨K1,KB1⟩:=za1 (w:=w1) (T:=45) (a:=#[.slice B 2 cB]) rfl;(with_reducible refine (HLi.out _ (V1.out.on KB1.out)).mono ?_);rintro e w2 ⟨A2,c2,ks,rfl,l1,_,l3,l4⟩;have hks:=zmc l1;subst hks;have B2:=hid (KB1.out.trans (l4.mono KB1.out.size));have L3:Hid (zcw w2 A2 []):=hid l3;have Q2:=hid (K1.out.below l4 K1.out.lt);clear l1 l3 l4 K1 KB1)
  | (go_at_call 27;(with_reducible refine (zej A2 [] 0 c2 _ rfl (by decide) L3.out (fun x hx=>by simp at hx) (P1.out.below B2.out)).mono ?_);rintro e w3 ⟨A3,c3,rfl,r1,r2,r3,r4,r5⟩;have R1:=hid r1;have B3:=hid (B2.out.trans (r5.mono B2.out.size));have Q3:=hid (Q2.out.below r5 Q2.out.lt);clear r1 r2 r3 r4 r5 Q2 B2)
  | (go_at_call 38;(with_reducible refine (HEn.out _ (V1.out.on B3.out)).mono ?_);rintro e w4 ⟨b4,cap4,ks4,rfl,e1,e2,e3,e4,e5,e6,e7⟩;have hk4:ks4=[]:=List.eq_nil_iff_forall_not_mem.2 (fun y hy=>by have:=(e6 y).1 hy;simp [told,zaP] at this);subst hk4;have B4:=hid (B3.out.trans (e3.mono B3.out.size));have Q4:=hid (Q3.out.below e3 Q3.out.lt);clear e1 e2 e3 e4 e5 e6 e7 Q3 B3)
  | (go_at_call 91;(with_reducible refine (zk6 (some ⟨b4,0,none⟩) cap4 _).mono ?_);rintro e w5 ⟨rfl,rfl⟩)
  | (go_at_call 89;have F4:=hid (zub w5 w1.heap.size A3 c3 B 2 cB Q4.out R1.out);(with_reducible refine (zlH (w5.heap.size+1+1) w1.heap.size (w5.heap.size+1) A3 1 c3 1 (.slice B 2 cB) (.slice (some ⟨w5.heap.size,0,none⟩) 1 1) _ F4.out.1).mono ?_);rintro e w9 ⟨u,rfl,hown9,hb9⟩;have HR:=hid (zsp HK1.out (HS1.out.below B4.out) hown9 hb9 rfl);have B9:=hid (B4.out.trans (F4.out.2.trans (hb9.mono F4.out.2.size) |>.mono B4.out.size));obtain ⟨A9,c9,hu,h1,h2,h3,h4⟩:=HR.out;subst hu;have HFr:Hid (Calls Tryz.prog 26 #[.slice A9 2 c9] w9 (zcy (zaf [[1,1],[4]]) w9)):=hid (ze6 A9 [[1,1],[4]] 2 c9 _ rfl (by decide) (by decide) (by have:=zdE;unfold picN at this;omega) h3 h4);clear h1 h2 h3 h4 hown9 hb9 HR F4)
  | (go_at_call 26;(with_reducible refine HFr.out.mono ?_);rintro e w10 ⟨s,rfl,hown,hb⟩;have HM:Hid (zcy picN w (.returned s) w10):=hid ⟨s,rfl,zjh hown (Nat.le_trans B1.out.size B9.out.size),B1.out.trans ((B9.out.trans (hb.mono B9.out.size)).mono B1.out.size)⟩;clear hown hb HFr))
 go_ret
 exact HM.out
theorem zsd (base v g:Nat) (cur:Int) (m x mi:Nat) (l:List J) (nl:List Nt) (w:World) (h:VAt w base v g cur 1 m x mi l nl) :
  Calls Tryz.prog 59 #[.pointer (some ⟨v,0,none⟩)] w fun e w'=>(∃k:Nat,k≤20∧e=.returned (.int .i64 (k:Int)))∧Below w.heap.size w w':=by
 have HNx:=hid (zfo base v g cur 1 1 m x mi l nl w h rfl (by decide))
 rw [zpi] at HNx
 have hf1:=zdI (r:=[1] ++ [2]) (by decide)
 have hf2:=zdI (r:=[4]) (by decide)
 simp at hf1 hf2
 obtain ⟨k1,hk1⟩:∃k,(zaK [1,2]).length=k:=⟨_,rfl⟩
 obtain ⟨k2,hk2⟩:∃k,(zaK [4]).length=k:=⟨_,rfl⟩
 rw [hk1] at hf1
 rw [hk2] at hf2
 have HK1:=hid hk1
 have HK2:=hid hk2
 clear h hk1 hk2
 go_enter Tryz.func59,Tryz.ntmps59
 go_wp2_with fail
 with_reducible refine HNx.out.mono ?_
 rintro e w1 ⟨s,rfl,hown,hb⟩
 obtain ⟨B,cB,rfl,_,_,_,_⟩:=zg5 rfl hown
 have B1:=hid hb
 clear hown hb HNx
 have q0:IntKind.i64.wrap ((k1:Int)+(k2:Int))=(k1:Int)+(k2:Int):=IntWalk.i64_in _ (by omega)
 go_wp2_with fail
 with_reducible refine (zju B [1,2] 2 cB _ rfl (by decide)).mono ?_
 rintro e w2 ⟨rfl,hb2⟩
 rw [HK1.out]
 have B2:=hid (B1.out.trans (hb2.mono B1.out.size))
 clear hb2
 go_wp2_with fail
 with_reducible refine (zju _ [4] 1 1 _ rfl (by decide)).mono ?_
 rintro e w3 ⟨rfl,hb3⟩
 rw [HK2.out]
 have B3:=hid ((B2.out.alloc B2.out.size _).trans (hb3.mono (by have:=B2.out.size;simp;omega)))
 clear hb3
 go_wp2
 go_ret
 exact ⟨⟨k1+k2,by omega,by push_cast;rfl⟩,B3.out⟩
end Go.Proofs.YtnjdckoljmgcjaaGreatDoor
