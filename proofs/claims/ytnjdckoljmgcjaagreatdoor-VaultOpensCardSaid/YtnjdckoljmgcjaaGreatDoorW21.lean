/-
  The plain arithmetic of package sum: no program in it. The sum's word as a natural number; a message as one number, its first byte the lowest.
-/
import Derived.Test.YtnjdckoljmgcjaaGreatDoorW20
set_option maxRecDepth 100000
set_option maxHeartbeats 4000000
namespace Go.Proofs.YtnjdckoljmgcjaaGreatDoor
open Go.ChangeShapes Go.WideShapes Go.ChangeAt Go.RowKit Go.Lib
set_option linter.unusedVariables false
set_option linter.unusedSimpArgs false
def TwoA (w0 w:World) (g k n:Nat) (cs:Array Value) (l:List Nat) (e:Nat):Prop :=
 InAt w g l e∧Blk w k 66 (rowJ zau)∧Blk w n 66 cs∧w0.grownBy w (some g)∧zad w∧0<g∧g<k∧k<n∧w0.heap.size≤k
section
variable {w0 w w':World} {g k n:Nat} {cs:Array Value} {l l':List Nat} {e e':Nat}
theorem TwoA.iat (h:TwoA w0 w g k n cs l e):InAt w g l e:=h.1
theorem TwoA.res (h:TwoA w0 w g k n cs l e):Blk w k 66 (rowJ zau):=h.2.1
theorem TwoA.box (h:TwoA w0 w g k n cs l e):Blk w n 66 cs:=h.2.2.1
theorem TwoA.grown (h:TwoA w0 w g k n cs l e):w0.grownBy w (some g):=h.2.2.2.1
theorem TwoA.parts (h:TwoA w0 w g k n cs l e):zad w:=h.2.2.2.2.1
theorem TwoA.on (h:TwoA w0 w g k n cs l e) (hb:Below w.heap.size w w'):TwoA w0 w' g k n cs l e :=
 ⟨h.1.keep (hb.mono h.1.lt),h.res.below hb h.res.lt,h.box.below hb h.box.lt,zb2 h.grown hb,h.parts.below hb,h.2.2.2.2.2⟩
theorem TwoA.turn (h:TwoA w0 w g k n cs l e) (hi:InAt w' g l' e') (hb:w.grownBy w' (some g)):TwoA w0 w' g k n cs l' e':=by
 obtain ⟨h1,h2,h3,h4,h5,h6,h7,h8,h9⟩:=h
 exact ⟨hi,h2.grown hb (by intro e;injection e with e;omega),h3.grown hb (by intro e;injection e with e;omega),h4.trans hb,zdW zcx h5 h5.lt (by intro e;injection e with e;omega) hb,h6,h7,h8,h9⟩
theorem TwoA.set_ (h:TwoA w0 w g k n cs l e) (i:Nat) (u:Value) {ds:Array Value} (hd:cs.setIfInBounds i u=ds):TwoA w0 (w.setCell ⟨n,i,none⟩ u) g k n ds l e:=by
 obtain ⟨h1,h2,h3,h4,h5,h6,h7,h8,h9⟩:=h
 exact ⟨h1.setCell (by omega),h2.far (by show k≠n;omega) u,hd ▸ h3.set_ i u,zaD (p:=⟨n,i,none⟩) h4 (.inr (by show w0.heap.size≤n;omega)) u,zdf zcx h5 (base:=n) (by omega) (Below.setCell (p:=⟨n,i,none⟩) (Below.refl _ _) (Nat.le_refl _) u),h6,h7,h8,h9⟩
theorem TwoA.last (h:TwoA w0 w g k n cs l e) (d:Array Value):InAt (w.setRow k d) g l e∧w0.grownBy (w.setRow k d) (some g):=by
 obtain ⟨h1,h2,h3,h4,h5,h6,h7,h8,h9⟩:=h
 exact ⟨h1.setRow h7,zcd h4 h9⟩
theorem TwoA.there (h:TwoA w0 w g k n cs l e) {o m:Nat} (hs:o+m≤cs.size):w.there n o m:=fun j hj=>by
 refine ⟨?_,h.box.frozen _⟩
 rw [h.box.cell,Array.getElem?_eq_getElem (by omega)]
 rfl
end
theorem TwoA.cmd {w0 w:World} {g k n:Nat} {x:J} {l:List Nat} {e:Nat} (h:TwoA w0 w g k n (rowJ x) l e) (c:K):TwoA w0 (w.setCells n 6 (lsK c)) g k n (rowJ ⟨x.r,x.s,x.st,x.bal,x.vote,x.same,c,x.f⟩) l e:=by
 obtain ⟨r,s,st,bal,vote,same,⟨k,u,f0,q,p,m,nn,t⟩,f⟩:=x
 obtain ⟨k',u',f',q',s',m',n',t'⟩:=c
 have b0:=h.set_ 6 (.int .i64 k') (ds:=rowJ ⟨r,s,st,bal,vote,same,⟨k',u,f0,q,p,m,nn,t⟩,f⟩) rfl
 have b1:=b0.set_ 7 (.int .u64 u') (ds:=rowJ ⟨r,s,st,bal,vote,same,⟨k',u',f0,q,p,m,nn,t⟩,f⟩) rfl
 have b2:=b1.set_ 8 (.string f') (ds:=rowJ ⟨r,s,st,bal,vote,same,⟨k',u',f',q,p,m,nn,t⟩,f⟩) rfl
 have b3:=b2.set_ 9 (.int .u64 q') (ds:=rowJ ⟨r,s,st,bal,vote,same,⟨k',u',f',q',p,m,nn,t⟩,f⟩) rfl
 have b4:=b3.set_ 10 (.string s') (ds:=rowJ ⟨r,s,st,bal,vote,same,⟨k',u',f',q',s',m,nn,t⟩,f⟩) rfl
 have b5:=b4.set_ 11 (.int .i64 m') (ds:=rowJ ⟨r,s,st,bal,vote,same,⟨k',u',f',q',s',m',nn,t⟩,f⟩) rfl
 have b6:=b5.set_ 12 (.int .u64 n') (ds:=rowJ ⟨r,s,st,bal,vote,same,⟨k',u',f',q',s',m',n',t⟩,f⟩) rfl
 have b7:=b6.set_ 13 (.int .i64 t') (ds:=rowJ ⟨r,s,st,bal,vote,same,⟨k',u',f',q',s',m',n',t'⟩,f⟩) rfl
 exact b7
theorem TwoA.att {w0 w:World} {g k n:Nat} {x:J} {l:List Nat} {e:Nat} (h:TwoA w0 w g k n (rowJ x) l e) (V:Nat→Int):TwoA w0 (w.setCells n 14 (ls8 V)) g k n (rowJ ⟨x.r,x.s,x.st,x.bal,x.vote,x.same,x.c,V⟩) l e:=by
 obtain ⟨r,s,st,bal,vote,same,c,f⟩:=x
 have b0:=h.set_ 14 (.int .i64 (V 0)) (ds:=rowJ ⟨r,s,st,bal,vote,same,c,(fun i=>if i<1 then V i else f i)⟩) rfl
 have b1:=b0.set_ 15 (.int .i64 (V 1)) (ds:=rowJ ⟨r,s,st,bal,vote,same,c,(fun i=>if i<2 then V i else f i)⟩) rfl
 have b2:=b1.set_ 16 (.int .i64 (V 2)) (ds:=rowJ ⟨r,s,st,bal,vote,same,c,(fun i=>if i<3 then V i else f i)⟩) rfl
 have b3:=b2.set_ 17 (.int .i64 (V 3)) (ds:=rowJ ⟨r,s,st,bal,vote,same,c,(fun i=>if i<4 then V i else f i)⟩) rfl
 have b4:=b3.set_ 18 (.int .i64 (V 4)) (ds:=rowJ ⟨r,s,st,bal,vote,same,c,(fun i=>if i<5 then V i else f i)⟩) rfl
 have b5:=b4.set_ 19 (.int .i64 (V 5)) (ds:=rowJ ⟨r,s,st,bal,vote,same,c,(fun i=>if i<6 then V i else f i)⟩) rfl
 have b6:=b5.set_ 20 (.int .i64 (V 6)) (ds:=rowJ ⟨r,s,st,bal,vote,same,c,(fun i=>if i<7 then V i else f i)⟩) rfl
 have b7:=b6.set_ 21 (.int .i64 (V 7)) (ds:=rowJ ⟨r,s,st,bal,vote,same,c,(fun i=>if i<8 then V i else f i)⟩) rfl
 exact b7
theorem TwoA.bal {w0 w:World} {g k n:Nat} {x:J} {l:List Nat} {e:Nat} (h:TwoA w0 w g k n (rowJ x) l e) (v:Int):TwoA w0 (w.setCell ⟨n,3,none⟩ (.int .u32 v)) g k n (rowJ ⟨x.r,x.s,x.st,v,x.vote,x.same,x.c,x.f⟩) l e:=h.set_ 3 (.int .u32 v) rfl
theorem TwoA.st {w0 w:World} {g k n:Nat} {x:J} {l:List Nat} {e:Nat} (h:TwoA w0 w g k n (rowJ x) l e) (v:Int):TwoA w0 (w.setCell ⟨n,2,none⟩ (.int .i64 v)) g k n (rowJ ⟨x.r,x.s,v,x.bal,x.vote,x.same,x.c,x.f⟩) l e:=h.set_ 2 (.int .i64 v) rfl
theorem TwoA.vote {w0 w:World} {g k n:Nat} {x:J} {l:List Nat} {e:Nat} (h:TwoA w0 w g k n (rowJ x) l e) (v:Int):TwoA w0 (w.setCell ⟨n,4,none⟩ (.int .u32 v)) g k n (rowJ ⟨x.r,x.s,x.st,x.bal,v,x.same,x.c,x.f⟩) l e:=h.set_ 4 (.int .u32 v) rfl
theorem TwoA.same {w0 w:World} {g k n:Nat} {x:J} {l:List Nat} {e:Nat} (h:TwoA w0 w g k n (rowJ x) l e) (v:Bool):TwoA w0 (w.setCell ⟨n,5,none⟩ (.bool v)) g k n (rowJ ⟨x.r,x.s,x.st,x.bal,x.vote,v,x.c,x.f⟩) l e:=h.set_ 5 (.bool v) rfl
theorem zp4 (g:Nat) (l:List Nat) (e:Nat) (l':List Nat) (e':Nat) (V:Nat→Int) (w:World) (h:InAt w g l e) (hS:zao l e) (hs:zgo l e=(l',e',V)) :
  Calls Tryz.prog 124 #[.pointer (some ⟨g,0,none⟩)] w (zbE (fun en=>en=.returned (.agg (ls8 V).toArray)) g l' e' w) :=
 znw g l e l' e' V w h hS.fine hS.bytes hS.len hs
theorem ziW (g:Nat) (l:List Nat) (e:Nat) (l1 l2 l3 l4 l8:List Nat) (e1 e2 e3 e4 e8 r s v b vt:Nat) (sm:Bool) (c:K) (V:Nat→Int) (w:World) (h:InAt w g l e) (hS:zao l e) (hP:zad w) (hg:0<g)
  (h1:zgn l e=(l1,e1,r,s)) (h2:zb6 l1 e1=(l2,e2,v)) (h3:zbc l2 e2=(l3,e3,b)) (h4:zjg b l3 e3=(l4,e4)) (h5:valE b l4 e4=(l8,e8,vt,sm,c,V)) (hb8:b<256) (hok:okJ ⟨((r:Nat):Int),((s:Nat):Int),((b:Nat):Int),((v:Nat):Int),((vt:Nat):Int),sm,c,V⟩) (hf:c.foot.size≤4611686018427387903) (hp:c.path.size≤4611686018427387903)
  (hS1:zao l1 e1) (hS2:zao l2 e2) (hS3:zao l3 e3) (hS4:zao l4 e4) (hbz:b=0) :
  Calls Tryz.prog 84 #[.pointer (some ⟨g,0,none⟩)] w (zbE (fun en=>en=.returned (.agg (rowJ (zeg (l8,e8,⟨((r:Nat):Int),((s:Nat):Int),((b:Nat):Int),((v:Nat):Int),((vt:Nat):Int),sm,c,V⟩)).2.2))) g (zeg (l8,e8,⟨((r:Nat):Int),((s:Nat):Int),((b:Nat):Int),((v:Nat):Int),((vt:Nat):Int),sm,c,V⟩)).1 (zeg (l8,e8,⟨((r:Nat):Int),((s:Nat):Int),((b:Nat):Int),((v:Nat):Int),((vt:Nat):Int),sm,c,V⟩)).2.1 w):=by
 have HBZ:=hid hbz
 clear hbz
 obtain ⟨rr,hr⟩:∃x,zbr ⟨((r:Nat):Int),((s:Nat):Int),((b:Nat):Int),((v:Nat):Int),((vt:Nat):Int),sm,c,V⟩=x:=⟨_,rfl⟩
 have HRR:=hid hr
 have HL:Hid (zeg (l8,e8,⟨((r:Nat):Int),((s:Nat):Int),((b:Nat):Int),((v:Nat):Int),((vt:Nat):Int),sm,c,V⟩)=if rr then (l8,e8,if e8=0 then ⟨((r:Nat):Int),((s:Nat):Int),((b:Nat):Int),((v:Nat):Int),((vt:Nat):Int),sm,c,V⟩ else zau) else (zbs e8 10 l8,zay e8 10,zau)):=hid (by unfold zeg;simp only;rw [hr])
 have HOK:=hid hok
 have HI:=hid h
 have HS:=hid hS
 have HS1:=hid hS1
 have HS2:=hid hS2
 have HS3:=hid hS3
 have HS4:=hid hS4
 have HP:=hid hP
 have H1:=hid h1
 have H2:=hid h2
 have H3:=hid h3
 have H4:=hid h4
 have H5:=hid h5
 have hgl:=h.lt
 have W1:IntKind.i64.wrap (b:Int)=b:=by rw [IntKind.wrap_i64];omega
 have Z1:=hid (zaE zau)
 have Z3:=hid (zaS zau)
 clear hr hok h hS hS1 hS2 hS3 hS4 hP h1 h2 h3 h4 h5
 go_enter Tryz.func84,Tryz.ntmps84
 go_upto_region 1 with fail
 obtain ⟨W,hW⟩:∃W,w.alloc (.cells zrow 66)=W:=⟨_,rfl⟩
 rw [hW]
 obtain ⟨K0,KB⟩:=za1 hW
 rw [zlp] at K0
 have HI0:=hid (HI.out.keep (KB.out.mono (by omega)))
 have P0:=hid (HP.out.below KB.out)
 have G0:=hid (zam KB.out (some g))
 clear hW KB HI HP
 obtain ⟨k,hk⟩:∃k,w.heap.size=k:=⟨_,rfl⟩
 have HK:=hid hk
 rw [hk] at K0 hgl
 rw [hk]
 clear hk
 go_wp2_with fail
 with_reducible refine (zil g l e l1 e1 r s _ HI0.out HS.out.fine HS.out.bytes HS.out.len H1.out).mono ?_
 rintro en w1 ⟨rfl,hin,hgr⟩
 have I1:=hid hin
 have R1:=hid (K0.out.grown hgr (by intro e;injection e with e;omega))
 have P1:Hid (zad w1):=hid (zdW zcx P0.out P0.out.lt (by intro e;injection e with e;omega) hgr)
 have G1:=hid (G0.out.trans hgr)
 clear hin hgr HI0 K0 P0 G0
 go_wp2_with fail
 with_reducible refine (ziQ (r:Int) (s:Int) _).mono ?_
 rintro en w2 ⟨rfl,hb⟩
 have I2:=hid (I1.out.keep (hb.mono I1.out.lt))
 have R2:=hid (R1.out.below hb R1.out.lt)
 have P2:=hid (P1.out.below hb)
 have G2:=hid (zb2 G1.out hb)
 clear hb I1 R1 P1 G1
 obtain ⟨n,hn⟩:∃n,w2.heap.size=n:=⟨_,rfl⟩
 have E0:Hid (Blk (w2.alloc (.cells zrow 66)) n 66 zrow):=hid (by rw [←hn];exact Blk.new w2 66 zrow)
 have A0:Hid (TwoA w ((w2.alloc (.cells zrow 66)).setRow n (rowJ (newJ r s))) g k n (rowJ (newJ r s)) l1 e1):=hid (by
  have hlt:=R2.out.lt
  have hI:=(I2.out.keep ((Below.refl _ _).alloc (by have:=I2.out.lt;omega) (.cells zrow 66))).setRow (r:=n) (cs:=rowJ (newJ r s)) (by omega)
  have hG:=zcd (r:=n) (cs:=rowJ (newJ r s)) (zb2 G2.out ((Below.refl _ _).alloc (Nat.le_refl _) (.cells zrow 66))) (by rw [HK.out];omega)
  exact ⟨hI,(R2.out.alloc _).rowFar (by omega) _,E0.out.row _,hG,zdf zcx (P2.out.alloc (.cells zrow 66)) (base:=n) (by omega) (zak (Below.refl _ _) (Nat.le_refl _)),hg,by omega,by omega,by rw [HK.out];exact Nat.le_refl _⟩)
 have N1:=hid (zaE (newJ r s))
 have N2:=hid (zaW zau (newJ r s))
 have N3:=hid (zaS (newJ r s))
 go_upto_region 2 with (refine wpList_store_row (o:=⟨none,_,_,_,_,_⟩) rfl 66 (.tmp 3) (.tmp 6) rfl n (rowJ (newJ r s)) rfl rfl 66 zrow E0.out.heap N1.out N2.out N3.out ?_)
 obtain ⟨W2,hW2⟩:∃W2,(w2.alloc (.cells zrow 66)).setRow n (rowJ (newJ r s))=W2:=⟨_,rfl⟩
 rw [hW2] at A0
 rw [hW2]
 clear hW2 hn E0 I2 R2 P2 G2 N1 N2 N3
 go_wp2_with fail
 with_reducible refine (zcF g l1 e1 l2 e2 v _ A0.out.iat HS1.out.fine HS1.out.bytes HS1.out.len H2.out).mono ?_
 rintro en w3 ⟨rfl,hin,hgr⟩
 have A1:=hid (A0.out.turn hin hgr)
 clear hin hgr A0
 have c3:=A1.out.box.j3
 have f3:=A1.out.box.frozen 3
 have A2:=hid (A1.out.bal (v:Int))
 clear A1
 go_wp2_with fail
 clear c3 f3
 with_reducible refine (zfq g l2 e2 l3 e3 b _ A2.out.iat HS2.out.fine H3.out).mono ?_
 rintro en w4 ⟨rfl,hin,hgr⟩
 have A3:=hid (A2.out.turn hin hgr)
 clear hin hgr A2
 have c2:=A3.out.box.j2
 have f2:=A3.out.box.frozen 2
 have A4:=hid (A3.out.st (b:Int))
 clear A3
 go_upto_region 4 with fail
 obtain ⟨W4,hW4⟩:∃W4,w4.setCell ⟨n,2,none⟩ (.int .i64 (b:Int))=W4:=⟨_,rfl⟩
 rw [hW4] at A4
 rw [hW4]
 clear hW4 c2 f2 W1
 have c2:=A4.out.box.j2
 have hstat:zhR (b:Int)=decide (b≤3):=by unfold zhR;rw [decide_eq_decide];omega
 have HST:=hid hstat
 clear hstat
 have H4':Hid ((if 3<b then (zbs e3 22 l3,zay e3 22) else (l3,e3))=(l4,e4)):=hid (by rw [←H4.out];rfl)
 go_wp2_with fail
 with_reducible refine (zdC (b:Int) _).mono ?_
 rw [HST.out]
 rintro en w5 ⟨rfl,rfl⟩
 have hbz:=HBZ.out
 subst hbz
 have hd:decide ((0:Nat)≤3)=true:=by decide
 rw [hd]
 obtain ⟨rfl,rfl⟩:l3=l4∧e3=e4:=by have:=H4'.out;rw [if_neg (by omega)] at this;simpa using this
 obtain ⟨rfl,rfl,rfl,rfl,rfl,rfl⟩:l3=l8∧e3=e8∧0=vt∧false=sm∧za8=c∧(fun _=>0)=V:=by have:=H5.out;unfold valE at this;simpa using this
 clear H4' H5 hd
 have HL:Hid (zeg (l3,e3,⟨((r:Nat):Int),((s:Nat):Int),((0:Nat):Int),((v:Nat):Int),((0:Nat):Int),false,za8,fun _=>0⟩)=if rr then (l3,e3,if e3=0 then ⟨((r:Nat):Int),((s:Nat):Int),0,((v:Nat):Int),0,false,za8,fun _=>0⟩ else zau) else (zbs e3 10 l3,zay e3 10,zau)):=HL
 have HRR:Hid (zbr ⟨((r:Nat):Int),((s:Nat):Int),0,((v:Nat):Int),0,false,za8,fun _=>0⟩=rr):=HRR
 have HOK:Hid (okJ ⟨((r:Nat):Int),((s:Nat):Int),0,((v:Nat):Int),0,false,za8,fun _=>0⟩):=HOK
 simp only [Int.natCast_zero] at A4 c2
 have AX:Hid (TwoA w W4 g k n (rowJ ⟨((r:Nat):Int),((s:Nat):Int),0,((v:Nat):Int),0,false,za8,fun _=>0⟩) l3 e3):=A4
 clear A4
 have L1:=hid (zaE ⟨((r:Nat):Int),((s:Nat):Int),0,((v:Nat):Int),0,false,za8,fun _=>0⟩)
 have L3:=hid (zaS ⟨((r:Nat):Int),((s:Nat):Int),0,((v:Nat):Int),0,false,za8,fun _=>0⟩)
 go_wp2_with (with_reducible refine wpList_load_row (o:=⟨some 35,_,_,_,_,_⟩) rfl 66 (.tmp 3) rfl n rfl 66 (rowJ ⟨((r:Nat):Int),((s:Nat):Int),0,((v:Nat):Int),0,false,za8,fun _=>0⟩) (0,0) _ AX.out.box.heap Tryz.underlying66 rfl L1.out ?_)
 with_reducible refine (zdR ⟨((r:Nat):Int),((s:Nat):Int),0,((v:Nat):Int),0,false,za8,fun _=>0⟩ HOK.out _ AX.out.parts hf hp).mono ?_
 rw [HRR.out]
 rintro en wr ⟨rfl,hb⟩
 have T1:=hid (AX.out.on hb)
 clear hb AX
 cases rr
 ·have hpos:0<zay e3 10:=zbF (by omega)
  go_wp2_with fail
  with_reducible refine (zbI g l3 e3 10 10 _ T1.out.iat rfl).mono ?_
  rintro en ws ⟨rfl,hin,hgr⟩
  have T2:=hid (T1.out.turn hin hgr)
  clear hin hgr T1
  go_wp2_with fail
  with_reducible refine (zaU g (zbs e3 10 l3) (zay e3 10) _ T2.out.iat hpos).mono ?_
  rintro en wt ⟨rfl,rfl⟩
  have T3:=hid (T2.out.last (rowJ zau))
  go_wp2_with (refine wpList_store_row (o:=⟨none,_,_,_,_,_⟩) rfl 66 (.tmp 2) (.tmp 42) rfl k (rowJ zau) (by rfl) ?hy 66 (rowJ zau) T2.out.res.heap Z1.out (zaW _ _) Z3.out ?_;(case hy=>rfl))
  exact bodyPost_ret (v:=.agg (rowJ zau)) (results_cell_row (p:=2) (ty:=66) (by kernel_rfl) _ _ k 66 (rowJ zau) (0,0) _ rfl (setRow_heap _ k _ (rowJ zau) _ _ T2.out.res.heap) Tryz.underlying66 rfl Z1.out) rfl ⟨by rw [HL.out];rfl,by rw [HL.out];exact T3.out.1,T3.out.2⟩
 ·by_cases h0:e3=0
  ·have H0:=hid h0
   clear h0
   go_wp2_with fail
   with_reducible refine (zez false g l3 e3 _ T1.out.iat (by rw [H0.out];simp)).mono ?_
   rintro en wt ⟨rfl,rfl⟩
   have T3:=hid (T1.out.last (rowJ ⟨((r:Nat):Int),((s:Nat):Int),0,((v:Nat):Int),0,false,za8,fun _=>0⟩))
   go_wp2_with (first
    | (with_reducible refine wpList_load_row (o:=⟨some 43,_,_,_,_,_⟩) rfl 66 (.tmp 3) rfl n rfl 66 (rowJ ⟨((r:Nat):Int),((s:Nat):Int),0,((v:Nat):Int),0,false,za8,fun _=>0⟩) (0,0) _ T1.out.box.heap Tryz.underlying66 rfl L1.out ?_)
    | (with_reducible refine wpList_store_row (o:=⟨none,_,_,_,_,_⟩) rfl 66 (.tmp 2) (.tmp 43) rfl k (rowJ ⟨((r:Nat):Int),((s:Nat):Int),0,((v:Nat):Int),0,false,za8,fun _=>0⟩) rfl rfl 66 (rowJ zau) T1.out.res.heap L1.out (zaW _ _) L3.out ?_))
   exact bodyPost_ret (v:=.agg (rowJ ⟨((r:Nat):Int),((s:Nat):Int),0,((v:Nat):Int),0,false,za8,fun _=>0⟩)) (results_cell_row (p:=2) (ty:=66) (by kernel_rfl) _ _ k 66 (rowJ ⟨((r:Nat):Int),((s:Nat):Int),0,((v:Nat):Int),0,false,za8,fun _=>0⟩) (0,0) _ rfl (setRow_heap _ k _ (rowJ ⟨((r:Nat):Int),((s:Nat):Int),0,((v:Nat):Int),0,false,za8,fun _=>0⟩) _ _ T1.out.res.heap) Tryz.underlying66 rfl L1.out) rfl ⟨by rw [HL.out];(first | rw [if_pos rfl,if_pos H0.out] | rw [if_pos rfl,if_neg H0.out] | rw [if_pos True.intro,if_pos H0.out] | rw [if_pos True.intro,if_neg H0.out]),by rw [HL.out];exact T3.out.1,T3.out.2⟩
  ·have hpos:0<e3:=by omega
   have H0:=hid h0
   clear h0
   go_wp2_with fail
   with_reducible refine (zaU g l3 e3 _ T1.out.iat hpos).mono ?_
   rintro en wt ⟨rfl,rfl⟩
   have T3:=hid (T1.out.last (rowJ zau))
   go_wp2_with (refine wpList_store_row (o:=⟨none,_,_,_,_,_⟩) rfl 66 (.tmp 2) (.tmp 42) rfl k (rowJ zau) (by rfl) ?hy 66 (rowJ zau) T1.out.res.heap Z1.out (zaW _ _) Z3.out ?_;(case hy=>rfl))
   exact bodyPost_ret (v:=.agg (rowJ zau)) (results_cell_row (p:=2) (ty:=66) (by kernel_rfl) _ _ k 66 (rowJ zau) (0,0) _ rfl (setRow_heap _ k _ (rowJ zau) _ _ T1.out.res.heap) Tryz.underlying66 rfl Z1.out) rfl ⟨by rw [HL.out];(first | rw [if_pos rfl,if_pos H0.out] | rw [if_pos rfl,if_neg H0.out] | rw [if_pos True.intro,if_pos H0.out] | rw [if_pos True.intro,if_neg H0.out]),by rw [HL.out];exact T3.out.1,T3.out.2⟩
theorem zjj (g:Nat) (l:List Nat) (e:Nat) (l1 l2 l3 l4 l8:List Nat) (e1 e2 e3 e4 e8 r s v b vt:Nat) (sm:Bool) (c:K) (V:Nat→Int) (w:World) (h:InAt w g l e) (hS:zao l e) (hP:zad w) (hg:0<g)
  (h1:zgn l e=(l1,e1,r,s)) (h2:zb6 l1 e1=(l2,e2,v)) (h3:zbc l2 e2=(l3,e3,b)) (h4:zjg b l3 e3=(l4,e4)) (h5:valE b l4 e4=(l8,e8,vt,sm,c,V)) (hb8:b<256) (hok:okJ ⟨((r:Nat):Int),((s:Nat):Int),((b:Nat):Int),((v:Nat):Int),((vt:Nat):Int),sm,c,V⟩) (hf:c.foot.size≤4611686018427387903) (hp:c.path.size≤4611686018427387903)
  (hS1:zao l1 e1) (hS2:zao l2 e2) (hS3:zao l3 e3) (hS4:zao l4 e4) (hbz:b≠0) :
  Calls Tryz.prog 84 #[.pointer (some ⟨g,0,none⟩)] w (zbE (fun en=>en=.returned (.agg (rowJ (zeg (l8,e8,⟨((r:Nat):Int),((s:Nat):Int),((b:Nat):Int),((v:Nat):Int),((vt:Nat):Int),sm,c,V⟩)).2.2))) g (zeg (l8,e8,⟨((r:Nat):Int),((s:Nat):Int),((b:Nat):Int),((v:Nat):Int),((vt:Nat):Int),sm,c,V⟩)).1 (zeg (l8,e8,⟨((r:Nat):Int),((s:Nat):Int),((b:Nat):Int),((v:Nat):Int),((vt:Nat):Int),sm,c,V⟩)).2.1 w):=by
 obtain ⟨rr,hr⟩:∃x,zbr ⟨((r:Nat):Int),((s:Nat):Int),((b:Nat):Int),((v:Nat):Int),((vt:Nat):Int),sm,c,V⟩=x:=⟨_,rfl⟩
 have HRR:=hid hr
 have HL:Hid (zeg (l8,e8,⟨((r:Nat):Int),((s:Nat):Int),((b:Nat):Int),((v:Nat):Int),((vt:Nat):Int),sm,c,V⟩)=if rr then (l8,e8,if e8=0 then ⟨((r:Nat):Int),((s:Nat):Int),((b:Nat):Int),((v:Nat):Int),((vt:Nat):Int),sm,c,V⟩ else zau) else (zbs e8 10 l8,zay e8 10,zau)):=hid (by unfold zeg;simp only;rw [hr])
 have HOK:=hid hok
 have HI:=hid h
 have HS:=hid hS
 have HS1:=hid hS1
 have HS2:=hid hS2
 have HS3:=hid hS3
 have HS4:=hid hS4
 have HP:=hid hP
 have H1:=hid h1
 have H2:=hid h2
 have H3:=hid h3
 have H4:=hid h4
 have H5:=hid h5
 have hgl:=h.lt
 have W1:IntKind.i64.wrap (b:Int)=b:=by rw [IntKind.wrap_i64];omega
 have Z1:=hid (zaE zau)
 have Z3:=hid (zaS zau)
 clear hr hok h hS hS1 hS2 hS3 hS4 hP h1 h2 h3 h4 h5
 go_enter Tryz.func84,Tryz.ntmps84
 go_upto_region 1 with fail
 obtain ⟨W,hW⟩:∃W,w.alloc (.cells zrow 66)=W:=⟨_,rfl⟩
 rw [hW]
 obtain ⟨K0,KB⟩:=za1 hW
 rw [zlp] at K0
 have HI0:=hid (HI.out.keep (KB.out.mono (by omega)))
 have P0:=hid (HP.out.below KB.out)
 have G0:=hid (zam KB.out (some g))
 clear hW KB HI HP
 obtain ⟨k,hk⟩:∃k,w.heap.size=k:=⟨_,rfl⟩
 have HK:=hid hk
 rw [hk] at K0 hgl
 rw [hk]
 clear hk
 go_wp2_with fail
 with_reducible refine (zil g l e l1 e1 r s _ HI0.out HS.out.fine HS.out.bytes HS.out.len H1.out).mono ?_
 rintro en w1 ⟨rfl,hin,hgr⟩
 have I1:=hid hin
 have R1:=hid (K0.out.grown hgr (by intro e;injection e with e;omega))
 have P1:Hid (zad w1):=hid (zdW zcx P0.out P0.out.lt (by intro e;injection e with e;omega) hgr)
 have G1:=hid (G0.out.trans hgr)
 clear hin hgr HI0 K0 P0 G0
 go_wp2_with fail
 with_reducible refine (ziQ (r:Int) (s:Int) _).mono ?_
 rintro en w2 ⟨rfl,hb⟩
 have I2:=hid (I1.out.keep (hb.mono I1.out.lt))
 have R2:=hid (R1.out.below hb R1.out.lt)
 have P2:=hid (P1.out.below hb)
 have G2:=hid (zb2 G1.out hb)
 clear hb I1 R1 P1 G1
 obtain ⟨n,hn⟩:∃n,w2.heap.size=n:=⟨_,rfl⟩
 have E0:Hid (Blk (w2.alloc (.cells zrow 66)) n 66 zrow):=hid (by rw [←hn];exact Blk.new w2 66 zrow)
 have A0:Hid (TwoA w ((w2.alloc (.cells zrow 66)).setRow n (rowJ (newJ r s))) g k n (rowJ (newJ r s)) l1 e1):=hid (by
  have hlt:=R2.out.lt
  have hI:=(I2.out.keep ((Below.refl _ _).alloc (by have:=I2.out.lt;omega) (.cells zrow 66))).setRow (r:=n) (cs:=rowJ (newJ r s)) (by omega)
  have hG:=zcd (r:=n) (cs:=rowJ (newJ r s)) (zb2 G2.out ((Below.refl _ _).alloc (Nat.le_refl _) (.cells zrow 66))) (by rw [HK.out];omega)
  exact ⟨hI,(R2.out.alloc _).rowFar (by omega) _,E0.out.row _,hG,zdf zcx (P2.out.alloc (.cells zrow 66)) (base:=n) (by omega) (zak (Below.refl _ _) (Nat.le_refl _)),hg,by omega,by omega,by rw [HK.out];exact Nat.le_refl _⟩)
 have N1:=hid (zaE (newJ r s))
 have N2:=hid (zaW zau (newJ r s))
 have N3:=hid (zaS (newJ r s))
 go_upto_region 2 with (refine wpList_store_row (o:=⟨none,_,_,_,_,_⟩) rfl 66 (.tmp 3) (.tmp 6) rfl n (rowJ (newJ r s)) rfl rfl 66 zrow E0.out.heap N1.out N2.out N3.out ?_)
 obtain ⟨W2,hW2⟩:∃W2,(w2.alloc (.cells zrow 66)).setRow n (rowJ (newJ r s))=W2:=⟨_,rfl⟩
 rw [hW2] at A0
 rw [hW2]
 clear hW2 hn E0 I2 R2 P2 G2 N1 N2 N3
 go_wp2_with fail
 with_reducible refine (zcF g l1 e1 l2 e2 v _ A0.out.iat HS1.out.fine HS1.out.bytes HS1.out.len H2.out).mono ?_
 rintro en w3 ⟨rfl,hin,hgr⟩
 have A1:=hid (A0.out.turn hin hgr)
 clear hin hgr A0
 have c3:=A1.out.box.j3
 have f3:=A1.out.box.frozen 3
 have A2:=hid (A1.out.bal (v:Int))
 clear A1
 go_wp2_with fail
 clear c3 f3
 with_reducible refine (zfq g l2 e2 l3 e3 b _ A2.out.iat HS2.out.fine H3.out).mono ?_
 rintro en w4 ⟨rfl,hin,hgr⟩
 have A3:=hid (A2.out.turn hin hgr)
 clear hin hgr A2
 have c2:=A3.out.box.j2
 have f2:=A3.out.box.frozen 2
 have A4:=hid (A3.out.st (b:Int))
 clear A3
 go_upto_region 4 with fail
 obtain ⟨W4,hW4⟩:∃W4,w4.setCell ⟨n,2,none⟩ (.int .i64 (b:Int))=W4:=⟨_,rfl⟩
 rw [hW4] at A4
 rw [hW4]
 clear hW4 c2 f2 W1
 have c2:=A4.out.box.j2
 have hstat:zhR (b:Int)=decide (b≤3):=by unfold zhR;rw [decide_eq_decide];omega
 have HST:=hid hstat
 clear hstat
 have H4':Hid ((if 3<b then (zbs e3 22 l3,zay e3 22) else (l3,e3))=(l4,e4)):=hid (by rw [←H4.out];rfl)
 go_wp2_with fail
 with_reducible refine (zdC (b:Int) _).mono ?_
 rw [HST.out]
 rintro en w5 ⟨rfl,rfl⟩
 have hb0:((b:Int) != 0)=true:=by rw [bne_iff_ne];omega
 obtain ⟨l5,e5,l6,e6,l7,e7,g5,g6,g7,g8⟩:=zkz hbz H5.out
 obtain ⟨s5,_,_⟩:=zd5 HS4.out g5
 have s6:=zf7 s5 g6
 obtain ⟨s7,_⟩:=zik s6 g7
 have S5:=hid s5
 have S6:=hid s6
 have S7:=hid s7
 have G5:=hid g5
 have G6:=hid g6
 have G7:=hid g7
 have G8:=hid g8
 clear s5 s6 s7 g5 g6 g7 g8 H5
 have key:∃W5:World,True:=⟨w,trivial⟩
 clear key
 by_cases hb3:3<b
 ·have hd:decide (b≤3)=false:=decide_eq_false (by omega)
  rw [hd]
  have hm:zbs e3 22 l3=l4∧zay e3 22=e4:=by have:=H4'.out;rw [if_pos hb3] at this;simpa using this
  have HM:=hid hm
  clear hm hd H4'
  go_wp2_with fail
  with_reducible refine (zbI g l3 e3 22 22 _ A4.out.iat rfl).mono ?_
  rw [HM.out.1,HM.out.2]
  rintro en w5 ⟨rfl,hin,hgr⟩
  have A5:=hid (A4.out.turn hin hgr)
  clear hin hgr A4 c2
  have c2:=A5.out.box.j2
  go_wp2_with fail
  clear c2
  with_reducible refine (zcF g l4 e4 l5 e5 vt _ A5.out.iat HS4.out.fine HS4.out.bytes HS4.out.len G5.out).mono ?_
  rintro en w6 ⟨rfl,hin,hgr⟩
  have A6:=hid (A5.out.turn hin hgr)
  clear hin hgr A5
  have c4:=A6.out.box.j4
  have f4:=A6.out.box.frozen 4
  have A7:=hid (A6.out.vote (vt:Int))
  clear A6
  go_wp2_with fail
  clear c4 f4
  with_reducible refine (zkM g l5 e5 l6 e6 sm _ A7.out.iat S5.out.fine S5.out.bytes G6.out).mono ?_
  rintro en w7 ⟨rfl,hin,hgr⟩
  have A8:=hid (A7.out.turn hin hgr)
  clear hin hgr A7
  have c5:=A8.out.box.j5
  have f5:=A8.out.box.frozen 5
  have A9:=hid (A8.out.same sm)
  clear A8
  go_wp2_with fail
  clear c5 f5
  with_reducible refine (zgj g l6 e6 l7 e7 c _ A9.out.iat S6.out A9.out.parts hg G7.out).mono ?_
  rintro en w8 ⟨rfl,hin,hgr⟩
  have B1:=hid (A9.out.turn hin hgr)
  clear hin hgr A9
  have B2:=hid (B1.out.cmd c)
  have T6:=hid (B1.out.there (o:=6) (m:=8) (by rw [zdX];decide))
  have I6:=hid (zcI c)
  have O6:=hid (zgt c)
  clear B1
  go_wp2_with (refine wpList_store_mid (op:=⟨none,_,_,_,_,_⟩) rfl 61 (.tmp 31) (.tmp 30) rfl n 6 (cellsOf c) rfl rfl T6.out I6.out O6.out ?_)
  with_reducible refine (zp4 g l7 e7 l8 e8 V _ B2.out.iat S7.out G8.out).mono ?_
  rintro en w9 ⟨rfl,hin,hgr⟩
  have B3:=hid (B2.out.turn hin hgr)
  clear hin hgr B2 T6 I6 O6
  have B4:=hid (B3.out.att V)
  have T14:=hid (B3.out.there (o:=14) (m:=8) (by rw [zdX];decide))
  have I14:=hid (zdn V)
  have O14:=hid (zdF V)
  clear B3
  go_upto_region 11 with (refine wpList_store_mid (op:=⟨none,_,_,_,_,_⟩) rfl 64 (.tmp 34) (.tmp 33) rfl n 14 (ls8 V).toArray rfl rfl T14.out I14.out O14.out ?_)
  obtain ⟨W9,hW9⟩:∃W9,w9.setCells n 14 (ls8 V).toArray.toList=W9:=⟨_,rfl⟩
  rw [hW9]
  have AX:Hid (TwoA w W9 g k n (rowJ ⟨((r:Nat):Int),((s:Nat):Int),((b:Nat):Int),((v:Nat):Int),((vt:Nat):Int),sm,c,V⟩) l8 e8):=hid (by rw [←hW9];exact B4.out)
  clear hW9 B4 T14 I14 O14
  have L1:=hid (zaE ⟨((r:Nat):Int),((s:Nat):Int),((b:Nat):Int),((v:Nat):Int),((vt:Nat):Int),sm,c,V⟩)
  have L3:=hid (zaS ⟨((r:Nat):Int),((s:Nat):Int),((b:Nat):Int),((v:Nat):Int),((vt:Nat):Int),sm,c,V⟩)
  go_wp2_with (with_reducible refine wpList_load_row (o:=⟨some 35,_,_,_,_,_⟩) rfl 66 (.tmp 3) rfl n rfl 66 (rowJ ⟨((r:Nat):Int),((s:Nat):Int),((b:Nat):Int),((v:Nat):Int),((vt:Nat):Int),sm,c,V⟩) (0,0) _ AX.out.box.heap Tryz.underlying66 rfl L1.out ?_)
  with_reducible refine (zdR ⟨((r:Nat):Int),((s:Nat):Int),((b:Nat):Int),((v:Nat):Int),((vt:Nat):Int),sm,c,V⟩ HOK.out _ AX.out.parts hf hp).mono ?_
  rw [HRR.out]
  rintro en wr ⟨rfl,hb⟩
  have T1:=hid (AX.out.on hb)
  clear hb AX
  cases rr
  ·have hpos:0<zay e8 10:=zbF (by omega)
   go_wp2_with fail
   with_reducible refine (zbI g l8 e8 10 10 _ T1.out.iat rfl).mono ?_
   rintro en ws ⟨rfl,hin,hgr⟩
   have T2:=hid (T1.out.turn hin hgr)
   clear hin hgr T1
   go_wp2_with fail
   with_reducible refine (zaU g (zbs e8 10 l8) (zay e8 10) _ T2.out.iat hpos).mono ?_
   rintro en wt ⟨rfl,rfl⟩
   have T3:=hid (T2.out.last (rowJ zau))
   go_wp2_with (refine wpList_store_row (o:=⟨none,_,_,_,_,_⟩) rfl 66 (.tmp 2) (.tmp 42) rfl k (rowJ zau) (by rfl) ?hy 66 (rowJ zau) T2.out.res.heap Z1.out (zaW _ _) Z3.out ?_;(case hy=>rfl))
   exact bodyPost_ret (v:=.agg (rowJ zau)) (results_cell_row (p:=2) (ty:=66) (by kernel_rfl) _ _ k 66 (rowJ zau) (0,0) _ rfl (setRow_heap _ k _ (rowJ zau) _ _ T2.out.res.heap) Tryz.underlying66 rfl Z1.out) rfl ⟨by rw [HL.out];rfl,by rw [HL.out];exact T3.out.1,T3.out.2⟩
  ·by_cases h0:e8=0
   ·have H0:=hid h0
    clear h0
    go_wp2_with fail
    with_reducible refine (zez false g l8 e8 _ T1.out.iat (by rw [H0.out];simp)).mono ?_
    rintro en wt ⟨rfl,rfl⟩
    have T3:=hid (T1.out.last (rowJ ⟨((r:Nat):Int),((s:Nat):Int),((b:Nat):Int),((v:Nat):Int),((vt:Nat):Int),sm,c,V⟩))
    go_wp2_with (first
     | (with_reducible refine wpList_load_row (o:=⟨some 43,_,_,_,_,_⟩) rfl 66 (.tmp 3) rfl n rfl 66 (rowJ ⟨((r:Nat):Int),((s:Nat):Int),((b:Nat):Int),((v:Nat):Int),((vt:Nat):Int),sm,c,V⟩) (0,0) _ T1.out.box.heap Tryz.underlying66 rfl L1.out ?_)
     | (with_reducible refine wpList_store_row (o:=⟨none,_,_,_,_,_⟩) rfl 66 (.tmp 2) (.tmp 43) rfl k (rowJ ⟨((r:Nat):Int),((s:Nat):Int),((b:Nat):Int),((v:Nat):Int),((vt:Nat):Int),sm,c,V⟩) rfl rfl 66 (rowJ zau) T1.out.res.heap L1.out (zaW _ _) L3.out ?_))
    exact bodyPost_ret (v:=.agg (rowJ ⟨((r:Nat):Int),((s:Nat):Int),((b:Nat):Int),((v:Nat):Int),((vt:Nat):Int),sm,c,V⟩)) (results_cell_row (p:=2) (ty:=66) (by kernel_rfl) _ _ k 66 (rowJ ⟨((r:Nat):Int),((s:Nat):Int),((b:Nat):Int),((v:Nat):Int),((vt:Nat):Int),sm,c,V⟩) (0,0) _ rfl (setRow_heap _ k _ (rowJ ⟨((r:Nat):Int),((s:Nat):Int),((b:Nat):Int),((v:Nat):Int),((vt:Nat):Int),sm,c,V⟩) _ _ T1.out.res.heap) Tryz.underlying66 rfl L1.out) rfl ⟨by rw [HL.out];(first | rw [if_pos rfl,if_pos H0.out] | rw [if_pos rfl,if_neg H0.out] | rw [if_pos True.intro,if_pos H0.out] | rw [if_pos True.intro,if_neg H0.out]),by rw [HL.out];exact T3.out.1,T3.out.2⟩
   ·have hpos:0<e8:=by omega
    have H0:=hid h0
    clear h0
    go_wp2_with fail
    with_reducible refine (zaU g l8 e8 _ T1.out.iat hpos).mono ?_
    rintro en wt ⟨rfl,rfl⟩
    have T3:=hid (T1.out.last (rowJ zau))
    go_wp2_with (refine wpList_store_row (o:=⟨none,_,_,_,_,_⟩) rfl 66 (.tmp 2) (.tmp 42) rfl k (rowJ zau) (by rfl) ?hy 66 (rowJ zau) T1.out.res.heap Z1.out (zaW _ _) Z3.out ?_;(case hy=>rfl))
    exact bodyPost_ret (v:=.agg (rowJ zau)) (results_cell_row (p:=2) (ty:=66) (by kernel_rfl) _ _ k 66 (rowJ zau) (0,0) _ rfl (setRow_heap _ k _ (rowJ zau) _ _ T1.out.res.heap) Tryz.underlying66 rfl Z1.out) rfl ⟨by rw [HL.out];(first | rw [if_pos rfl,if_pos H0.out] | rw [if_pos rfl,if_neg H0.out] | rw [if_pos True.intro,if_pos H0.out] | rw [if_pos True.intro,if_neg H0.out]),by rw [HL.out];exact T3.out.1,T3.out.2⟩
 ·have hd:decide (b≤3)=true:=decide_eq_true (by omega)
  rw [hd]
  obtain ⟨rfl,rfl⟩:l4=l3∧e4=e3:=by have:=H4'.out;rw [if_neg hb3] at this;simp at this;exact ⟨this.1.symm,this.2.symm⟩
  clear hd H4'
  have A5:=A4
  clear A4
  go_wp2_with fail
  clear c2
  with_reducible refine (zcF g l4 e4 l5 e5 vt _ A5.out.iat HS4.out.fine HS4.out.bytes HS4.out.len G5.out).mono ?_
  rintro en w6 ⟨rfl,hin,hgr⟩
  have A6:=hid (A5.out.turn hin hgr)
  clear hin hgr A5
  have c4:=A6.out.box.j4
  have f4:=A6.out.box.frozen 4
  have A7:=hid (A6.out.vote (vt:Int))
  clear A6
  go_wp2_with fail
  clear c4 f4
  with_reducible refine (zkM g l5 e5 l6 e6 sm _ A7.out.iat S5.out.fine S5.out.bytes G6.out).mono ?_
  rintro en w7 ⟨rfl,hin,hgr⟩
  have A8:=hid (A7.out.turn hin hgr)
  clear hin hgr A7
  have c5:=A8.out.box.j5
  have f5:=A8.out.box.frozen 5
  have A9:=hid (A8.out.same sm)
  clear A8
  go_wp2_with fail
  clear c5 f5
  with_reducible refine (zgj g l6 e6 l7 e7 c _ A9.out.iat S6.out A9.out.parts hg G7.out).mono ?_
  rintro en w8 ⟨rfl,hin,hgr⟩
  have B1:=hid (A9.out.turn hin hgr)
  clear hin hgr A9
  have B2:=hid (B1.out.cmd c)
  have T6:=hid (B1.out.there (o:=6) (m:=8) (by rw [zdX];decide))
  have I6:=hid (zcI c)
  have O6:=hid (zgt c)
  clear B1
  go_wp2_with (refine wpList_store_mid (op:=⟨none,_,_,_,_,_⟩) rfl 61 (.tmp 31) (.tmp 30) rfl n 6 (cellsOf c) rfl rfl T6.out I6.out O6.out ?_)
  with_reducible refine (zp4 g l7 e7 l8 e8 V _ B2.out.iat S7.out G8.out).mono ?_
  rintro en w9 ⟨rfl,hin,hgr⟩
  have B3:=hid (B2.out.turn hin hgr)
  clear hin hgr B2 T6 I6 O6
  have B4:=hid (B3.out.att V)
  have T14:=hid (B3.out.there (o:=14) (m:=8) (by rw [zdX];decide))
  have I14:=hid (zdn V)
  have O14:=hid (zdF V)
  clear B3
  go_upto_region 11 with (refine wpList_store_mid (op:=⟨none,_,_,_,_,_⟩) rfl 64 (.tmp 34) (.tmp 33) rfl n 14 (ls8 V).toArray rfl rfl T14.out I14.out O14.out ?_)
  obtain ⟨W9,hW9⟩:∃W9,w9.setCells n 14 (ls8 V).toArray.toList=W9:=⟨_,rfl⟩
  rw [hW9]
  have AX:Hid (TwoA w W9 g k n (rowJ ⟨((r:Nat):Int),((s:Nat):Int),((b:Nat):Int),((v:Nat):Int),((vt:Nat):Int),sm,c,V⟩) l8 e8):=hid (by rw [←hW9];exact B4.out)
  clear hW9 B4 T14 I14 O14
  have L1:=hid (zaE ⟨((r:Nat):Int),((s:Nat):Int),((b:Nat):Int),((v:Nat):Int),((vt:Nat):Int),sm,c,V⟩)
  have L3:=hid (zaS ⟨((r:Nat):Int),((s:Nat):Int),((b:Nat):Int),((v:Nat):Int),((vt:Nat):Int),sm,c,V⟩)
  go_wp2_with (with_reducible refine wpList_load_row (o:=⟨some 35,_,_,_,_,_⟩) rfl 66 (.tmp 3) rfl n rfl 66 (rowJ ⟨((r:Nat):Int),((s:Nat):Int),((b:Nat):Int),((v:Nat):Int),((vt:Nat):Int),sm,c,V⟩) (0,0) _ AX.out.box.heap Tryz.underlying66 rfl L1.out ?_)
  with_reducible refine (zdR ⟨((r:Nat):Int),((s:Nat):Int),((b:Nat):Int),((v:Nat):Int),((vt:Nat):Int),sm,c,V⟩ HOK.out _ AX.out.parts hf hp).mono ?_
  rw [HRR.out]
  rintro en wr ⟨rfl,hb⟩
  have T1:=hid (AX.out.on hb)
  clear hb AX
  cases rr
  ·have hpos:0<zay e8 10:=zbF (by omega)
   go_wp2_with fail
   with_reducible refine (zbI g l8 e8 10 10 _ T1.out.iat rfl).mono ?_
   rintro en ws ⟨rfl,hin,hgr⟩
   have T2:=hid (T1.out.turn hin hgr)
   clear hin hgr T1
   go_wp2_with fail
   with_reducible refine (zaU g (zbs e8 10 l8) (zay e8 10) _ T2.out.iat hpos).mono ?_
   rintro en wt ⟨rfl,rfl⟩
   have T3:=hid (T2.out.last (rowJ zau))
   go_wp2_with (refine wpList_store_row (o:=⟨none,_,_,_,_,_⟩) rfl 66 (.tmp 2) (.tmp 42) rfl k (rowJ zau) (by rfl) ?hy 66 (rowJ zau) T2.out.res.heap Z1.out (zaW _ _) Z3.out ?_;(case hy=>rfl))
   exact bodyPost_ret (v:=.agg (rowJ zau)) (results_cell_row (p:=2) (ty:=66) (by kernel_rfl) _ _ k 66 (rowJ zau) (0,0) _ rfl (setRow_heap _ k _ (rowJ zau) _ _ T2.out.res.heap) Tryz.underlying66 rfl Z1.out) rfl ⟨by rw [HL.out];rfl,by rw [HL.out];exact T3.out.1,T3.out.2⟩
  ·by_cases h0:e8=0
   ·have H0:=hid h0
    clear h0
    go_wp2_with fail
    with_reducible refine (zez false g l8 e8 _ T1.out.iat (by rw [H0.out];simp)).mono ?_
    rintro en wt ⟨rfl,rfl⟩
    have T3:=hid (T1.out.last (rowJ ⟨((r:Nat):Int),((s:Nat):Int),((b:Nat):Int),((v:Nat):Int),((vt:Nat):Int),sm,c,V⟩))
    go_wp2_with (first
     | (with_reducible refine wpList_load_row (o:=⟨some 43,_,_,_,_,_⟩) rfl 66 (.tmp 3) rfl n rfl 66 (rowJ ⟨((r:Nat):Int),((s:Nat):Int),((b:Nat):Int),((v:Nat):Int),((vt:Nat):Int),sm,c,V⟩) (0,0) _ T1.out.box.heap Tryz.underlying66 rfl L1.out ?_)
     | (with_reducible refine wpList_store_row (o:=⟨none,_,_,_,_,_⟩) rfl 66 (.tmp 2) (.tmp 43) rfl k (rowJ ⟨((r:Nat):Int),((s:Nat):Int),((b:Nat):Int),((v:Nat):Int),((vt:Nat):Int),sm,c,V⟩) rfl rfl 66 (rowJ zau) T1.out.res.heap L1.out (zaW _ _) L3.out ?_))
    exact bodyPost_ret (v:=.agg (rowJ ⟨((r:Nat):Int),((s:Nat):Int),((b:Nat):Int),((v:Nat):Int),((vt:Nat):Int),sm,c,V⟩)) (results_cell_row (p:=2) (ty:=66) (by kernel_rfl) _ _ k 66 (rowJ ⟨((r:Nat):Int),((s:Nat):Int),((b:Nat):Int),((v:Nat):Int),((vt:Nat):Int),sm,c,V⟩) (0,0) _ rfl (setRow_heap _ k _ (rowJ ⟨((r:Nat):Int),((s:Nat):Int),((b:Nat):Int),((v:Nat):Int),((vt:Nat):Int),sm,c,V⟩) _ _ T1.out.res.heap) Tryz.underlying66 rfl L1.out) rfl ⟨by rw [HL.out];(first | rw [if_pos rfl,if_pos H0.out] | rw [if_pos rfl,if_neg H0.out] | rw [if_pos True.intro,if_pos H0.out] | rw [if_pos True.intro,if_neg H0.out]),by rw [HL.out];exact T3.out.1,T3.out.2⟩
   ·have hpos:0<e8:=by omega
    have H0:=hid h0
    clear h0
    go_wp2_with fail
    with_reducible refine (zaU g l8 e8 _ T1.out.iat hpos).mono ?_
    rintro en wt ⟨rfl,rfl⟩
    have T3:=hid (T1.out.last (rowJ zau))
    go_wp2_with (refine wpList_store_row (o:=⟨none,_,_,_,_,_⟩) rfl 66 (.tmp 2) (.tmp 42) rfl k (rowJ zau) (by rfl) ?hy 66 (rowJ zau) T1.out.res.heap Z1.out (zaW _ _) Z3.out ?_;(case hy=>rfl))
    exact bodyPost_ret (v:=.agg (rowJ zau)) (results_cell_row (p:=2) (ty:=66) (by kernel_rfl) _ _ k 66 (rowJ zau) (0,0) _ rfl (setRow_heap _ k _ (rowJ zau) _ _ T1.out.res.heap) Tryz.underlying66 rfl Z1.out) rfl ⟨by rw [HL.out];(first | rw [if_pos rfl,if_pos H0.out] | rw [if_pos rfl,if_neg H0.out] | rw [if_pos True.intro,if_pos H0.out] | rw [if_pos True.intro,if_neg H0.out]),by rw [HL.out];exact T3.out.1,T3.out.2⟩
theorem zj1 (g:Nat) (l:List Nat) (e:Nat) (l':List Nat) (e':Nat) (x:J) (w:World) (h:InAt w g l e) (hS:zao l e) (hP:zad w) (hg:0<g) (hs:zsN l e=(l',e',x)) :
  Calls Tryz.prog 84 #[.pointer (some ⟨g,0,none⟩)] w (zbE (fun en=>en=.returned (.agg (rowJ x))) g l' e' w):=by
 obtain ⟨l1,e1,r,s,h1⟩:∃x y z w,zgn l e=(x,y,z,w):=⟨_,_,_,_,rfl⟩
 obtain ⟨l2,e2,v,h2⟩:∃x y z,zb6 l1 e1=(x,y,z):=⟨_,_,_,rfl⟩
 obtain ⟨l3,e3,b,h3⟩:∃x y z,zbc l2 e2=(x,y,z):=⟨_,_,_,rfl⟩
 obtain ⟨l4,e4,h4⟩:∃x y,zjg b l3 e3=(x,y):=⟨_,_,rfl⟩
 obtain ⟨l8,e8,vt,sm,c,V,h8⟩:∃a b' c d f g,valE b l4 e4=(a,b',c,d,f,g):=⟨_,_,_,_,_,_,rfl⟩
 obtain ⟨s1,_⟩:=zlG hS h1
 obtain ⟨s2,b2,_⟩:=zd5 s1 h2
 obtain ⟨s3,b3⟩:=zcg s2 h3
 obtain ⟨s4,_⟩:=zlZ s3 h4
 obtain ⟨s8,b8,ok8,f8,p8,_⟩:=zn7 s4 h8
 have hok:okJ ⟨((r:Nat):Int),((s:Nat):Int),((b:Nat):Int),((v:Nat):Int),((vt:Nat):Int),sm,c,V⟩:=⟨by simp only;omega,by simp only;omega⟩
 rw [ziI h1 h2 h3 h4 h8] at hs
 have hc:Calls Tryz.prog 84 #[.pointer (some ⟨g,0,none⟩)] w (zbE (fun en=>en=.returned (.agg (rowJ (zeg (l8,e8,⟨((r:Nat):Int),((s:Nat):Int),((b:Nat):Int),((v:Nat):Int),((vt:Nat):Int),sm,c,V⟩)).2.2))) g (zeg (l8,e8,⟨((r:Nat):Int),((s:Nat):Int),((b:Nat):Int),((v:Nat):Int),((vt:Nat):Int),sm,c,V⟩)).1 (zeg (l8,e8,⟨((r:Nat):Int),((s:Nat):Int),((b:Nat):Int),((v:Nat):Int),((vt:Nat):Int),sm,c,V⟩)).2.1 w):=by
  by_cases hb:b=0
  ·exact ziW g l e l1 l2 l3 l4 l8 e1 e2 e3 e4 e8 r s v b vt sm c V w h hS hP hg h1 h2 h3 h4 h8 b3 hok (by omega) (by omega) s1 s2 s3 s4 hb
  ·exact zjj g l e l1 l2 l3 l4 l8 e1 e2 e3 e4 e8 r s v b vt sm c V w h hS hP hg h1 h2 h3 h4 h8 b3 hok (by omega) (by omega) s1 s2 s3 s4 hb
 rw [hs] at hc
 exact hc
theorem zi4 (base g:Nat) (l:List Nat) (t:Bool) (w:World) (h:zaB w base g l) (hlen:l.length+1≤140737488355328) :
  Calls Tryz.prog 242 #[.pointer (some ⟨g,0,none⟩),.bool t] w (zn3 base g (l ++ [zcv t]) w):=by
 have HO:=hid (h.alloc (.cells #[.int .u8 (zcv t:Int)] 5))
 have hB:=h.base_le
 clear h
 cases t with
 | true =>
  go_enter Tryz.func242,Tryz.ntmps242
  go_wp2_with fail
  refine (zfJ base g (some ⟨w.heap.size,0,none⟩) l [zcv true] (l ++ [zcv true]) 1 1 _ rfl HO.out rfl (fun h=>nomatch h) (ziZ _) hlen).mono ?_
  rintro en w1 ⟨⟨rfl,ho,hb⟩,hst⟩
  have HR:Hid (zaB w1 base g (l ++ [zcv true])∧Below base w w1∧za0 g w w1):=hid ⟨ho,((Below.refl _ _).alloc hB _).trans hb,(za0.of_below ((Below.refl _ _).alloc (Nat.le_refl _) _)).trans hst⟩
  clear ho hb hst
  go_wp2
  go_ret
  exact ⟨⟨rfl,HR.out.1,HR.out.2.1⟩,HR.out.2.2⟩
 | false =>
  go_enter Tryz.func242,Tryz.ntmps242
  go_wp2_with fail
  refine (zfJ base g (some ⟨w.heap.size,0,none⟩) l [zcv false] (l ++ [zcv false]) 1 1 _ rfl HO.out rfl (fun h=>nomatch h) (ziZ _) hlen).mono ?_
  rintro en w1 ⟨⟨rfl,ho,hb⟩,hst⟩
  have HR:Hid (zaB w1 base g (l ++ [zcv false])∧Below base w w1∧za0 g w w1):=hid ⟨ho,((Below.refl _ _).alloc hB _).trans hb,(za0.of_below ((Below.refl _ _).alloc (Nat.le_refl _) _)).trans hst⟩
  clear ho hb hst
  go_wp2
  go_ret
  exact ⟨⟨rfl,HR.out.1,HR.out.2.1⟩,HR.out.2.2⟩
def valJ (l:List Nat) (u:Nat) (sm:Bool) (c:K) (f:Nat→Int):List Nat:=(((l ++ zae u) ++ [zcv sm]) ++ enc c) ++ zbV (natA f) 7
theorem zrB (base g:Nat) (l:List Nat) (x:J) (a b v u t:Nat) (w:World) (h:zaB w base g l) (hr:x.r=a) (hs:x.s=b) (hbal:x.bal=v) (hvote:x.vote=u) (ht:x.st=t) (ht0:t≠0) (ht3:t≤3) (ha:a<7) (hb:b<1024) (hv:v<4294967296) (hu:u<4294967296)
  (hP:zad w) (hg:0<base) (hK:okK x.c) (hrk:zaF x.c=true) (hokb:okB x.f=true) (hlen:l.length≤100000) :
  Calls Tryz.prog 241 #[.agg (rowJ x),.pointer (some ⟨g,0,none⟩)] w (zpf base g (valJ (zhH l a b v t) u x.same x.c x.f) w):=by
 have HI:=hid h
 have HP:=hid hP
 have h1:((l ++ [a]) ++ zae b).length≤100011:=by
  have:=zah (v:=b) (by omega)
  rw [List.length_append,List.length_append];simp;omega
 have h2:(((l ++ [a]) ++ zae b) ++ zae v).length≤100021:=by
  have:=zah (v:=v) (by omega)
  rw [List.length_append];omega
 obtain ⟨L1,hL1⟩:∃L,(l ++ [a]) ++ zae b=L:=⟨_,rfl⟩
 rw [hL1] at h1 h2
 obtain ⟨L2,hL2⟩:∃L,L1 ++ zae v=L:=⟨_,rfl⟩
 rw [hL2] at h2
 obtain ⟨L3,hL3⟩:∃L,L2 ++ [t]=L:=⟨_,rfl⟩
 have h3:L3.length≤100022:=by rw [←hL3,List.length_append,List.length_singleton];omega
 obtain ⟨L4,hL4⟩:∃L,L3 ++ zae u=L:=⟨_,rfl⟩
 have h4:L4.length≤100032:=by have:=zah (v:=u) (by omega);rw [←hL4,List.length_append];omega
 obtain ⟨sm,hsm⟩:∃b,x.same=b:=⟨_,rfl⟩
 obtain ⟨L5,hL5⟩:∃L,L4 ++ [zcv sm]=L:=⟨_,rfl⟩
 have h5:L5.length≤100033:=by rw [←hL5,List.length_append,List.length_singleton];omega
 obtain ⟨L6,hL6⟩:∃L,L5 ++ enc x.c=L:=⟨_,rfl⟩
 have h6:L6.length≤100333:=by have:=zpT x.c hK hrk;rw [←hL6,List.length_append];omega
 have hpf:putF x.f=x.f:=by unfold putF;rw [if_pos hokb]
 obtain ⟨L7,hL7⟩:∃L,L6 ++ zbV (natA (putF x.f)) 7=L:=⟨_,rfl⟩
 have HE:Hid (valJ (zhH l a b v t) u x.same x.c x.f=L7):=hid (by unfold valJ zhH;rw [hL1,hL2,hL3,hL4,hsm,hL5,hL6,←hL7,hpf])
 have HL1:=hid hL1
 have HL2:=hid hL2
 have HL3:=hid hL3
 have HL4:=hid hL4
 have HL5:=hid hL5
 have HL6:=hid hL6
 have HL7:=hid hL7
 have HSM:=hid hsm
 have HK:=hid hK
 have HRK:=hid hrk
 have W8:IntKind.u8.wrap (t:Int)=t:=by rw [IntKind.wrap_u8];omega
 have hb0:((t:Int) == 0)=false:=by rw [beq_eq_false_iff_ne];omega
 clear h hP hL1 hL2 hL3 hL4 hL5 hL6 hL7 hsm hK hrk hokb hpf
 go_enter Tryz.func241,Tryz.ntmps241
 go_upto_region 1 with fail
 obtain ⟨W,hW⟩:∃W,w.alloc (.cells (rowJ x) 66)=W:=⟨_,rfl⟩
 rw [hW]
 have A0:=zmN HI.out hW
 clear hW HI
 obtain ⟨k,hk⟩:∃k,w.heap.size=k:=⟨_,rfl⟩
 rw [hk] at A0 ⊢
 clear hk
 have c0:=A0.out.blk.j0
 have c1:=A0.out.blk.j1
 rw [hr] at c0
 rw [hs] at c1
 go_wp2_with fail
 with_reducible refine (zjO base g l L1 a b _ A0.out.oat ha hb (by omega) HL1.out.symm).mono ?_
 rintro en w1 ⟨rfl,ho,hb1,hs1⟩
 have A1:=hid (A0.out.put ho hb1 hs1)
 clear ho hb1 hs1 A0 c0 c1
 have c3:=A1.out.blk.j3
 rw [hbal] at c3
 go_wp2_with fail
 with_reducible refine (zd8 base g L1 v _ A1.out.oat hv (by omega)).mono ?_
 rw [HL2.out]
 rintro en w2 ⟨rfl,ho,hb1,hs1⟩
 have A2:=hid (A1.out.put ho hb1 hs1)
 clear ho hb1 hs1 A1 c3
 have c2:=A2.out.blk.j2
 rw [ht] at c2
 go_wp2_with fail
 with_reducible refine (zaT base g L2 t _ _ A2.out.oat (by first | rfl | omega) (by omega)).mono ?_
 rw [HL3.out]
 rintro en w3 ⟨⟨rfl,ho,hb1⟩,hs1⟩
 have A3:=hid (A2.out.put ho hb1 hs1)
 clear ho hb1 hs1 A2 c2 W8
 have c2:=A3.out.blk.j2
 rw [ht] at c2
 have c4:=A3.out.blk.j4
 rw [hvote] at c4
 go_wp2_with fail
 with_reducible refine (zd8 base g L3 u _ A3.out.oat hu (by omega)).mono ?_
 rw [HL4.out]
 rintro en w4 ⟨rfl,ho,hb1,hs1⟩
 have A4:=hid (A3.out.put ho hb1 hs1)
 clear ho hb1 hs1 A3 c2 c4
 have c5:=A4.out.blk.j5
 rw [HSM.out] at c5
 go_wp2_with fail
 with_reducible refine (zi4 base g L4 sm _ A4.out.oat (by omega)).mono ?_
 rw [HL5.out]
 rintro en w5 ⟨⟨rfl,ho,hb1⟩,hs1⟩
 have A5:=hid (A4.out.put ho hb1 hs1)
 clear ho hb1 hs1 A4 c5
 have I1:=hid (zcI x.c)
 have P5:=hid (HP.out.under hg A5.out.bel)
 go_wp2_with (with_reducible refine wpList_load_mid (op:=⟨some 29,_,_,_,_,_⟩) rfl 61 (.tmp 28) rfl k 6 rfl (lsK x.c) _ A5.out.blk.jc Tryz.underlying61 rfl I1.out ?_)
 with_reducible refine (zoo base g L5 x.c _ P5.out hg A5.out.oat (by omega) HK.out HRK.out).mono ?_
 rw [HL6.out]
 rintro en w6 ⟨rfl,ho,hb1,hs1⟩
 have A6:=hid (A5.out.put ho hb1 hs1)
 clear ho hb1 hs1 A5 P5 I1
 have I2:=hid (zdn x.f)
 go_wp2_with (with_reducible refine wpList_load_mid (op:=⟨some 33,_,_,_,_,_⟩) rfl 64 (.tmp 32) rfl k 14 rfl (ls8 x.f) _ A6.out.blk.ja Tryz.underlying64 rfl I2.out ?_)
 with_reducible refine (znV base g L6 x.f _ A6.out.oat (by omega)).mono ?_
 rw [HL7.out]
 rintro en w7 ⟨rfl,ho,hb1,hs1⟩
 have A7:=hid (A6.out.put ho hb1 hs1)
 clear ho hb1 hs1 A6 I2
 have R:Hid (zaB w7 base g (valJ (zhH l a b v t) u x.same x.c x.f)∧Below base w w7∧za0 g w w7):=hid ⟨by rw [HE.out];exact A7.out.oat,A7.out.bel,A7.out.stays⟩
 clear A7
 go_wp2
 go_end0
 exact ⟨rfl,R.out⟩
theorem zsH (base g:Nat) (l:List Nat) (x:J) (w:World) (h:zaB w base g l) (hP:zad w) (hg:0<base) (hok:okJ x) (hK:okK x.c) (hr:zbr x=true) (hlen:l.length≤100000) :
  Calls Tryz.prog 241 #[.agg (rowJ x),.pointer (some ⟨g,0,none⟩)] w (zpf base g (l ++ encJ x) w):=by
 obtain ⟨a,b,v,u,t,ha,hb,hv,hu,ht,ha7,hb10,hvv,hvb,huu,hub,ht3,hn0,h0⟩:=zcG hok hr
 by_cases hz:t=0
 ·subst hz
  have hc:=zrl base g l x a b v w h ha hb hv ht ha7 hb10 hvv (by omega)
  have he:zhH l a b v 0=l ++ encJ x:=by
   unfold zhH encJ
   rw [ha,hb,hv,ht]
   simp
  rw [he] at hc
  exact hc
 ·obtain ⟨k1,k2⟩:=hn0 hz
  have hc:=zrB base g l x a b v u t w h ha hb hv hu ht hz ht3 ha7 hb10 hvv huu hP hg hK k1 k2 hlen
  have he:valJ (zhH l a b v t) u x.same x.c x.f=l ++ encJ x:=by
   unfold valJ zhH encJ
   rw [ha,hb,hv,hu,ht,if_neg (by omega)]
   simp only [Int.toNat_natCast,List.append_assoc]
  rw [he] at hc
  exact hc
theorem zst (x:J) (hok:okJ x) (hK:okK x.c) (hr:zbr x=true):(encJ x).length≤413:=by
 obtain ⟨a,b,v,u,t,ha,hb,hv,hu,ht,ha7,hb10,hvv,hvb,huu,hub,ht3,hn0,h0⟩:=zcG hok hr
 unfold encJ
 rw [ha,hb,hv,hu,ht]
 simp only [Int.toNat_natCast]
 have q1:=zah (v:=b) (by omega)
 have q2:=zah (v:=v) (by omega)
 have q3:=zah (v:=u) (by omega)
 split
 ·simp only [List.length_append,List.length_singleton,List.length_nil];omega
 ·obtain ⟨k1,k2⟩:=hn0 (by omega)
  obtain ⟨_,n0,n1⟩:=zqS k2
  have q4:=zgJ n0 n1 7 (Nat.le_refl _)
  have q5:=zpT x.c hK k1
  simp only [List.length_append,List.length_singleton];omega
theorem zjK (x:J) (hok:okJ x) (hK:okK x.c) (hr:zbr x=true):∀y∈encJ x,y<256:=by
 obtain ⟨a,b,v,u,t,ha,hb,hv,hu,ht,ha7,hb10,hvv,hvb,huu,hub,ht3,hn0,h0⟩:=zcG hok hr
 unfold encJ
 rw [ha,hb,hv,hu,ht]
 simp only [Int.toNat_natCast]
 have pb:∀(F:Nat→Nat) j,∀x∈zbV F j,x<256:=fun F j=>by
  induction j with
  | zero=>exact zbo _
  | succ j ih=>intro x hx;unfold zbV at hx;exact (List.mem_append.1 hx).elim (ih x) (zbo _ x)
 intro y hy
 simp only [List.mem_append,List.mem_singleton] at hy
 rcases hy with (((rfl | hy) | hy) | rfl) | hy
 ·omega
 ·exact zbo _ y hy
 ·exact zbo _ y hy
 ·omega
 ·split at hy
  ·cases hy
  ·obtain ⟨k1,k2⟩:=hn0 (by omega)
   simp only [List.mem_append,List.mem_singleton] at hy
   rcases hy with ((hy | rfl) | hy) | hy
   ·exact zbo _ y hy
   ·unfold zcv;split <;> omega
   ·exact zpj x.c hK k1 y hy
   ·exact pb _ _ y hy
theorem zcr {P:Program} {fn:Func} {p q:Tmp} {ty:TypeId} (h:fn.results=#[.cell p ty,.tmp q]) (tmps:Array Value) (w:World) (g:Nat) (t:TypeId) (cs:Array Value) (fr:Nat × Nat) (d:TypeDesc) (u:Value)
  (hp:tmps.getD p undef=.pointer (some ⟨g,0,none⟩)) (hq:tmps.getD q undef=u) (hg:w.heap[g]?=some (.cells cs t fr))
  (hu:P.underlying ty=some d) (hd:(match d with | .struct _ | .array _ _=>true | _=>false)=true) (hi:(P.info? ty).map (·.size)=some cs.size) :
  (results fn tmps).run P w=.ok (.tuple #[.agg cs,u]) w:=by
 have hp':tmps[p]?.getD undef=.pointer (some ⟨g,0,none⟩):=by simpa using hp
 have hq':tmps[q]?.getD undef=u:=by simpa using hq
 simp [results,h,hp',hq',asAddr,run_loadVar_row w g t ty cs fr d hg hu hd hi]
end Go.Proofs.YtnjdckoljmgcjaaGreatDoor
namespace Go.Proofs.YtnjdckoljmgcjaaGreatDoor
open Go.RowKit
def zlE:Nat:=3988292384
def zfW (s:Nat):Nat:=s / 2 ^^^ (if s % 2=1 then zlE else 0)
def zbP:Nat→Nat→Nat
 | 0,s=>s
 | k+1,s=>zbP k (zfW s)
theorem zhU (k s:Nat):zbP (k+1) s=zfW (zbP k s):=by
 induction k generalizing s with
 | zero=>rfl
 | succ k ih=>rw [zbP,ih];rfl
theorem znM {s:Nat} (h:s<4294967296):zfW s<4294967296:=by
 unfold zfW
 have:(if s % 2=1 then zlE else 0)<2 ^ 32:=by split <;> decide
 exact Nat.xor_lt_two_pow (n:=32) (by omega) this
theorem zgf (k:Nat) {s:Nat} (h:s<4294967296):zbP k s<4294967296:=by
 induction k generalizing s with
 | zero=>exact h
 | succ k ih=>exact ih (znM h)
def zjf (s c:Nat):Nat:=zbP 8 (s ^^^ c)
def zbx (s:Nat) (l:List Nat):Nat:=l.foldl zjf s
def zcZ (l:List Nat):Nat:=4294967295 - zbx 4294967295 l
theorem zmw {a b:Nat} (ha:a<4294967296) (hb:b<4294967296):a ^^^ b<4294967296:=Nat.xor_lt_two_pow (n:=32) ha hb
theorem zob {s c:Nat} (hs:s<4294967296) (hc:c<256):zjf s c<4294967296:=zgf 8 (zmw hs (by omega))
theorem zeO {s:Nat} {l:List Nat} (hs:s<4294967296) (hl:∀x∈l,x<256):zbx s l<4294967296:=by
 induction l generalizing s with
 | nil=>exact hs
 | cons c l ih=>exact ih (zob hs (hl c (by simp))) (fun x hx=>hl x (by simp [hx]))
theorem zkN {l:List Nat} {k:Nat} (s:Nat) (h:k<l.length):zbx s (l.take (k+1))=zjf (zbx s (l.take k)) l[k]:=by
 unfold zbx
 rw [List.take_succ_eq_append_getElem h,List.foldl_append]
 rfl
theorem zhX (s:Nat) (a b:List Nat):zbx s (a ++ b)=zbx (zbx s a) b:=by
 unfold zbx;rw [List.foldl_append]
theorem zrO {x:Nat} (hx:x<4294967296):4294967295 - x=4294967295 ^^^ x:=by
 apply Nat.eq_of_testBit_eq
 intro i
 have e:4294967295 - x=2 ^ 32 - (x+1):=by omega
 rw [e,Nat.testBit_two_pow_sub_succ hx,Nat.testBit_xor]
 have e2:(4294967295:Nat).testBit i=decide (i<32):=by
  rw [show (4294967295:Nat)=2 ^ 32 - 1 by decide,Nat.testBit_two_pow_sub_one]
 rw [e2]
 by_cases hi:i<32
 ·simp [hi]
 ·have:x.testBit i=false:=Nat.testBit_lt_two_pow (Nat.lt_of_lt_of_le hx (Nat.pow_le_pow_right (n:=2) (i:=32) (by decide) (by omega)))
  simp [hi,this]
theorem zoX {l:List Nat} (hl:∀x∈l,x<256):zcZ l=4294967295 ^^^ zbx 4294967295 l:=zrO (zeO (by decide) hl)
theorem zsr (l:List Nat):zcZ l<4294967296:=by unfold zcZ;omega
end Go.Proofs.YtnjdckoljmgcjaaGreatDoor
