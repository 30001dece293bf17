/-
  The contracts of withTaken and Take (package cmd) off any bytes.
-/
import Derived.Test.YtnjdckoljmgcjaaGreatDoorW19
import Derived.Test.YtnjdckoljmgcjaaGreatDoorW18
set_option maxRecDepth 100000
set_option maxHeartbeats 4000000
namespace Go.Proofs.YtnjdckoljmgcjaaGreatDoor
open Go.ChangeShapes Go.WideShapes Go.ChangeAt Go.RowKit Go.Lib
set_option linter.unusedVariables false
set_option linter.unusedSimpArgs false
theorem zeX (g:Nat) (k:Int) (l:List Nat) (e:Nat) (l':List Nat) (e':Nat) (c:K) (w:World) (hP:zad w) (hg:0<g) (hI:InAt w g l e) (hS:zao l e) (hs:zec k l e=(l',e',c)) :
  Calls Tryz.prog 160 #[val ⟨k,0,⟨#[]⟩,0,⟨#[]⟩,0,0,0⟩,.pointer (some ⟨g,0,none⟩)] w (zbE (fun en=>en=.returned (val c)) g l' e' w):=by
 obtain ⟨l1,e1,l2,e2,l3,e3,l4,e4,l5,e5,u,fb,q,pb,m,n,t,a0,a1,a2,a3,a4,a5,rfl⟩:=zgk hs
 rcases zei k with ⟨h,_⟩ | ⟨_,h⟩ | ⟨_,h⟩ | ⟨_,h⟩ | ⟨_,h⟩ | ⟨_,h⟩ | ⟨_,h⟩ | ⟨_,h⟩
 ·have h':=h
  obtain ⟨s0,s1,s2,s3,s4,s5⟩:=h
  simp only [tk0,s0,Bool.false_eq_true,if_false,Prod.mk.injEq] at a0
  obtain ⟨rfl,rfl,rfl,rfl⟩:=a0
  simp only [tk1,s1,Bool.false_eq_true,if_false,Prod.mk.injEq] at a1
  obtain ⟨rfl,rfl,rfl⟩:=a1
  simp only [tk2,s2,Bool.false_eq_true,if_false,Prod.mk.injEq] at a2
  obtain ⟨rfl,rfl,rfl⟩:=a2
  simp only [tk3,s3,Bool.false_eq_true,if_false,Prod.mk.injEq] at a3
  obtain ⟨rfl,rfl,rfl⟩:=a3
  simp only [tk4,s4,Bool.false_eq_true,if_false,Prod.mk.injEq] at a4
  obtain ⟨rfl,rfl,rfl⟩:=a4
  simp only [tk5,s5,Bool.false_eq_true,if_false,Prod.mk.injEq] at a5
  obtain ⟨rfl,rfl,rfl⟩:=a5
  exact zsF g k _ _  w hP hg hI hS h'
 ·have h':=h
  obtain ⟨s0,s1,s2,s3,s4,s5⟩:=h
  simp only [tk0,s0,if_true,Prod.mk.injEq] at a0
  obtain ⟨rfl,rfl,rfl,rfl⟩:=a0
  simp only [tk1,s1,if_true] at a1
  simp only [tk2,s2,Bool.false_eq_true,if_false,Prod.mk.injEq] at a2
  obtain ⟨rfl,rfl,rfl⟩:=a2
  simp only [tk3,s3,Bool.false_eq_true,if_false,Prod.mk.injEq] at a3
  obtain ⟨rfl,rfl,rfl⟩:=a3
  simp only [tk4,s4,if_true] at a4
  simp only [tk5,s5,if_true] at a5
  exact zrq g k _ _ _ _ _ _ _ _ _ _ _ _ _ _ _ _ _ w hP hg hI hS h' rfl rfl a1 a4 a5
 ·have h':=h
  obtain ⟨s0,s1,s2,s3,s4,s5⟩:=h
  simp only [tk0,s0,if_true,Prod.mk.injEq] at a0
  obtain ⟨rfl,rfl,rfl,rfl⟩:=a0
  simp only [tk1,s1,if_true] at a1
  simp only [tk2,s2,Bool.false_eq_true,if_false,Prod.mk.injEq] at a2
  obtain ⟨rfl,rfl,rfl⟩:=a2
  simp only [tk3,s3,Bool.false_eq_true,if_false,Prod.mk.injEq] at a3
  obtain ⟨rfl,rfl,rfl⟩:=a3
  simp only [tk4,s4,Bool.false_eq_true,if_false,Prod.mk.injEq] at a4
  obtain ⟨rfl,rfl,rfl⟩:=a4
  simp only [tk5,s5,Bool.false_eq_true,if_false,Prod.mk.injEq] at a5
  obtain ⟨rfl,rfl,rfl⟩:=a5
  exact zso g k _ _ _ _ _ _ _ _ _ _ _ w hP hg hI hS h' rfl rfl a1
 ·have h':=h
  obtain ⟨s0,s1,s2,s3,s4,s5⟩:=h
  simp only [tk0,s0,if_true,Prod.mk.injEq] at a0
  obtain ⟨rfl,rfl,rfl,rfl⟩:=a0
  simp only [tk1,s1,if_true] at a1
  simp only [tk2,s2,Bool.false_eq_true,if_false,Prod.mk.injEq] at a2
  obtain ⟨rfl,rfl,rfl⟩:=a2
  simp only [tk3,s3,Bool.false_eq_true,if_false,Prod.mk.injEq] at a3
  obtain ⟨rfl,rfl,rfl⟩:=a3
  simp only [tk4,s4,Bool.false_eq_true,if_false,Prod.mk.injEq] at a4
  obtain ⟨rfl,rfl,rfl⟩:=a4
  simp only [tk5,s5,if_true] at a5
  exact zsh g k _ _ _ _ _ _ _ _ _ _ _ _ _ _ w hP hg hI hS h' rfl rfl a1 a5
 ·have h':=h
  obtain ⟨s0,s1,s2,s3,s4,s5⟩:=h
  simp only [tk0,s0,if_true,Prod.mk.injEq] at a0
  obtain ⟨rfl,rfl,rfl,rfl⟩:=a0
  simp only [tk1,s1,if_true] at a1
  simp only [tk2,s2,if_true] at a2
  simp only [tk3,s3,if_true] at a3
  simp only [tk4,s4,Bool.false_eq_true,if_false,Prod.mk.injEq] at a4
  obtain ⟨rfl,rfl,rfl⟩:=a4
  simp only [tk5,s5,Bool.false_eq_true,if_false,Prod.mk.injEq] at a5
  obtain ⟨rfl,rfl,rfl⟩:=a5
  exact zsJ g k _ _ _ _ _ _ _ _ _ _ _ _ _ _ _ _ _ w hP hg hI hS h' rfl rfl a1 a2 a3
 ·have h':=h
  obtain ⟨s0,s1,s2,s3,s4,s5⟩:=h
  simp only [tk0,s0,if_true,Prod.mk.injEq] at a0
  obtain ⟨rfl,rfl,rfl,rfl⟩:=a0
  simp only [tk1,s1,if_true] at a1
  simp only [tk2,s2,if_true] at a2
  simp only [tk3,s3,Bool.false_eq_true,if_false,Prod.mk.injEq] at a3
  obtain ⟨rfl,rfl,rfl⟩:=a3
  simp only [tk4,s4,Bool.false_eq_true,if_false,Prod.mk.injEq] at a4
  obtain ⟨rfl,rfl,rfl⟩:=a4
  simp only [tk5,s5,Bool.false_eq_true,if_false,Prod.mk.injEq] at a5
  obtain ⟨rfl,rfl,rfl⟩:=a5
  exact zrL g k _ _ _ _ _ _ _ _ _ _ _ _ _ _ w hP hg hI hS h' rfl rfl a1 a2
 ·have h':=h
  obtain ⟨s0,s1,s2,s3,s4,s5⟩:=h
  simp only [tk0,s0,if_true,Prod.mk.injEq] at a0
  obtain ⟨rfl,rfl,rfl,rfl⟩:=a0
  simp only [tk1,s1,if_true] at a1
  simp only [tk2,s2,if_true] at a2
  simp only [tk3,s3,Bool.false_eq_true,if_false,Prod.mk.injEq] at a3
  obtain ⟨rfl,rfl,rfl⟩:=a3
  simp only [tk4,s4,if_true] at a4
  simp only [tk5,s5,Bool.false_eq_true,if_false,Prod.mk.injEq] at a5
  obtain ⟨rfl,rfl,rfl⟩:=a5
  exact zsT g k _ _ _ _ _ _ _ _ _ _ _ _ _ _ _ _ _ w hP hg hI hS h' rfl rfl a1 a2 a4
 ·have h':=h
  obtain ⟨s0,s1,s2,s3,s4,s5⟩:=h
  simp only [tk0,s0,if_true,Prod.mk.injEq] at a0
  obtain ⟨rfl,rfl,rfl,rfl⟩:=a0
  simp only [tk1,s1,Bool.false_eq_true,if_false,Prod.mk.injEq] at a1
  obtain ⟨rfl,rfl,rfl⟩:=a1
  simp only [tk2,s2,Bool.false_eq_true,if_false,Prod.mk.injEq] at a2
  obtain ⟨rfl,rfl,rfl⟩:=a2
  simp only [tk3,s3,Bool.false_eq_true,if_false,Prod.mk.injEq] at a3
  obtain ⟨rfl,rfl,rfl⟩:=a3
  simp only [tk4,s4,Bool.false_eq_true,if_false,Prod.mk.injEq] at a4
  obtain ⟨rfl,rfl,rfl⟩:=a4
  simp only [tk5,s5,if_true] at a5
  exact zrC g k _ _ _ _ _ _ _ _ _ _ _ w hP hg hI hS h' rfl rfl a5
def TwoK (w0 w:World) (g k n:Nat) (c:K) (l:List Nat) (e:Nat):Prop :=
 InAt w g l e∧Blk w k 61 (cellsOf za8)∧Blk w n 61 (cellsOf c)∧w0.grownBy w (some g)∧zad w∧0<g∧g<k∧k<n∧w0.heap.size≤k
section
variable {w0 w w':World} {g k n:Nat} {c:K} {l l':List Nat} {e e':Nat}
theorem TwoK.iat (h:TwoK w0 w g k n c l e):InAt w g l e:=h.1
theorem TwoK.res (h:TwoK w0 w g k n c l e):Blk w k 61 (cellsOf za8):=h.2.1
theorem TwoK.box (h:TwoK w0 w g k n c l e):Blk w n 61 (cellsOf c):=h.2.2.1
theorem TwoK.grown (h:TwoK w0 w g k n c l e):w0.grownBy w (some g):=h.2.2.2.1
theorem TwoK.parts (h:TwoK w0 w g k n c l e):zad w:=h.2.2.2.2.1
theorem TwoK.on (h:TwoK w0 w g k n c l e) (hb:Below w.heap.size w w'):TwoK w0 w' g k n c l e :=
 ⟨h.1.keep (hb.mono h.1.lt),h.res.below hb h.res.lt,h.box.below hb h.box.lt,zb2 h.grown hb,h.parts.below hb,h.2.2.2.2.2⟩
theorem TwoK.turn (h:TwoK w0 w g k n c l e) (hi:InAt w' g l' e') (hb:w.grownBy w' (some g)):TwoK w0 w' g k n c l' e':=by
 obtain ⟨h1,h2,h3,h4,h5,h6,h7,h8,h9⟩:=h
 exact ⟨hi,h2.grown hb (by intro e;injection e with e;omega),h3.grown hb (by intro e;injection e with e;omega),h4.trans hb,zdW zcx h5 h5.lt (by intro e;injection e with e;omega) hb,h6,h7,h8,h9⟩
theorem TwoK.row (h:TwoK w0 w g k n c l e) (d:K):TwoK w0 (w.setRow n (cellsOf d)) g k n d l e:=by
 obtain ⟨h1,h2,h3,h4,h5,h6,h7,h8,h9⟩:=h
 exact ⟨h1.setRow (by omega),h2.rowFar (by omega) _,h3.row _,zcd h4 (by omega),zdf zcx h5 (base:=n) (by omega) (zak (Below.refl _ _) (Nat.le_refl _)),h6,h7,h8,h9⟩
theorem TwoK.last (h:TwoK w0 w g k n c l e) (d:K):InAt (w.setRow k (cellsOf d)) g l e∧w0.grownBy (w.setRow k (cellsOf d)) (some g):=by
 obtain ⟨h1,h2,h3,h4,h5,h6,h7,h8,h9⟩:=h
 exact ⟨h1.setRow h7,zcd h4 h9⟩
end
theorem zsE {w:World} {k:Nat} {T:TypeId} (h:Blk w k T (cellsOf za8)) (d:K):Blk (putK w k d) k T (cellsOf d):=by
 obtain ⟨k',u',f',q',s',m',n',t'⟩:=d
 have b0:=Blk.as (h.set_ 0 (.int .i64 k')) (ds:=cellsOf ⟨k',0,⟨#[]⟩,0,⟨#[]⟩,0,0,0⟩) rfl
 have b1:=Blk.as (b0.set_ 1 (.int .u64 u')) (ds:=cellsOf ⟨k',u',⟨#[]⟩,0,⟨#[]⟩,0,0,0⟩) rfl
 have b2:=Blk.as (b1.set_ 2 (.string f')) (ds:=cellsOf ⟨k',u',f',0,⟨#[]⟩,0,0,0⟩) rfl
 have b3:=Blk.as (b2.set_ 3 (.int .u64 q')) (ds:=cellsOf ⟨k',u',f',q',⟨#[]⟩,0,0,0⟩) rfl
 have b4:=Blk.as (b3.set_ 4 (.string s')) (ds:=cellsOf ⟨k',u',f',q',s',0,0,0⟩) rfl
 have b5:=Blk.as (b4.set_ 5 (.int .i64 m')) (ds:=cellsOf ⟨k',u',f',q',s',m',0,0⟩) rfl
 have b6:=Blk.as (b5.set_ 6 (.int .u64 n')) (ds:=cellsOf ⟨k',u',f',q',s',m',n',0⟩) rfl
 have b7:=Blk.as (b6.set_ 7 (.int .i64 t')) (ds:=cellsOf ⟨k',u',f',q',s',m',n',t'⟩) rfl
 exact b7
theorem zts {w0 w:World} {g k:Nat} {l:List Nat} {e:Nat} (h1:InAt w g l e) (h4:w0.grownBy w (some g)) (h7:g<k) (h9:w0.heap.size≤k) (d:K):InAt (putK w k d) g l e∧w0.grownBy (putK w k d) (some g):=by
 have step:∀(W:World) (i:Nat) (u:Value),InAt W g l e∧w0.grownBy W (some g)→InAt (W.setCell ⟨k,i,none⟩ u) g l e∧w0.grownBy (W.setCell ⟨k,i,none⟩ u) (some g):=fun W i u hh=>⟨hh.1.setCell h7,zaD (p:=⟨k,i,none⟩) hh.2 (.inr h9) u⟩
 have b0:=step w 0 (.int .i64 d.kind) ⟨h1,h4⟩
 have b1:=step _ 1 (.int .u64 d.num) b0
 have b2:=step _ 2 (.string d.foot) b1
 have b3:=step _ 3 (.int .u64 d.req) b2
 have b4:=step _ 4 (.string d.path) b3
 have b5:=step _ 5 (.int .i64 d.mode) b4
 have b6:=step _ 6 (.int .u64 d.n) b5
 exact step _ 7 (.int .i64 d.time) b6
theorem TwoK.lastK {w0 w:World} {g k n:Nat} {c:K} {l:List Nat} {e:Nat} (h:TwoK w0 w g k n c l e) (d:K):Blk (putK w k d) k 61 (cellsOf d)∧InAt (putK w k d) g l e∧w0.grownBy (putK w k d) (some g) :=
 ⟨zsE h.res d,zts h.iat h.grown h.2.2.2.2.2.2.1 h.2.2.2.2.2.2.2.2 d⟩
theorem zjn (c:K):(Tryz.prog.info? 61).map (·.size)=some (cellsOf c).size:=by kernel_rfl
theorem zgt (c:K):(cellsOf c).all (·.oneCell')=true:=by simp [cellsOf,Value.oneCell']
theorem zhC (c d:K):(cellsOf c).size=(cellsOf d).size:=rfl
theorem zlr (g:Nat) (l:List Nat) (e:Nat) (l1 l2 l3:List Nat) (e1 e2 e3 b:Nat) (d:K) (w:World) (h:InAt w g l e) (hS:zao l e) (hP:zad w) (hg:0<g)
  (hb:zbc l e=(l1,e1,b)) (hb8:b<256) (hS1:zao l1 e1) (hk:(if 8<b then (zbs e1 22 l1,zay e1 22) else (l1,e1))=(l2,e2)) (hS2:zao l2 e2) (hp:zec (b:Int) l2 e2=(l3,e3,d)) (hS3:zao l3 e3) (hf:d.foot.size≤4611686018427387903) (hpp:d.path.size≤4611686018427387903) (hbad:isK (b:Int)=false→e2≠0) :
  Calls Tryz.prog 123 #[.pointer (some ⟨g,0,none⟩)] w (zbE (fun en=>en=.returned (val (zj2 (l3,e3,d)).2.2)) g (zj2 (l3,e3,d)).1 (zj2 (l3,e3,d)).2.1 w):=by
 obtain ⟨x,hx⟩:∃x,isK (b:Int)=x:=⟨_,rfl⟩
 obtain ⟨rr,hr⟩:∃x,zaF d=x:=⟨_,rfl⟩
 have HX:=hid hx
 have HRR:=hid hr
 have HI:=hid h
 have HS:=hid hS
 have HS1:=hid hS1
 have HS2:=hid hS2
 have HS3:=hid hS3
 have HP:=hid hP
 have HB:=hid hb
 have HK:=hid hk
 have HPA:=hid hp
 have HBAD:=hid hbad
 have HL:Hid (zj2 (l3,e3,d)=if rr then (l3,e3,if e3=0 then d else za8) else (zbs e3 10 l3,zay e3 10,za8)):=hid (by unfold zj2;simp only;rw [hr])
 have hgl:=h.lt
 have W1:IntKind.i64.wrap (b:Int)=b:=by rw [IntKind.wrap_i64];omega
 clear hx hr h hS hS1 hS2 hS3 hP hb hk hp hbad
 go_enter Tryz.func123,Tryz.ntmps123
 go_wp2_with fail
 have HI0:=hid (HI.out.keep ((Below.refl _ _).alloc (by omega) (.cells (cellsOf za8) 61)))
 have R0:=hid (Blk.new w 61 (cellsOf za8))
 have P0:=hid (HP.out.alloc (.cells (cellsOf za8) 61))
 have G0:=hid (zam ((Below.refl w.heap.size w).alloc (Nat.le_refl _) (.cells (cellsOf za8) 61)) (some g))
 with_reducible refine (zfq g l e l1 e1 b _ HI0.out HS.out.fine HB.out).mono ?_
 rintro en w1 ⟨rfl,hin,hgr⟩
 have I1:=hid hin
 have R1:=hid (R0.out.grown hgr (by intro e;injection e with e;omega))
 have P1:Hid (zad w1):=hid (zdW zcx P0.out P0.out.lt (by intro e;injection e with e;omega) hgr)
 have G1:=hid (G0.out.trans hgr)
 clear hin hgr HI0 R0 P0 G0 HI HP
 obtain ⟨k,hk⟩:∃k,w.heap.size=k:=⟨_,rfl⟩
 have HKK:=hid hk
 obtain ⟨n,hn⟩:∃n,w1.heap.size=n:=⟨_,rfl⟩
 have A0:Hid (TwoK w (w1.alloc (.cells (cellsOf ⟨b,0,⟨#[]⟩,0,⟨#[]⟩,0,0,0⟩) 61)) g k n ⟨b,0,⟨#[]⟩,0,⟨#[]⟩,0,0,0⟩ l1 e1):=hid (by
  have hlt:=R1.out.lt
  have hle:=G1.out.size
  rw [hn] at hlt
  rw [hk] at hlt hle
  have hR:=R1.out
  rw [hk] at hR
  exact ⟨I1.out.keep ((Below.refl _ _).alloc (by have:=I1.out.lt;omega) _),hR.alloc _,by rw [←hn];exact Blk.new _ _ _,zb2 G1.out ((Below.refl _ _).alloc (Nat.le_refl _) _),P1.out.alloc _,hg,by omega,hlt,by rw [hk];exact Nat.le_refl _⟩)
 clear I1 R1 P1 G1
 go_upto_region 2 with fail
 obtain ⟨W2,hW2⟩:∃W2,w1.alloc (.cells (cellsOf ⟨b,0,⟨#[]⟩,0,⟨#[]⟩,0,0,0⟩) 61)=W2:=⟨_,rfl⟩
 rw [hW2] at A0 ⊢
 clear hW2 hn hk W1
 have Z1:=hid (zjn za8)
 have Z2:=hid (zhC za8 za8)
 have Z3:=hid (zgt za8)
 have D1:=hid (zjn d)
 have D2:=hid (zhC ⟨b,0,⟨#[]⟩,0,⟨#[]⟩,0,0,0⟩ d)
 have D3:=hid (zgt d)
 have D4:=hid (zhC za8 d)
 have B1:=hid (zjn ⟨b,0,⟨#[]⟩,0,⟨#[]⟩,0,0,0⟩)
 have c0:W2.cell? ⟨n,0,none⟩=some (.int .i64 (b:Int)):=(A0.out.box.cell 0).trans rfl
 go_wp2_with fail
 with_reducible refine (zc2 (b:Int) _).mono ?_
 rw [HX.out]
 rintro en w2 ⟨rfl,rfl⟩
 clear c0
 cases x
 ·have h8:8<b:=by have:=HX.out;unfold isK at this;rw [decide_eq_false_iff_not] at this;omega
  have hm:zbs e1 22 l1=l2∧zay e1 22=e2:=by have:=HK.out;rw [if_pos h8] at this;simpa using this
  have HM:=hid hm
  have hd:=HPA.out
  rw [ztL HX.out] at hd
  simp only [Prod.mk.injEq] at hd
  have HD:=hid hd
  have hrf:rr=false:=by rw [←HRR.out,←hd.2.2];exact zlX HX.out
  clear hm hd
  subst hrf
  have hpos:0<zay e3 10:=zbF (by omega)
  go_wp2_with fail
  with_reducible refine (zbI g l1 e1 22 22 _ A0.out.iat rfl).mono ?_
  rw [HM.out.1,HM.out.2]
  rintro en w3 ⟨rfl,hin,hgr⟩
  have A1:=hid (A0.out.turn hin hgr)
  clear hin hgr A0
  go_wp2_with (with_reducible refine wpList_load_row (o:=⟨some 14,_,_,_,_,_⟩) rfl 61 (.tmp 3) rfl n rfl 61 (cellsOf ⟨b,0,⟨#[]⟩,0,⟨#[]⟩,0,0,0⟩) (0,0) _ A1.out.box.heap Tryz.underlying61 rfl B1.out ?_)
  with_reducible refine (zeX g (b:Int) l2 e2 l3 e3 d _ A1.out.parts hg A1.out.iat HS2.out HPA.out).mono ?_
  rintro en w4 ⟨rfl,hin,hgr⟩
  have A2:=hid (A1.out.turn hin hgr)
  clear hin hgr A1
  have A3:=hid (A2.out.row d)
  go_wp2_with (first
   | (with_reducible refine wpList_store_row (o:=⟨none,_,_,_,_,_⟩) rfl 61 (.tmp 3) (.tmp 16) rfl n (cellsOf d) rfl rfl 61 _ A2.out.box.heap D1.out D2.out D3.out ?_)
   | (with_reducible refine wpList_load_row (o:=⟨some 17,_,_,_,_,_⟩) rfl 61 (.tmp 3) rfl n rfl 61 (cellsOf d) (0,0) _ A3.out.box.heap Tryz.underlying61 rfl D1.out ?_))
  with_reducible refine (zaJ d _ A3.out.parts hf hpp).mono ?_
  rw [HRR.out]
  rintro en w5 ⟨rfl,hb⟩
  have A4:=hid (A3.out.on hb)
  clear hb A2 A3
  go_wp2_with fail
  with_reducible refine (zbI g l3 e3 10 10 _ A4.out.iat rfl).mono ?_
  rintro en w6 ⟨rfl,hin,hgr⟩
  have A5:=hid (A4.out.turn hin hgr)
  clear hin hgr A4
  go_wp2_with fail
  with_reducible refine (zaU g (zbs e3 10 l3) (zay e3 10) _ A5.out.iat hpos).mono ?_
  rintro en w7 ⟨rfl,rfl⟩
  have A6:=hid (A5.out.lastK za8)
  obtain ⟨⟨c0,c1,c2,c3,c4,c5,c6,c7⟩,f0,f1,f2,f3,f4,f5,f6,f7⟩:=zaa A5.out.res
  go_wp2
  exact bodyPost_ret (v:=val za8) (results_cell_row (p:=2) (ty:=61) (by kernel_rfl) _ _ k 61 (cellsOf za8) (0,0) _ rfl A6.out.1 Tryz.underlying61 rfl Z1.out) rfl ⟨by rw [HL.out];rfl,by rw [HL.out];exact A6.out.2.1,A6.out.2.2⟩
 ·have h8:¬8<b:=by have:=HX.out;unfold isK at this;rw [decide_eq_true_eq] at this;omega
  have hm:l1=l2∧e1=e2:=by have:=HK.out;rw [if_neg h8] at this;simpa using this
  obtain ⟨rfl,rfl⟩:=hm
  go_wp2_with (with_reducible refine wpList_load_row (o:=⟨some 14,_,_,_,_,_⟩) rfl 61 (.tmp 3) rfl n rfl 61 (cellsOf ⟨b,0,⟨#[]⟩,0,⟨#[]⟩,0,0,0⟩) (0,0) _ A0.out.box.heap Tryz.underlying61 rfl B1.out ?_)
  with_reducible refine (zeX g (b:Int) l1 e1 l3 e3 d _ A0.out.parts hg A0.out.iat HS2.out HPA.out).mono ?_
  rintro en w4 ⟨rfl,hin,hgr⟩
  have A2:=hid (A0.out.turn hin hgr)
  clear hin hgr A0
  have A3:=hid (A2.out.row d)
  go_wp2_with (first
   | (with_reducible refine wpList_store_row (o:=⟨none,_,_,_,_,_⟩) rfl 61 (.tmp 3) (.tmp 16) rfl n (cellsOf d) rfl rfl 61 _ A2.out.box.heap D1.out D2.out D3.out ?_)
   | (with_reducible refine wpList_load_row (o:=⟨some 17,_,_,_,_,_⟩) rfl 61 (.tmp 3) rfl n rfl 61 (cellsOf d) (0,0) _ A3.out.box.heap Tryz.underlying61 rfl D1.out ?_))
  with_reducible refine (zaJ d _ A3.out.parts hf hpp).mono ?_
  rw [HRR.out]
  rintro en w5 ⟨rfl,hb⟩
  have A4:=hid (A3.out.on hb)
  clear hb A2 A3
  cases rr
  ·have hpos:0<zay e3 10:=zbF (by omega)
   go_wp2_with fail
   with_reducible refine (zbI g l3 e3 10 10 _ A4.out.iat rfl).mono ?_
   rintro en w6 ⟨rfl,hin,hgr⟩
   have A5:=hid (A4.out.turn hin hgr)
   clear hin hgr A4
   go_wp2_with fail
   with_reducible refine (zaU g (zbs e3 10 l3) (zay e3 10) _ A5.out.iat hpos).mono ?_
   rintro en w7 ⟨rfl,rfl⟩
   have A6:=hid (A5.out.lastK za8)
   obtain ⟨⟨c0,c1,c2,c3,c4,c5,c6,c7⟩,f0,f1,f2,f3,f4,f5,f6,f7⟩:=zaa A5.out.res
   go_wp2
   exact bodyPost_ret (v:=val za8) (results_cell_row (p:=2) (ty:=61) (by kernel_rfl) _ _ k 61 (cellsOf za8) (0,0) _ rfl A6.out.1 Tryz.underlying61 rfl Z1.out) rfl ⟨by rw [HL.out];rfl,by rw [HL.out];exact A6.out.2.1,A6.out.2.2⟩
  ·by_cases h0:e3=0
   ·subst h0
    go_wp2_with fail
    with_reducible refine (zcL g l3 _ A4.out.iat).mono ?_
    rintro en w7 ⟨rfl,rfl⟩
    have A6:=hid (A4.out.last d)
    go_wp2_with (first
     | (with_reducible refine wpList_load_row (o:=⟨some 25,_,_,_,_,_⟩) rfl 61 (.tmp 3) rfl n rfl 61 (cellsOf d) (0,0) _ A4.out.box.heap Tryz.underlying61 rfl D1.out ?_)
     | (with_reducible refine wpList_store_row (o:=⟨none,_,_,_,_,_⟩) rfl 61 (.tmp 2) (.tmp 25) rfl k (cellsOf d) rfl rfl 61 _ A4.out.res.heap D1.out D4.out D3.out ?_))
    exact bodyPost_ret (v:=val d) (results_cell_row (p:=2) (ty:=61) (by kernel_rfl) _ _ k 61 (cellsOf d) (0,0) _ rfl (setRow_heap _ k _ (cellsOf d) _ _ A4.out.res.heap) Tryz.underlying61 rfl D1.out) rfl ⟨by rw [HL.out];rfl,by rw [HL.out];exact A6.out.1,A6.out.2⟩
   ·have hpos:0<e3:=by omega
    have HN0:=hid h0
    go_wp2_with fail
    with_reducible refine (zaU g l3 e3 _ A4.out.iat hpos).mono ?_
    rintro en w7 ⟨rfl,rfl⟩
    have A6:=hid (A4.out.lastK za8)
    obtain ⟨⟨c0,c1,c2,c3,c4,c5,c6,c7⟩,f0,f1,f2,f3,f4,f5,f6,f7⟩:=zaa A4.out.res
    go_wp2
    exact bodyPost_ret (v:=val za8) (results_cell_row (p:=2) (ty:=61) (by kernel_rfl) _ _ k 61 (cellsOf za8) (0,0) _ rfl A6.out.1 Tryz.underlying61 rfl Z1.out) rfl ⟨by rw [HL.out];simp [HN0.out],by rw [HL.out];exact A6.out.2.1,A6.out.2.2⟩
theorem zgj (g:Nat) (l:List Nat) (e:Nat) (l':List Nat) (e':Nat) (c:K) (w:World) (h:InAt w g l e) (hS:zao l e) (hP:zad w) (hg:0<g) (hs:sCmd l e=(l',e',c)) :
  Calls Tryz.prog 123 #[.pointer (some ⟨g,0,none⟩)] w (zbE (fun en=>en=.returned (val c)) g l' e' w):=by
 obtain ⟨l1,e1,b,hb⟩:∃a b c,zbc l e=(a,b,c):=⟨_,_,_,rfl⟩
 obtain ⟨s1,b1⟩:=zcg hS hb
 obtain ⟨l2,e2,h2⟩:∃a b,ziE l e=(a,b):=⟨_,_,rfl⟩
 obtain ⟨l3,e3,d,h3⟩:∃x y z,zec (b:Int) l2 e2=(x,y,z):=⟨_,_,_,rfl⟩
 have hk:(if 8<b then (zbs e1 22 l1,zay e1 22) else (l1,e1))=(l2,e2):=by rw [←h2];unfold ziE;rw [hb]
 have s2:zao l2 e2∧(8<b→e2≠0):=by
  split at hk
  ·simp only [Prod.mk.injEq] at hk
   obtain ⟨rfl,rfl⟩:=hk
   exact ⟨zc5 (by omega) s1,fun _=>zaV (by omega)⟩
  ·rename_i hn
   simp only [Prod.mk.injEq] at hk
   obtain ⟨rfl,rfl⟩:=hk
   exact ⟨s1,fun h=>absurd h hn⟩
 obtain ⟨s3,ok3,k3,f3,p3,i3⟩:=zgc (by omega) s2.1 h3
 have hp:zg9 l e=(l3,e3,d):=by unfold zg9;rw [hb,h2];exact h3
 have hc:=zlr g l e l1 l2 l3 e1 e2 e3 b d w h hS hP hg hb b1 s1 hk s2.1 h3 s3 (by omega) (by omega) (fun hx=>s2.2 (by unfold isK at hx;rw [decide_eq_false_iff_not] at hx;omega))
 unfold sCmd at hs
 rw [hp] at hs
 rw [hs] at hc
 exact hc
end Go.Proofs.YtnjdckoljmgcjaaGreatDoor
