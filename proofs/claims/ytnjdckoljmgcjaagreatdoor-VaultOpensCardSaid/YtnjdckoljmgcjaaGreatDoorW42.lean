/-
  VaultOpens: whatever power is left while it is opened, and however often it crashes in that: opened at last a disk has the vault that it would have had at once.
-/
import Derived.Test.YtnjdckoljmgcjaaGreatDoorW40
import Derived.Test.YtnjdckoljmgcjaaGreatDoorW41
set_option maxRecDepth 100000
set_option maxHeartbeats 4000000
namespace Go.Proofs.YtnjdckoljmgcjaaGreatDoor.vaultOpens
open Go.ChangeShapes Go.WideShapes Go.ChangeAt Go.RowKit Go.Maps Go.WideMaps
set_option linter.unusedVariables false
set_option linter.unusedSimpArgs false
def PreJ (x:J):Prop:=okJ x∧okK x.c∧(zbl x.r∧zbl x.s)
def zqC (w:World) (B:Option Addr) (ns:List Int):Prop:=∀(j:Nat) (x:Int),ns[j]?=some x→∃b o,B=some ⟨b,o,none⟩∧b<w.heap.size∧w.cell? ⟨b,o+j,none⟩=some (.int .i64 x)
theorem zqC.below {w w':World} {B:Option Addr} {ns:List Int} {N:Nat} (h:zqC w B ns) (hN:N=w.heap.size) (hb:Below N w w'):zqC w' B ns:=fun j x hj=>by
 subst hN
 obtain ⟨b,o,h1,h2,h3⟩:=h j x hj
 exact ⟨b,o,h1,Nat.lt_of_lt_of_le h2 hb.size,(hb.cell (p:=⟨b,o+j,none⟩) h2).trans h3⟩
theorem zc8 {S:Nat→Prop} {w w':World} {base:Nat} {u:Value} {l:List J} (h:DocX base w u l) (t:zai S w w') (hS:∀b cs fr,w.heap[b]?=some (.cells cs 83 fr)→¬S b):DocX base w' u l:=by
 refine ⟨h.1,h.2.imp id ?_⟩
 rintro ⟨g,cap,cur,e,hb,hc,hr⟩
 have hlt:g<w.heap.size:=(World.ownsRow.lt h g (by rw [e];rfl)).2
 exact ⟨g,cap,cur,e,hb,(t.block g hlt (hS g _ _ hc)).trans hc,hr⟩
structure VoAt (w W:World) (n0 g vb:Nat) (d:Dk) (dv:Nat→Value) (a b:Int) (cur:Value) (ys:List J):Prop where
 disk:zaj W g g d dv
 box:Blk W n0 24 #[.int .i64 a,.int .i64 b]
 vbox:Blk W vb 36 #[cur]
 doc:DocX n0 W cur ys
 below:Below n0 w W
 parts:zad W
 lo:0<n0∧n0<g
section
variable {w W W':World} {n0 g vb:Nat} {d d':Dk} {dv dv':Nat→Value} {a b:Int} {cur:Value} {ys:List J}
theorem VoAt.on (h:VoAt w W n0 g vb d dv a b cur ys) (k:Below W.heap.size W W'):VoAt w W' n0 g vb d dv a b cur ys :=
 ⟨h.disk.on k,h.box.below k h.box.lt,h.vbox.below k h.vbox.lt,h.doc.on k,h.below.trans (k.mono (Nat.le_of_lt h.box.lt)),h.parts.below k,h.lo⟩
theorem VoAt.did (h:VoAt w W n0 g vb d dv a b cur ys) (hd:zaj W' g g d' dv') (t:zai (OwnD g dv) W W'):VoAt w W' n0 g vb d' dv' a b cur ys :=
 ⟨hd,h.box.turns t (fun e=>by have:=(h.disk.own e).1;have:=h.lo.2;omega),h.vbox.turns t (h.disk.far h.vbox.heap (by decide) (by decide)),zc8 h.doc t (fun b cs fr e=>h.disk.far e (by decide) (by decide)),
  h.below.trans (t.below (Nat.le_of_lt h.box.lt) (fun i hi e=>by have:=(h.disk.own e).1;have:=h.lo.2;omega)),zfc h.parts h.disk (by have:=h.lo;omega) t,h.lo⟩
theorem VoAt.does {r:Value} {e:Ending} (h:VoAt w W n0 g vb d dv a b cur ys) (k:zby g g dv d' r W e W'):e=.returned r∧∃dv',VoAt w W' n0 g vb d' dv' a b cur ys:=by
 obtain ⟨dv',he,D,T,_⟩:=k
 exact ⟨he,dv',h.did D T⟩
end
theorem ztU {xs:List J} (h:fitV xs=true) (hp:∀x∈xs,PreJ x):∀x∈xs,AnyJ x:=fun x hx=>⟨(hp x hx).1,(hp x hx).2.1,(hp x hx).2.2,(zpL h).2 x hx⟩
theorem zm6 (u:Value) (w:World):(Instr.buildSlice 29 1 #[(0,.agg #[.int .i64 0,.int .i64 0,.int .i64 0,.int .i64 0,u])]).run Tryz.prog w=.ok (.slice (some ⟨w.heap.size,0,none⟩) 1 1) (w.alloc (.cells #[.int .i64 0,.int .i64 0,.int .i64 0,.int .i64 0,u] 28)):=by kernel_rfl
structure zhd (d:Dk) (ys:List J):Prop where
 l0:d.l 0=zaf (logR ys)
 s0:d.s 0=(zaf (logR ys)).length
 l1:d.l 1=[]
 ok:d.Ok
 sz:d.sz=4096
 dn:d.dn=false
 arm:d.arm=false
 good:∀x∈ys,zbv x
 len:ys.length≤6
theorem zkn {xs:List J} (hG:∀x∈xs,zbv x) (hl:xs.length≤6):zhd (zf8 (picD 4096) xs) xs:=by
 unfold zf8
 by_cases h:xs=[]
 ·subst h
  rw [if_pos rfl]
  exact ⟨rfl,rfl,rfl,zf4 (by decide) (by decide),rfl,rfl,rfl,hG,hl⟩
 ·rw [if_neg h]
  have e:zaf (logR xs)=picN ++ zaf (xs.map zbe):=by
   unfold picN logR
   rw [←zb8]
   rfl
  have h2:=zeE hG
  have h3:=zdE
  exact ⟨e.symm,by rw [e];rfl,rfl,zjP (zf4 (by decide) (by decide)) (by decide) (by
   show ((zaf (xs.map zbe)).length:Int)≤4096 - (picN.length:Int) - (([]:List Nat).length:Int)
   simp
   omega),rfl,rfl,rfl,hG,hl⟩
theorem VoAt.didV {w W W':World} {n0 g vb:Nat} {d d':Dk} {dv dv':Nat→Value} {a b:Int} {cur:Value} {ys:List J} {base v:Nat} {cu gen:Int} {m x mi:Nat} {l:List J} {nl:List Nt} (h:VoAt w W n0 g vb d dv a b cur ys) (hv:VAt W base v g cu gen m x mi l nl) (hb:n0<base) (hd:zaj W' g g d' dv') (t:zai (fun b=>OwnD g dv b∨OwnV v m mi b) W W'):VoAt w W' n0 g vb d' dv' a b cur ys:=by
 have hlow:=hv.low
 have nD:∀i,i≤n0→¬(OwnD g dv i∨OwnV v m mi i):=fun i hi e=>by
  rcases e with e | e
  ·have:=(h.disk.own e).1
   have:=h.lo.2
   omega
  ·unfold OwnV at e
   omega
 exact ⟨hd,h.box.turns t (nD n0 (Nat.le_refl _)),h.vbox.turns t (fun e=>e.elim (h.disk.far h.vbox.heap (by decide) (by decide)) (hv.type_ne h.vbox.heap (by decide))),
  zc8 h.doc t (fun b cs fr e e2=>e2.elim (h.disk.far e (by decide) (by decide)) (hv.type_ne e (by decide))),
  h.below.trans (t.below (Nat.le_of_lt h.box.lt) (fun i hi=>nD i (by omega))),zbO h.parts t (nD _ (by have:=h.lo.1;omega)),h.lo⟩
theorem VoAt.setV {w W:World} {n0 g vb:Nat} {d:Dk} {dv:Nat→Value} {a b:Int} {cur cur2:Value} {ys ys2:List J} (h:VoAt w W n0 g vb d dv a b cur ys) (hv:n0<vb) (hc:DocX n0 W cur2 ys2):VoAt w (W.setCell ⟨vb,0,none⟩ cur2) n0 g vb d dv a b cur2 ys2:=by
 have t:zai (fun b=>b=vb) W (W.setCell ⟨vb,0,none⟩ cur2):=(zai.refl (fun b=>b=vb) W).set (p:=⟨vb,0,none⟩) (.inl rfl) cur2
 have n4:=zdm hc h.vbox (by decide)
 exact ⟨h.disk.stay t (fun b hb e=>h.disk.far h.vbox.heap (by decide) (by decide) (e ▸ hb)),h.box.turns t (by omega),(h.vbox.set_ 0 cur2).as rfl,hc.kept (zaD (World.grownBy.refl _ _) (.inl rfl) _) (.inr n4),h.below.setCell (p:=⟨vb,0,none⟩) (by show n0≤vb;omega) _,zbO h.parts t (by have:=h.lo.1;omega),h.lo⟩
theorem zqk {w:World} {base n:Nat} {u:Value} {xs:List J} (h:w.ownsRow base 83 22 u n (zaQ xs)) (hn:xs.length=n):DocX base w u xs:=by
 unfold DocX
 rw [hn]
 exact h
theorem VoAt.otherQ {w W:World} {n0 g vb q:Nat} {d:Dk} {dv:Nat→Value} {a b:Int} {cur:Value} {ys:List J} {cs:Array Value} (h:VoAt w W n0 g vb d dv a b cur ys) (hq:Blk W q 36 cs) (h1:n0<q) (h2:vb<q) (cs2:Array Value):VoAt w (W.setRow q cs2) n0 g vb d dv a b cur ys:=by
 have t:=zaN W q cs2
 exact ⟨h.disk.stay t (fun b hb e=>h.disk.far hq.heap (by decide) (by decide) (e ▸ hb)),h.box.turns t (by omega),h.vbox.turns t (by omega),zc8 h.doc t (fun b c fr e e2=>by
  have hh:=hq.heap
  subst e2
  rw [e] at hh
  injection hh with hh
  injection hh with _ hh _
  exact absurd hh (by decide)),zak h.below (by omega),zbO h.parts t (by have:=h.lo.1;omega),h.lo⟩
theorem _root_.Go.Proofs.YtnjdckoljmgcjaaGreatDoor.VAt.otherQ {W:World} {base v g:Nat} {cur gen:Int} {m x mi:Nat} {l:List J} {nl:List Nt} {q:Nat} {cs:Array Value} (h:VAt W base v g cur gen m x mi l nl) (hq:Blk W q 36 cs) (cs2:Array Value):VAt (W.setRow q cs2) base v g cur gen m x mi l nl:=by
 have h1:=h.type_ne hq.heap (by decide)
 refine h.stay (zaN W q cs2) ⟨fun e=>h1 (.inl e.symm),fun e=>h1 (.inr (.inl e.symm)),fun e=>?_,fun e=>h1 (.inr (.inr e.symm))⟩
 have hh:=hq.heap
 have hi:=h.ix.1
 unfold Blk at hi
 subst e
 rw [hi] at hh
 injection hh with hh
 injection hh with _ hh _
 exact absurd hh (by decide)
theorem zmY:zhd (picD 4096) []:=⟨rfl,rfl,rfl,zf4 (by decide) (by decide),rfl,rfl,rfl,fun x hx=>by simp at hx,by decide⟩
theorem zl0 {d:Dk} {F:List Nat} (ho:d.Ok) (hsz:d.sz=4096) (hd:d.dn=false) (ha:d.arm=false) (h0:d.l 0=F) (hs:d.s 0=F.length) (h1:d.l 1=[]) (hF:F.length≤3000) (h8:∀x∈F,x<256) :
  appD d 0 [5,1,2]=(putD d 0 [5,1,2],0)∧appD (putD d 0 [5,1,2]) 1 [5,1]=(putD (putD d 0 [5,1,2]) 1 [5,1],0)∧zcq F (putD (putD d 0 [5,1,2]) 1 [5,1])∧(putD (putD d 0 [5,1,2]) 1 [5,1]).dn=false∧(putD (putD d 0 [5,1,2]) 1 [5,1]).arm=false∧(putD d 0 [5,1,2]).Ok:=by
 have r0:((([5,1,2]:List Nat).length:Nat):Int)≤zcV d:=by unfold zcV;rw [hsz,h0,h1];simp;omega
 have e0:(putD d 0 [5,1,2]).l 0=F ++ [5,1,2]:=by show d.l 0 ++ [5,1,2]=_;rw [h0]
 have e1:(putD d 0 [5,1,2]).l 1=[]:=h1
 have o1:=ho.put (k:=0) (by decide) r0
 have r1:((([5,1]:List Nat).length:Nat):Int)≤zcV (putD d 0 [5,1,2]):=by
  unfold zcV
  rw [e0,e1]
  show _≤d.sz - _ - _
  rw [hsz]
  simp
  omega
 have a1:=zjo (k:=0) (by decide) hd ha r0
 have a2:=zjo (d:=putD d 0 [5,1,2]) (k:=1) (by decide) hd ha r1
 have f0:(putD (putD d 0 [5,1,2]) 1 [5,1]).l 0=F ++ [5,1,2]:=e0
 have f1:(putD (putD d 0 [5,1,2]) 1 [5,1]).l 1=[5,1]:=by show (putD d 0 [5,1,2]).l 1 ++ [5,1]=_;rw [e1];rfl
 exact ⟨a1,a2,⟨hsz,o1.put (by decide) r1,⟨[5,1,2],f0,by decide,by decide⟩,by show F.length≤d.s 0;rw [hs];exact Nat.le_refl _,by rw [f1];decide⟩,hd,ha,o1⟩
theorem zgi {w:World} {g:Nat} {d d':Dk} {dv:Nat→Value} {based:Nat} (h:zaj (w.alloc (.cells #[.int .u8 5,.int .u8 1,.int .u8 2] 5)) based g d dv) (h0:zaj w based g d' dv) :
  zd6 (OwnD g dv) (w.alloc (.cells #[.int .u8 5,.int .u8 1,.int .u8 2] 5)) (some ⟨w.heap.size,0,none⟩) [5,1,2]:=fun j x hj=>by
 refine ⟨w.heap.size,0,rfl,by simp,fun o=>by have:=(h0.own o).2;omega,?_⟩
 rw [(Blk.new w 5 _).cell]
 match j,hj with
 | 0,hj=>simp at hj;subst hj;rfl
 | 1,hj=>simp at hj;subst hj;rfl
 | 2,hj=>simp at hj;subst hj;rfl
theorem zgg {w:World} {g:Nat} {d d':Dk} {dv:Nat→Value} {based:Nat} (h:zaj (w.alloc (.cells #[.int .u8 5,.int .u8 1] 5)) based g d dv) (h0:zaj w based g d' dv) :
  zd6 (OwnD g dv) (w.alloc (.cells #[.int .u8 5,.int .u8 1] 5)) (some ⟨w.heap.size,0,none⟩) [5,1]:=fun j x hj=>by
 refine ⟨w.heap.size,0,rfl,by simp,fun o=>by have:=(h0.own o).2;omega,?_⟩
 rw [(Blk.new w 5 _).cell]
 match j,hj with
 | 0,hj=>simp at hj;subst hj;rfl
 | 1,hj=>simp at hj;subst hj;rfl
theorem walk (A:Option Addr) (xs:List J) (n ca:Nat) (B:Option Addr) (ns:List Int) (nb cb:Nat) (a b:Int) (w:World) (hn:xs.length=n) (hnb:ns.length=nb) (hA:zcw w A xs) (hB:zqC w B ns) (hX:∀x∈xs,PreJ x) (hN:∀x∈ns,x≤9223372036854775807) (hP:zad w) :
  Calls Tryz.prog 3 #[.slice A n ca,.slice B nb cb,.agg #[.int .i64 a,.int .i64 b]] w fun e w'=>e=.returned (.bool true)∧Below w.heap.size w w':=by
 have HN:=hid hn
 have HNB:=hid hnb
 have HA:=hid hA
 have HB:=hid hB
 have HX:=hid hX
 have HNs:=hid hN
 have HP:=hid hP
 clear hn hnb hA hB hX hN hP
 go_enter Tryz.func3,Tryz.ntmps3
 go_upto_region 1 with fail
 obtain ⟨W,hW⟩:∃X,w.alloc (.cells #[.int .i64 a,.int .i64 b] 24)=X:=⟨_,rfl⟩
 rw [hW]
 obtain ⟨K0,KB⟩:=za1 hW
 obtain ⟨n0,hn0⟩:∃k,w.heap.size=k:=⟨_,rfl⟩
 have HN0:=hid hn0
 rw [hn0] at K0
 rw [hn0]
 clear hW hn0
 have P0:=hid (HP.out.below KB.out)
 go_wp2_with fail
 with_reducible refine (zsu _ P0.out).mono ?_
 rintro e w1 ⟨rfl,hb⟩
 have B1:=hid (KB.out.trans (hb.mono KB.out.size))
 have K1:=hid (K0.out.below hb K0.out.lt)
 clear hb K0 KB P0
 have HBo:=hid (zm6 (.slice A n ca))
 have hw1:n0<w1.heap.size:=K1.out.lt
 obtain ⟨fv,hfv⟩:∃f,fitV xs=f:=⟨_,rfl⟩
 have HFV:=hid hfv
 have HFi:=hid (fun W hK hS=>zun w1.heap.size A xs n ca W hK HN.out hS)
 rw [hfv] at HFi
 clear hfv
 go_wp2_with (with_reducible refine zbj (o:=⟨some 24,_,_,_,_,_⟩) rfl 29 28 (.tmp 23) rfl _ rfl HBo.out ?_)
 with_reducible refine (HFi.out _ (Blk.new w1 _ _) (HA.out.below (B1.out.alloc B1.out.size _))).mono ?_
 rintro e w2 ⟨rfl,hb2⟩
 have B2:=hid ((B1.out.alloc B1.out.size (.cells #[.int .i64 0,.int .i64 0,.int .i64 0,.int .i64 0,.slice A n ca] 28)).trans (hb2.mono (by have:=B1.out.size;simp;omega)))
 have K2:=hid ((K1.out.alloc (.cells #[.int .i64 0,.int .i64 0,.int .i64 0,.int .i64 0,.slice A n ca] 28)).below hb2 (by have:=K1.out.lt;simp;omega))
 clear hb2 B1 K1 HFi HBo
 cases fv
 ·go_wp2
  go_ret
  exact ⟨rfl,(by first | exact B2.out | (rw [←HN0.out];exact B2.out))⟩
 by_cases hnb:nb≤10
 case neg =>
  have hnbi:(10:Int)<(nb:Int):=by omega
  go_wp2
  go_ret
  exact ⟨rfl,(by first | exact B2.out | (rw [←HN0.out];exact B2.out))⟩
 have hnbi:¬(10:Int)<(nb:Int):=by omega
 have HND:=hid (fun w=>zkj 4096 w (by decide) (by decide))
 have hn6:n≤6:=by have:=(zpL HFV.out).1;rw [HN.out] at this;exact this
 have HAny:=hid (ztU HFV.out HX.out)
 go_wp2_with fail
 with_reducible refine (HND.out _).mono ?_
 rintro e w3 ⟨rfl,D,hb3⟩
 have hlt2:n0<w2.heap.size:=K2.out.lt
 have P3:=hid ((HP.out.below B2.out).below hb3)
 have B3:=hid (B2.out.trans (hb3.mono B2.out.size))
 have K3:=hid (K2.out.below hb3 K2.out.lt)
 obtain ⟨g,hg⟩:∃k,w2.heap.size=k:=⟨_,rfl⟩
 rw [hg] at D hlt2
 rw [hg]
 have D3:=hid D
 clear D hb3 B2 K2 HND hg
 go_upto_region 9 with fail
 obtain ⟨W4,hW4⟩:∃X,w3.alloc (.cells #[.slice none 0 0] 36)=X:=⟨_,rfl⟩
 rw [hW4]
 obtain ⟨K4,KB4⟩:=za1 hW4
 obtain ⟨vb,hvb⟩:∃k,w3.heap.size=k:=⟨_,rfl⟩
 rw [hvb] at K4
 rw [hvb]
 have hpl:0<n0:=by rw [←HN0.out];exact HP.out.lt
 have hgv:g<vb:=by rw [←hvb];exact D3.out.lt
 have A4:Hid (VoAt w W4 n0 g vb (newD 4096) noV a b (.slice none 0 0) []):=hid ⟨D3.out.on KB4.out,K3.out.below KB4.out K3.out.lt,K4.out,World.ownsRow_nil _ _ _ _,by rw [←HN0.out];exact B3.out.trans (KB4.out.mono B3.out.size),P3.out.below KB4.out,hpl,hlt2⟩
 clear hW4 hvb K4 KB4 K3 B3 P3 D3
 have HO:=hid (zg2 g g (newD 4096) noV W4 A4.out.disk (zjx (by decide) (by decide)) rfl rfl rfl rfl (by show (100:Int)≤4096;decide) A4.out.parts (by omega))
 go_wp2_with fail
 with_reducible refine HO.out.mono ?_
 rintro e w5 ⟨v,m,x,mi,dv5,rfl,hv,hd⟩
 have A5:Hid (VoAt w w5 n0 g vb (picD 4096) dv5 a b (.slice none 0 0) []):=hid (A4.out.did hd.disk hd.turns)
 have V5:=hid (hv.lower (base':=vb) (by have:=A4.out.vbox.lt;omega))
 clear hv hd HO A4
 have HAl:=hid (fun w' (h:zcw w' A xs)=>zvm A xs n ca w' HN.out (by omega) h)
 have HSA:=hid (fun (W':World) (hb:Below n0 w W')=>HA.out.below (by rw [HN0.out];exact hb))
 have LV0:=hid (zkS (.slice none 0 0))
 have A6:=hid (A5.out.on (zag (Below.refl _ _)))
 have V6:=hid V5.out.drew
 clear A5 V5
 go_upto_region 12 with fail
 have HWr:=hid (fun base Au cu w' (h:DocX base w' (.slice Au n cu) xs)=>zjB base Au xs n cu w' h HN.out (by omega) HAny.out)
 obtain ⟨mv,hmv⟩:∃b,mayV [] xs=b:=⟨_,rfl⟩
 have HMv:=hid hmv
 unfold zpg at HWr
 rw [hmv] at HWr
 clear hmv
 go_cut [12,13] from 54 (fun c12 c13 wc=>∃(q12:Nat) (cur:Value),c12=.pointer (some ⟨q12,0,none⟩)∧c13=.bool mv∧Hid (VoAt w wc n0 g vb (picD 4096) dv5 a b (.slice none 0 0) [])∧Hid (zbZ wc vb v g 0 1 m x mi [])∧Hid (Blk wc q12 36 #[cur])∧Hid (DocX n0 wc cur (if mv=true then xs else []))∧Hid (vb<q12))
 case first =>
  refine wp_region_held_drew (S:=fun w'=>Blk w' vb 36 #[.slice none 0 0]) (by kernel_rfl) (by exact A6.out.vbox) (fun hHeld=>?_)
  refine tk 0 (.agg (#[.slice none 0 0])) rfl (fun _ _ _ h=>h) (za4 (by kernel_rfl) 36 (.tmp 9) rfl vb rfl 36 (#[.slice none 0 0]) (0,0) _ (fun _ h=>Blk.heap h) Tryz.underlying36 rfl LV0.out) hHeld ?_
  try simp only [Act.put,g1,g2,g3,g4,g5,g6]
  refine ta 1 rfl hHeld ?_
  try simp only [Act.put,g1,g2,g3,g4,g5,g6]
  refine wpAnyH_ready (rs:=[2,7]) (by kernel_rfl) (by simp) ?_
  refine AllReadyH.cons (o:=_) rfl (fun K hK=>?_) (AllReadyH.cons (o:=_) rfl (fun K hK=>?_) AllReadyH.nil)
  ·go_simp
   go_at_call 9
   refine (HAl.out _ (HSA.out _ A6.out.below)).mono ?_
   rintro e w10 ⟨u7,rfl,hr7,hb⟩
   have A10:=hid (A6.out.on hb)
   have V10:=hid (V6.out.on hb)
   have R10:=hid hr7
   clear hr7 hb
   refine hK.out _ _ (by exact A10.out.vbox) (fun hHeld=>?_)
   clear hK K
   try simp only [Act.put,g1,g2,g3,g4,g5,g6]
   refine wpAnyH_ready (rs:=[3,7]) (by kernel_rfl) (by simp) ?_
   refine AllReadyH.cons (o:=_) rfl (fun K hK=>?_) (AllReadyH.cons (o:=_) rfl (fun K hK=>?_) AllReadyH.nil)
   ·obtain ⟨Au,cu,rfl,_,_⟩:=zaM R10.out
    have HDx:=hid (zqk R10.out HN.out)
    have hlo:=A10.out.box.lt
    go_simp
    go_at_call 8
    refine (HWr.out _ Au cu _ HDx.out).mono ?_
    rintro e w11 ⟨cur,rfl,hc,hb⟩
    have A11:=hid (A10.out.on hb)
    have V11:=hid (V10.out.on hb)
    have C11:Hid (DocX n0 w11 cur (if mv=true then xs else [])):=hid (za3 hc (Nat.le_of_lt hlo))
    clear hc hb HDx
    refine hK.out _ _ (by exact A11.out.vbox) (fun hHeld=>?_)
    clear hK K
    try simp only [Act.put,g1,g2,g3,g4,g5,g6]
    refine ta 4 rfl hHeld ?_
    refine ta 5 rfl hHeld ?_
    refine ta 6 rfl hHeld ?_
    try simp only [Act.put,g1,g2,g3,g4,g5,g6]
    refine wpAnyH_ready (rs:=[7]) (by kernel_rfl) (by simp) ?_
    refine AllReadyH.cons (o:=_) rfl (fun K hK=>?_) AllReadyH.nil
    go_simp
    have hq12:=A11.out.vbox.lt
    have A12:=hid (A11.out.on ((Below.refl (w11).heap.size (w11)).alloc (Nat.le_refl _) (.cells #[.slice none 0 0] 36)))
    have C12:=hid (C11.out.on ((Below.refl (w11).heap.size (w11)).alloc (Nat.le_refl _) (.cells #[.slice none 0 0] 36)))
    have V12:=hid (V11.out.on ((Below.refl (w11).heap.size (w11)).alloc (Nat.le_refl _) (.cells #[.slice none 0 0] 36)))
    have Q12:=hid (Blk.new (w11) 36 #[.slice none 0 0])
    refine hK.out _ _ (by exact A12.out.vbox) (fun hHeld=>?_)
    clear hK K
    try simp only [Act.put,g1,g2,g3,g4,g5,g6]
    obtain ⟨Bc,cc,hcur,_,_⟩:=zaM C12.out
    have LVc:=hid (zkS (.slice Bc (if mv=true then xs else []).length cc))
    rw [←hcur] at LVc
    refine wpAnyH_ready (rs:=[8]) (by kernel_rfl) (by simp) ?_
    refine AllReadyH.cons (o:=_) rfl (fun K hK=>?_) AllReadyH.nil
    refine zbk (by kernel_rfl) 36 (.tmp 12) (.tmp 58) rfl w11.heap.size #[cur] rfl rfl 36 #[.slice none 0 0] Q12.out.heap LVc.out rfl (by rw [hcur];simp [Value.oneCell']) ?_
    have A30:=hid (A12.out.otherQ Q12.out (by have:=A12.out.lo;show n0<w11.heap.size;have:=hq12;omega) (show vb<w11.heap.size from hq12) #[cur])
    have V30:=hid (V12.out.otherQ Q12.out #[cur])
    have C30:=hid (zc8 C12.out (zaN _ _ #[cur]) (fun b cs fr e e2=>by have h:=Q12.out.heap;subst e2;rw [e] at h;injection h with h;injection h with _ h _;exact absurd h (by decide)))
    have Q30:=hid (Blk.rowAt (cs':=#[cur]) Q12.out)
    refine hK.out _ _ (by exact A30.out.vbox) (fun hHeld=>?_)
    clear hK K
    try simp only [Act.put,g1,g2,g3,g4,g5,g6]
    refine ta 9 rfl hHeld ?_
    try simp only [Act.put,g1,g2,g3,g4,g5,g6]
    refine wpAnyH_done (by kernel_rfl) ?_ _
    clear hHeld hcur LVc
    go_wp2
    go_meet
    case rel=>exact ⟨_,_,rfl,rfl,A30,V30,Q30,C30,hid hq12⟩
   ·go_simp
    have hq13:=A10.out.vbox.lt
    have A13:=hid (A10.out.on ((Below.refl (w10).heap.size (w10)).alloc (Nat.le_refl _) (.cells #[.slice none 0 0] 36)))
    have R13:=hid (zcc R10.out ((Below.refl (w10).heap.size (w10)).alloc (Nat.le_refl _) (.cells #[.slice none 0 0] 36)))
    have V13:=hid (V10.out.on ((Below.refl (w10).heap.size (w10)).alloc (Nat.le_refl _) (.cells #[.slice none 0 0] 36)))
    have Q13:=hid (Blk.new (w10) 36 #[.slice none 0 0])
    refine hK.out _ _ (by exact A13.out.vbox) (fun hHeld=>?_)
    clear hK K
    try simp only [Act.put,g1,g2,g3,g4,g5,g6]
    refine wpAnyH_ready (rs:=[3]) (by kernel_rfl) (by simp) ?_
    refine AllReadyH.cons (o:=_) rfl (fun K hK=>?_) AllReadyH.nil
    obtain ⟨Au,cu,rfl,_,_⟩:=zaM R13.out
    have HDx:=hid (zqk R13.out HN.out)
    have hlo:=A13.out.box.lt
    go_simp
    go_at_call 8
    refine (HWr.out _ Au cu _ HDx.out).mono ?_
    rintro e w14 ⟨cur,rfl,hc,hb⟩
    have A14:=hid (A13.out.on hb)
    have Q14:=hid (Q13.out.below hb Q13.out.lt)
    have V14:=hid (V13.out.on hb)
    have C14:Hid (DocX n0 w14 cur (if mv=true then xs else [])):=hid (za3 hc (Nat.le_of_lt hlo))
    clear hc hb HDx
    refine hK.out _ _ (by exact A14.out.vbox) (fun hHeld=>?_)
    clear hK K
    try simp only [Act.put,g1,g2,g3,g4,g5,g6]
    refine ta 4 rfl hHeld ?_
    refine ta 5 rfl hHeld ?_
    refine ta 6 rfl hHeld ?_
    try simp only [Act.put,g1,g2,g3,g4,g5,g6]
    obtain ⟨Bc,cc,hcur,_,_⟩:=zaM C14.out
    have LVc:=hid (zkS (.slice Bc (if mv=true then xs else []).length cc))
    rw [←hcur] at LVc
    refine wpAnyH_ready (rs:=[8]) (by kernel_rfl) (by simp) ?_
    refine AllReadyH.cons (o:=_) rfl (fun K hK=>?_) AllReadyH.nil
    refine zbk (by kernel_rfl) 36 (.tmp 12) (.tmp 58) rfl w10.heap.size #[cur] rfl rfl 36 #[.slice none 0 0] Q14.out.heap LVc.out rfl (by rw [hcur];simp [Value.oneCell']) ?_
    have A30:=hid (A14.out.otherQ Q14.out (by have:=A14.out.lo;show n0<w10.heap.size;have:=hq13;omega) (show vb<w10.heap.size from hq13) #[cur])
    have V30:=hid (V14.out.otherQ Q14.out #[cur])
    have C30:=hid (zc8 C14.out (zaN _ _ #[cur]) (fun b cs fr e e2=>by have h:=Q14.out.heap;subst e2;rw [e] at h;injection h with h;injection h with _ h _;exact absurd h (by decide)))
    have Q30:=hid (Blk.rowAt (cs':=#[cur]) Q14.out)
    refine hK.out _ _ (by exact A30.out.vbox) (fun hHeld=>?_)
    clear hK K
    try simp only [Act.put,g1,g2,g3,g4,g5,g6]
    refine ta 9 rfl hHeld ?_
    try simp only [Act.put,g1,g2,g3,g4,g5,g6]
    refine wpAnyH_done (by kernel_rfl) ?_ _
    clear hHeld hcur LVc
    go_wp2
    go_meet
    case rel=>exact ⟨_,_,rfl,rfl,A30,V30,Q30,C30,hid hq13⟩
  ·go_simp
   have hq15:=A6.out.vbox.lt
   have A15:=hid (A6.out.on ((Below.refl (w5.drew).heap.size (w5.drew)).alloc (Nat.le_refl _) (.cells #[.slice none 0 0] 36)))
   have V15:=hid (V6.out.on ((Below.refl (w5.drew).heap.size (w5.drew)).alloc (Nat.le_refl _) (.cells #[.slice none 0 0] 36)))
   have Q15:=hid (Blk.new (w5.drew) 36 #[.slice none 0 0])
   refine hK.out _ _ (by exact A15.out.vbox) (fun hHeld=>?_)
   clear hK K
   try simp only [Act.put,g1,g2,g3,g4,g5,g6]
   refine wpAnyH_ready (rs:=[2]) (by kernel_rfl) (by simp) ?_
   refine AllReadyH.cons (o:=_) rfl (fun K hK=>?_) AllReadyH.nil
   go_simp
   go_at_call 9
   refine (HAl.out _ (HSA.out _ A15.out.below)).mono ?_
   rintro e w16 ⟨u7,rfl,hr7,hb⟩
   have A16:=hid (A15.out.on hb)
   have Q16:=hid (Q15.out.below hb Q15.out.lt)
   have V16:=hid (V15.out.on hb)
   have R16:=hid hr7
   clear hr7 hb
   refine hK.out _ _ (by exact A16.out.vbox) (fun hHeld=>?_)
   clear hK K
   try simp only [Act.put,g1,g2,g3,g4,g5,g6]
   refine wpAnyH_ready (rs:=[3]) (by kernel_rfl) (by simp) ?_
   refine AllReadyH.cons (o:=_) rfl (fun K hK=>?_) AllReadyH.nil
   obtain ⟨Au,cu,rfl,_,_⟩:=zaM R16.out
   have HDx:=hid (zqk R16.out HN.out)
   have hlo:=A16.out.box.lt
   go_simp
   go_at_call 8
   refine (HWr.out _ Au cu _ HDx.out).mono ?_
   rintro e w17 ⟨cur,rfl,hc,hb⟩
   have A17:=hid (A16.out.on hb)
   have Q17:=hid (Q16.out.below hb Q16.out.lt)
   have V17:=hid (V16.out.on hb)
   have C17:Hid (DocX n0 w17 cur (if mv=true then xs else [])):=hid (za3 hc (Nat.le_of_lt hlo))
   clear hc hb HDx
   refine hK.out _ _ (by exact A17.out.vbox) (fun hHeld=>?_)
   clear hK K
   try simp only [Act.put,g1,g2,g3,g4,g5,g6]
   refine ta 4 rfl hHeld ?_
   refine ta 5 rfl hHeld ?_
   refine ta 6 rfl hHeld ?_
   try simp only [Act.put,g1,g2,g3,g4,g5,g6]
   obtain ⟨Bc,cc,hcur,_,_⟩:=zaM C17.out
   have LVc:=hid (zkS (.slice Bc (if mv=true then xs else []).length cc))
   rw [←hcur] at LVc
   refine wpAnyH_ready (rs:=[8]) (by kernel_rfl) (by simp) ?_
   refine AllReadyH.cons (o:=_) rfl (fun K hK=>?_) AllReadyH.nil
   refine zbk (by kernel_rfl) 36 (.tmp 12) (.tmp 58) rfl w5.drew.heap.size #[cur] rfl rfl 36 #[.slice none 0 0] Q17.out.heap LVc.out rfl (by rw [hcur];simp [Value.oneCell']) ?_
   have A30:=hid (A17.out.otherQ Q17.out (by have:=A17.out.lo;show n0<w5.drew.heap.size;have:=hq15;omega) (show vb<w5.drew.heap.size from hq15) #[cur])
   have V30:=hid (V17.out.otherQ Q17.out #[cur])
   have C30:=hid (zc8 C17.out (zaN _ _ #[cur]) (fun b cs fr e e2=>by have h:=Q17.out.heap;subst e2;rw [e] at h;injection h with h;injection h with _ h _;exact absurd h (by decide)))
   have Q30:=hid (Blk.rowAt (cs':=#[cur]) Q17.out)
   refine hK.out _ _ (by exact A30.out.vbox) (fun hHeld=>?_)
   clear hK K
   try simp only [Act.put,g1,g2,g3,g4,g5,g6]
   refine ta 9 rfl hHeld ?_
   try simp only [Act.put,g1,g2,g3,g4,g5,g6]
   refine wpAnyH_done (by kernel_rfl) ?_ _
   clear hHeld hcur LVc
   go_wp2
   go_meet
   case rel=>exact ⟨_,_,rfl,rfl,A30,V30,Q30,C30,hid hq15⟩
 case rest =>
  obtain ⟨q12,cur1,rfl,rfl,HA1,HV1,HQ1,HC1,hq1⟩:=hcut
  cases mv with
  | false =>
   have LG:Hid (zhd (picD 4096) []):=hid zmY
   have AT:=HA1
   clear HV1 HQ1 HC1
   obtain ⟨ys,hys⟩:∃y:List J,y=[]:=⟨_,rfl⟩
   obtain ⟨cur,hcur⟩:∃y:Value,y=.slice none 0 0:=⟨_,rfl⟩
   obtain ⟨d,hd⟩:∃y:Dk,y=picD 4096:=⟨_,rfl⟩
   obtain ⟨dv,hdv⟩:∃y:Nat→Value,y=dv5:=⟨_,rfl⟩
   rw [←hys,←hd] at LG
   rw [←hys,←hcur,←hd,←hdv] at AT
   clear hys hcur hd hdv HWr HAl
   go_upto_region 15 with fail
   have F0:Hid (zaf (logR ys)=zaf (logR ys)):=hid rfl
   have hF:(zaf (logR ys)).length≤3000:=by
    have h1:=LG.out.len
    have h2:=zeE LG.out.good
    have h3:=zdE
    have e:zaf (logR ys)=picN ++ zaf (ys.map zbe):=by
     unfold picN logR
     rw [←zb8]
     rfl
    rw [e,List.length_append]
    omega
   have HFb:Hid (∀x∈zaf (logR ys),x<256):=hid (zeq (zj0 LG.out.good))
   obtain ⟨F,hFe⟩:∃F,zaf (logR ys)=F:=⟨_,rfl⟩
   have HFe:=hid hFe
   have hl0:=LG.out.l0
   have hs0:=LG.out.s0
   have hl1:=LG.out.l1
   rw [hFe] at hF HFb hl0 hs0
   have HL:=hid (And.intro hl0 (And.intro hs0 hl1))
   clear hFe hl0 hs0 hl1 F0
   obtain ⟨g1,g2,g3,g4,g5,g6⟩:=zl0 LG.out.ok LG.out.sz LG.out.dn LG.out.arm HL.out.1 HL.out.2.1 HL.out.2.2 hF HFb.out
   have HG2:=hid g3
   have HAp0:=hid (fun (W:World) (h:VoAt w W n0 g vb d dv a b cur ys) bb hA=>zdZ g g d dv 0 (some ⟨bb,0,none⟩) [5,1,2] 3 3 W h.disk LG.out.ok rfl (fun h=>by cases h) (by decide) (by decide) hA)
   rw [g1] at HAp0
   have HAp1:=hid (fun (dv':Nat→Value) (W:World) (h:VoAt w W n0 g vb (putD d 0 [5,1,2]) dv' a b cur ys) bb hA=>zdZ g g (putD d 0 [5,1,2]) dv' 1 (some ⟨bb,0,none⟩) [5,1] 2 2 W h.disk g6 rfl (fun h=>by cases h) (by decide) (by decide) hA)
   rw [g2] at HAp1
   have HDn:=hid (And.intro g4 g5)
   obtain ⟨d2,hd2⟩:∃y,putD (putD d 0 [5,1,2]) 1 [5,1]=y:=⟨_,rfl⟩
   rw [hd2] at HG2 HAp1 HDn
   clear g1 g2 g3 g4 g5 g6 hd2
   go_wp2_with fail
   have T1:=hid (AT.out.on ((Below.refl _ _).alloc (Nat.le_refl _) (.cells #[.int .u8 5,.int .u8 1,.int .u8 2] 5)))
   with_reducible refine (HAp0.out _ T1.out _ (zgi T1.out.disk AT.out.disk)).mono ?_
   intro e w20 h20
   obtain ⟨rfl,dv20,a20⟩:=T1.out.does h20
   have T2:=hid a20
   clear h20 a20 T1 AT HAp0
   go_wp2_with fail
   have T3:=hid (T2.out.on ((Below.refl _ _).alloc (Nat.le_refl _) (.cells #[.int .u8 5,.int .u8 1] 5)))
   with_reducible refine (HAp1.out _ _ T3.out _ (zgg T3.out.disk T2.out.disk)).mono ?_
   intro e w21 h21
   obtain ⟨rfl,dv21,a21⟩:=T3.out.does h21
   have T4:=hid a21
   clear h21 a21 T3 T2 HAp1
   go_wp2
   go_loopw [76] (fun iv wr=>∃(j:Nat) (d:Dk) (dv:Nat→Value),j≤nb∧iv=.int .i64 (j:Int)∧Hid (VoAt w wr n0 g vb d dv a b cur ys)∧Hid (zcq F d)∧Hid (d.dn=false∧d.arm=false)) (fun iv _=>nb - (intOf iv).toNat)
   case atStart=>exact ⟨0,d2,dv21,Nat.zero_le _,rfl,T4,HG2,HDn⟩
   case round =>
    clear T4 HG2 HDn
    obtain ⟨j,dj,dvj,hj,rfl,HV,HGd,HDm⟩:=hrel
    by_cases hlt:j<nb
    ·have hltn:j<ns.length:=by rw [HNB.out];exact hlt
     have hlti:(j:Int)<(nb:Int):=by omega
     obtain ⟨b1,o1,rfl,hb1,hc1⟩:=(HB.out.below HN0.out.symm HV.out.below) j ns[j] (List.getElem?_eq_getElem hltn)
     have hnx:=HNs.out _ (List.getElem_mem hltn)
     obtain ⟨y,hy⟩:∃y,ns[j]=y:=⟨_,rfl⟩
     rw [hy] at hc1 hnx
     have HArm:=hid (fun (W:World) (h:VoAt w W n0 g vb dj dvj a b cur ys)=>zpk g g dj dvj y W h.disk)
     have G1:=hid (HGd.out.arm hnx)
     have DN1:Hid ((armD dj y).dn=false):=hid HDm.out.1
     clear hy hnx HGd HDm
     go_wp2_with fail
     with_reducible refine (HArm.out _ HV.out).mono ?_
     intro e w30 h30
     obtain ⟨rfl,dv30,a30⟩:=HV.out.does h30
     have U1:=hid a30
     clear h30 a30 HV HArm hc1 hb1
     obtain ⟨da,hda⟩:∃y',armD dj y=y':=⟨_,rfl⟩
     rw [hda] at G1 DN1 U1
     clear hda
     obtain ⟨t,q1,q2,q3⟩:=G1.out.l0
     have HOp:=hid (zen g g da dv30 ys t (da.l 1) w30 U1.out.disk G1.out.ok U1.out.parts LG.out.good (by have:=LG.out.len;omega) (zch (by omega)) (zch (by have:=G1.out.l1.1;omega)) (by rw [HFe.out];exact q1) rfl (by rw [q1];intro y hy;rcases List.mem_append.1 hy with hy | hy;exact HFb.out y hy;exact q3 y hy) G1.out.l1.2 (by rw [q1,List.length_append];omega) (by have:=G1.out.l1.1;omega))
     rw [HFe.out] at HOp
     obtain ⟨i1,i2,i3,i4⟩:=G1.out.tidy DN1.out
     obtain ⟨d3,hd3⟩:∃y,(zco da F.length).1=y:=⟨_,rfl⟩
     obtain ⟨e3,he3⟩:∃y,(zco da F.length).2=y:=⟨_,rfl⟩
     rw [hd3,he3] at HOp
     rw [hd3] at i1 i4
     rw [he3] at i2 i3 i4
     have I1:=hid i1
     have I4:=hid i4
     clear q1 q2 q3 i1 i4 hd3 he3
     clear i3
     go_wp2_with fail
     with_reducible refine HOp.out.mono ?_
     intro e w31 h31
     rcases i2 with h0 | h4
     ·obtain ⟨v2,m2,x2,mi2,dv31,rfl,_,hd31⟩:=h31.1 h0
      have U2:=hid (U1.out.did hd31.disk hd31.turns)
      have HCr:=hid (fun (W:World) (h:VoAt w W n0 g vb d3 dv31 a b cur ys)=>zfn g g d3 dv31 a b W h.disk I1.out.ok)
      obtain ⟨⟨k0,k1⟩,_,_⟩:=blkn U2.out.box
      subst h0
      clear h31 hd31 U1 HOp G1 DN1 I4
      go_wp2_with fail
      with_reducible refine (HCr.out _ U2.out).mono ?_
      intro e w32 h32
      obtain ⟨rfl,dv32,a32⟩:=U2.out.does h32
      have U3:=hid a32
      have G3:=hid (I1.out.crash a b)
      have DN3:=hid (zgu d3 a b)
      clear h32 a32 U2 HCr k0 k1
      go_wp2
      go_roundw
      case rel=>exact ⟨j+1,zeC d3 a b,dv32,by omega,by go_num,U3,G3,DN3⟩
      case measure=>simp only [intOf];omega
     ·obtain ⟨dv31,rfl,hd31⟩:=h31.2 (by rw [h4];decide)
      have U2:=hid (U1.out.did hd31.disk hd31.turns)
      have HCr:=hid (fun (W:World) (h:VoAt w W n0 g vb d3 dv31 a b cur ys)=>zfn g g d3 dv31 a b W h.disk I1.out.ok)
      obtain ⟨⟨k0,k1⟩,_,_⟩:=blkn U2.out.box
      subst h4
      clear h31 hd31 U1 HOp G1 DN1 I4
      go_wp2_with fail
      with_reducible refine (HCr.out _ U2.out).mono ?_
      intro e w32 h32
      obtain ⟨rfl,dv32,a32⟩:=U2.out.does h32
      have U3:=hid a32
      have G3:=hid (I1.out.crash a b)
      have DN3:=hid (zgu d3 a b)
      clear h32 a32 U2 HCr k0 k1
      go_wp2
      go_roundw
      case rel=>exact ⟨j+1,zeC d3 a b,dv32,by omega,by go_num,U3,G3,DN3⟩
      case measure=>simp only [intOf];omega
    ·have hnj:¬(j:Int)<(nb:Int):=by omega
     have U1:=HV
     have G1:=HGd
     obtain ⟨t,q1,q2,q3⟩:=G1.out.l0
     have HOp:=hid (zen g g dj dvj ys t (dj.l 1) wr U1.out.disk G1.out.ok U1.out.parts LG.out.good (by have:=LG.out.len;omega) (zch (by omega)) (zch (by have:=G1.out.l1.1;omega)) (by rw [HFe.out];exact q1) rfl (by rw [q1];intro y hy;rcases List.mem_append.1 hy with hy | hy;exact HFb.out y hy;exact q3 y hy) G1.out.l1.2 (by rw [q1,List.length_append];omega) (by have:=G1.out.l1.1;omega))
     rw [HFe.out] at HOp
     obtain ⟨i1,i2,i3,i4⟩:=G1.out.tidy HDm.out.1
     obtain ⟨d3,hd3⟩:∃y,(zco dj F.length).1=y:=⟨_,rfl⟩
     obtain ⟨e3,he3⟩:∃y,(zco dj F.length).2=y:=⟨_,rfl⟩
     rw [hd3,he3] at HOp
     rw [hd3] at i1 i4
     rw [he3] at i2 i3 i4
     have I1:=hid i1
     have I4:=hid i4
     clear q1 q2 q3 i1 i4 hd3 he3
     have he0:=i3 HDm.out.2
     subst he0
     have HOp2:=hid (HOp.out.mono fun e w' h=>h.1 rfl)
     clear HOp i2 i3 HV HGd
     go_wp2_with fail
     with_reducible refine HOp2.out.mono ?_
     rintro e w31 ⟨v2,m2,x2,mi2,dv31,rfl,hv31,hd31⟩
     have U2:=hid (U1.out.did hd31.disk hd31.turns)
     have V2:=hid hv31
     have L1:=hid (I4.out (by simp))
     have HSm:=hid (zkr _ v2 g 0 1 m2 x2 mi2 ys n0 cur w31 V2.out U2.out.doc LG.out.good (by have:=LG.out.len;omega) U2.out.parts)
     have HRd:=hid (fun (W:World) (h:VoAt w W n0 g vb d3 dv31 a b cur ys)=>zgC g g d3 dv31 1 1 W h.disk I1.out.ok rfl (by decide))
     rw [L1.out] at HRd
     have kv:w31.cell? ⟨vb,0,none⟩=some cur:=(U2.out.vbox.cell 0).trans rfl
     clear hv31 hd31 U1 HOp2 G1 I4
     go_wp2_with fail
     with_reducible refine HSm.out.mono ?_
     rintro e w32 ⟨rfl,hb32⟩
     have U3:=hid (U2.out.on hb32)
     clear hb32 HSm kv
     go_wp2_with fail
     with_reducible refine (HRd.out _ U3.out).mono ?_
     rintro e w33 ⟨s,rfl,hown,hb33⟩
     obtain ⟨A0,c0,rfl⟩:=zcJ hown
     have U4:=hid (U3.out.on hb33)
     clear hown hb33 HRd U3 U2
     go_wp2
     go_ret
     exact ⟨rfl,by rw [HN0.out];exact U4.out.below⟩
  | true =>
   rw [if_pos rfl] at HC1
   have HGs:Hid (∀x∈xs,zbv x):=hid (fun x hx=>(HAny.out x hx).good (zit HMv.out x hx))
   have LG:Hid (zhd (zf8 (picD 4096) xs) xs):=hid (zkn HGs.out (by rw [HN.out];exact hn6))
   have HWt:=hid (znp vb v g g m x mi (picD 4096) dv5 A xs n ca wc HV1.out HA1.out.disk (zf4 (by decide) (by decide)) rfl rfl rfl (by rw [zhG];exact zdE) rfl HN.out hn6 (HSA.out _ HA1.out.below) (fun bb oo e hne=>by
    obtain ⟨b',o',e',hb',_⟩:=HA.out 0 (xs[0]'(List.length_pos_iff.2 hne)) (List.getElem?_eq_getElem _)
    rw [e] at e'
    injection e' with e'
    injection e' with e'
    have h0:=HN0.out
    have h1:=HA1.out.lo.2
    omega) HAny.out HA1.out.parts (by have:=HA1.out.lo;omega) (by have:=HA1.out.lo;omega))
   rw [HMv.out,if_pos rfl,if_pos rfl,if_pos rfl] at HWt
   clear HWr HAl
   go_wp2_with fail
   with_reducible refine HWt.out.mono ?_
   rintro e w40 ⟨rfl,_,dv40,hd40,ht40,_⟩
   have A2:Hid (VoAt w w40 n0 g vb (zf8 (picD 4096) xs) dv40 a b (.slice none 0 0) []):=hid (HA1.out.didV HV1.out (by have:=HA1.out.lo;omega) hd40 ht40)
   have Q2:=hid (HQ1.out.turns ht40 (fun e=>e.elim (HA1.out.disk.far HQ1.out.heap (by decide) (by decide)) (HV1.out.type_ne HQ1.out.heap (by decide))))
   have C2:=hid (zc8 HC1.out ht40 (fun b cs fr e e2=>e2.elim (HA1.out.disk.far e (by decide) (by decide)) (HV1.out.type_ne e (by decide))))
   obtain ⟨Bc,cc,rfl,_,_⟩:=zaM C2.out
   have A3:=hid (A2.out.setV (cur2:=.slice Bc xs.length cc) (ys2:=xs) (by have:=A2.out.lo;omega) C2.out)
   have kq:w40.cell? ⟨q12,0,none⟩=some (.slice Bc xs.length cc):=(Q2.out.cell 0).trans rfl
   have kv:w40.cell? ⟨vb,0,none⟩=some (.slice none 0 0):=(A2.out.vbox.cell 0).trans rfl
   have fv:=A2.out.vbox.frozen 0
   clear hd40 ht40 HWt HA1 HV1 HQ1 HC1 A2 Q2 C2
   go_upto_region 15 with fail
   obtain ⟨wD,hwD⟩:∃y,w40.setCell ⟨vb,0,none⟩ (.slice Bc xs.length cc)=y:=⟨_,rfl⟩
   rw [hwD] at A3
   rw [hwD]
   clear hwD kq kv fv
   obtain ⟨ys,hys⟩:∃y:List J,y=xs:=⟨_,rfl⟩
   obtain ⟨cur,hcur⟩:∃y:Value,y=.slice Bc xs.length cc:=⟨_,rfl⟩
   obtain ⟨d,hd⟩:∃y:Dk,y=zf8 (picD 4096) xs:=⟨_,rfl⟩
   obtain ⟨dv,hdv⟩:∃y:Nat→Value,y=dv40:=⟨_,rfl⟩
   have LG2:Hid (zhd d ys):=hid (by rw [hys,hd];exact LG.out)
   have AT:Hid (VoAt w wD n0 g vb d dv a b cur ys):=hid (by rw [hys,hd,hdv,hcur];exact A3.out)
   clear LG A3 hys hcur hd hdv
   have LG:=LG2
   clear LG2
   have F0:Hid (zaf (logR ys)=zaf (logR ys)):=hid rfl
   have hF:(zaf (logR ys)).length≤3000:=by
    have h1:=LG.out.len
    have h2:=zeE LG.out.good
    have h3:=zdE
    have e:zaf (logR ys)=picN ++ zaf (ys.map zbe):=by
     unfold picN logR
     rw [←zb8]
     rfl
    rw [e,List.length_append]
    omega
   have HFb:Hid (∀x∈zaf (logR ys),x<256):=hid (zeq (zj0 LG.out.good))
   obtain ⟨F,hFe⟩:∃F,zaf (logR ys)=F:=⟨_,rfl⟩
   have HFe:=hid hFe
   have hl0:=LG.out.l0
   have hs0:=LG.out.s0
   have hl1:=LG.out.l1
   rw [hFe] at hF HFb hl0 hs0
   have HL:=hid (And.intro hl0 (And.intro hs0 hl1))
   clear hFe hl0 hs0 hl1 F0
   obtain ⟨g1,g2,g3,g4,g5,g6⟩:=zl0 LG.out.ok LG.out.sz LG.out.dn LG.out.arm HL.out.1 HL.out.2.1 HL.out.2.2 hF HFb.out
   have HG2:=hid g3
   have HAp0:=hid (fun (W:World) (h:VoAt w W n0 g vb d dv a b cur ys) bb hA=>zdZ g g d dv 0 (some ⟨bb,0,none⟩) [5,1,2] 3 3 W h.disk LG.out.ok rfl (fun h=>by cases h) (by decide) (by decide) hA)
   rw [g1] at HAp0
   have HAp1:=hid (fun (dv':Nat→Value) (W:World) (h:VoAt w W n0 g vb (putD d 0 [5,1,2]) dv' a b cur ys) bb hA=>zdZ g g (putD d 0 [5,1,2]) dv' 1 (some ⟨bb,0,none⟩) [5,1] 2 2 W h.disk g6 rfl (fun h=>by cases h) (by decide) (by decide) hA)
   rw [g2] at HAp1
   have HDn:=hid (And.intro g4 g5)
   obtain ⟨d2,hd2⟩:∃y,putD (putD d 0 [5,1,2]) 1 [5,1]=y:=⟨_,rfl⟩
   rw [hd2] at HG2 HAp1 HDn
   clear g1 g2 g3 g4 g5 g6 hd2
   go_wp2_with fail
   have T1:=hid (AT.out.on ((Below.refl _ _).alloc (Nat.le_refl _) (.cells #[.int .u8 5,.int .u8 1,.int .u8 2] 5)))
   with_reducible refine (HAp0.out _ T1.out _ (zgi T1.out.disk AT.out.disk)).mono ?_
   intro e w20 h20
   obtain ⟨rfl,dv20,a20⟩:=T1.out.does h20
   have T2:=hid a20
   clear h20 a20 T1 AT HAp0
   go_wp2_with fail
   have T3:=hid (T2.out.on ((Below.refl _ _).alloc (Nat.le_refl _) (.cells #[.int .u8 5,.int .u8 1] 5)))
   with_reducible refine (HAp1.out _ _ T3.out _ (zgg T3.out.disk T2.out.disk)).mono ?_
   intro e w21 h21
   obtain ⟨rfl,dv21,a21⟩:=T3.out.does h21
   have T4:=hid a21
   clear h21 a21 T3 T2 HAp1
   go_wp2
   go_loopw [76] (fun iv wr=>∃(j:Nat) (d:Dk) (dv:Nat→Value),j≤nb∧iv=.int .i64 (j:Int)∧Hid (VoAt w wr n0 g vb d dv a b cur ys)∧Hid (zcq F d)∧Hid (d.dn=false∧d.arm=false)) (fun iv _=>nb - (intOf iv).toNat)
   case atStart=>exact ⟨0,d2,dv21,Nat.zero_le _,rfl,T4,HG2,HDn⟩
   case round =>
    clear T4 HG2 HDn
    obtain ⟨j,dj,dvj,hj,rfl,HV,HGd,HDm⟩:=hrel
    by_cases hlt:j<nb
    ·have hltn:j<ns.length:=by rw [HNB.out];exact hlt
     have hlti:(j:Int)<(nb:Int):=by omega
     obtain ⟨b1,o1,rfl,hb1,hc1⟩:=(HB.out.below HN0.out.symm HV.out.below) j ns[j] (List.getElem?_eq_getElem hltn)
     have hnx:=HNs.out _ (List.getElem_mem hltn)
     obtain ⟨y,hy⟩:∃y,ns[j]=y:=⟨_,rfl⟩
     rw [hy] at hc1 hnx
     have HArm:=hid (fun (W:World) (h:VoAt w W n0 g vb dj dvj a b cur ys)=>zpk g g dj dvj y W h.disk)
     have G1:=hid (HGd.out.arm hnx)
     have DN1:Hid ((armD dj y).dn=false):=hid HDm.out.1
     clear hy hnx HGd HDm
     go_wp2_with fail
     with_reducible refine (HArm.out _ HV.out).mono ?_
     intro e w30 h30
     obtain ⟨rfl,dv30,a30⟩:=HV.out.does h30
     have U1:=hid a30
     clear h30 a30 HV HArm hc1 hb1
     obtain ⟨da,hda⟩:∃y',armD dj y=y':=⟨_,rfl⟩
     rw [hda] at G1 DN1 U1
     clear hda
     obtain ⟨t,q1,q2,q3⟩:=G1.out.l0
     have HOp:=hid (zen g g da dv30 ys t (da.l 1) w30 U1.out.disk G1.out.ok U1.out.parts LG.out.good (by have:=LG.out.len;omega) (zch (by omega)) (zch (by have:=G1.out.l1.1;omega)) (by rw [HFe.out];exact q1) rfl (by rw [q1];intro y hy;rcases List.mem_append.1 hy with hy | hy;exact HFb.out y hy;exact q3 y hy) G1.out.l1.2 (by rw [q1,List.length_append];omega) (by have:=G1.out.l1.1;omega))
     rw [HFe.out] at HOp
     obtain ⟨i1,i2,i3,i4⟩:=G1.out.tidy DN1.out
     obtain ⟨d3,hd3⟩:∃y,(zco da F.length).1=y:=⟨_,rfl⟩
     obtain ⟨e3,he3⟩:∃y,(zco da F.length).2=y:=⟨_,rfl⟩
     rw [hd3,he3] at HOp
     rw [hd3] at i1 i4
     rw [he3] at i2 i3 i4
     have I1:=hid i1
     have I4:=hid i4
     clear q1 q2 q3 i1 i4 hd3 he3
     clear i3
     go_wp2_with fail
     with_reducible refine HOp.out.mono ?_
     intro e w31 h31
     rcases i2 with h0 | h4
     ·obtain ⟨v2,m2,x2,mi2,dv31,rfl,_,hd31⟩:=h31.1 h0
      have U2:=hid (U1.out.did hd31.disk hd31.turns)
      have HCr:=hid (fun (W:World) (h:VoAt w W n0 g vb d3 dv31 a b cur ys)=>zfn g g d3 dv31 a b W h.disk I1.out.ok)
      obtain ⟨⟨k0,k1⟩,_,_⟩:=blkn U2.out.box
      subst h0
      clear h31 hd31 U1 HOp G1 DN1 I4
      go_wp2_with fail
      with_reducible refine (HCr.out _ U2.out).mono ?_
      intro e w32 h32
      obtain ⟨rfl,dv32,a32⟩:=U2.out.does h32
      have U3:=hid a32
      have G3:=hid (I1.out.crash a b)
      have DN3:=hid (zgu d3 a b)
      clear h32 a32 U2 HCr k0 k1
      go_wp2
      go_roundw
      case rel=>exact ⟨j+1,zeC d3 a b,dv32,by omega,by go_num,U3,G3,DN3⟩
      case measure=>simp only [intOf];omega
     ·obtain ⟨dv31,rfl,hd31⟩:=h31.2 (by rw [h4];decide)
      have U2:=hid (U1.out.did hd31.disk hd31.turns)
      have HCr:=hid (fun (W:World) (h:VoAt w W n0 g vb d3 dv31 a b cur ys)=>zfn g g d3 dv31 a b W h.disk I1.out.ok)
      obtain ⟨⟨k0,k1⟩,_,_⟩:=blkn U2.out.box
      subst h4
      clear h31 hd31 U1 HOp G1 DN1 I4
      go_wp2_with fail
      with_reducible refine (HCr.out _ U2.out).mono ?_
      intro e w32 h32
      obtain ⟨rfl,dv32,a32⟩:=U2.out.does h32
      have U3:=hid a32
      have G3:=hid (I1.out.crash a b)
      have DN3:=hid (zgu d3 a b)
      clear h32 a32 U2 HCr k0 k1
      go_wp2
      go_roundw
      case rel=>exact ⟨j+1,zeC d3 a b,dv32,by omega,by go_num,U3,G3,DN3⟩
      case measure=>simp only [intOf];omega
    ·have hnj:¬(j:Int)<(nb:Int):=by omega
     have U1:=HV
     have G1:=HGd
     obtain ⟨t,q1,q2,q3⟩:=G1.out.l0
     have HOp:=hid (zen g g dj dvj ys t (dj.l 1) wr U1.out.disk G1.out.ok U1.out.parts LG.out.good (by have:=LG.out.len;omega) (zch (by omega)) (zch (by have:=G1.out.l1.1;omega)) (by rw [HFe.out];exact q1) rfl (by rw [q1];intro y hy;rcases List.mem_append.1 hy with hy | hy;exact HFb.out y hy;exact q3 y hy) G1.out.l1.2 (by rw [q1,List.length_append];omega) (by have:=G1.out.l1.1;omega))
     rw [HFe.out] at HOp
     obtain ⟨i1,i2,i3,i4⟩:=G1.out.tidy HDm.out.1
     obtain ⟨d3,hd3⟩:∃y,(zco dj F.length).1=y:=⟨_,rfl⟩
     obtain ⟨e3,he3⟩:∃y,(zco dj F.length).2=y:=⟨_,rfl⟩
     rw [hd3,he3] at HOp
     rw [hd3] at i1 i4
     rw [he3] at i2 i3 i4
     have I1:=hid i1
     have I4:=hid i4
     clear q1 q2 q3 i1 i4 hd3 he3
     have he0:=i3 HDm.out.2
     subst he0
     have HOp2:=hid (HOp.out.mono fun e w' h=>h.1 rfl)
     clear HOp i2 i3 HV HGd
     go_wp2_with fail
     with_reducible refine HOp2.out.mono ?_
     rintro e w31 ⟨v2,m2,x2,mi2,dv31,rfl,hv31,hd31⟩
     have U2:=hid (U1.out.did hd31.disk hd31.turns)
     have V2:=hid hv31
     have L1:=hid (I4.out (by simp))
     have HSm:=hid (zkr _ v2 g 0 1 m2 x2 mi2 ys n0 cur w31 V2.out U2.out.doc LG.out.good (by have:=LG.out.len;omega) U2.out.parts)
     have HRd:=hid (fun (W:World) (h:VoAt w W n0 g vb d3 dv31 a b cur ys)=>zgC g g d3 dv31 1 1 W h.disk I1.out.ok rfl (by decide))
     rw [L1.out] at HRd
     have kv:w31.cell? ⟨vb,0,none⟩=some cur:=(U2.out.vbox.cell 0).trans rfl
     clear hv31 hd31 U1 HOp2 G1 I4
     go_wp2_with fail
     with_reducible refine HSm.out.mono ?_
     rintro e w32 ⟨rfl,hb32⟩
     have U3:=hid (U2.out.on hb32)
     clear hb32 HSm kv
     go_wp2_with fail
     with_reducible refine (HRd.out _ U3.out).mono ?_
     rintro e w33 ⟨s,rfl,hown,hb33⟩
     obtain ⟨A0,c0,rfl⟩:=zcJ hown
     have U4:=hid (U3.out.on hb33)
     clear hown hb33 HRd U3 U2
     go_wp2
     go_ret
     exact ⟨rfl,by rw [HN0.out];exact U4.out.below⟩
end Go.Proofs.YtnjdckoljmgcjaaGreatDoor.vaultOpens
