/-
  What is done to a disk's files (package disk): cut, crash; Sync, Trim, Crash, Append.
-/
import Derived.Test.YtnjdckoljmgcjaaGreatDoorW22
import Derived.Deep.RegionLaw
import Derived.Deep.RegionWith
set_option maxRecDepth 100000
set_option maxHeartbeats 4000000
namespace Go.Proofs.YtnjdckoljmgcjaaGreatDoor
open Go.ChangeShapes Go.WideShapes Go.ChangeAt Go.RowKit
def Recs (w:World) (base:Nat) (xs:List Value) (rs:List (List Nat)):Prop :=
 xs.length=rs.length∧∀(j:Nat) (r:List Nat),rs[j]?=some r→∃B c,xs[j]?=some (.slice B r.length c)∧(B=none→c=0)∧Sees .u8 w B r ∧
  ∀b o,B=some ⟨b,o,none⟩→0<r.length→b<base∨∃cs fz,w.heap[b]?=some (.cells cs 5 fz)
theorem Recs.nil (w:World) (base:Nat):Recs w base [] []:=⟨rfl,fun j r h=>by simp at h⟩
theorem Recs.below {w w':World} {base:Nat} {xs:List Value} {rs:List (List Nat)} (h:Recs w base xs rs) (hb:Below w.heap.size w w'):Recs w' base xs rs:=by
 refine ⟨h.1,fun j r hj=>?_⟩
 obtain ⟨B,c,h1,h2,h3,h4⟩:=h.2 j r hj
 refine ⟨B,c,h1,h2,h3.below hb,fun b o he h0=>?_⟩
 rcases h4 b o he h0 with h5 | ⟨cs,fz,h5⟩
 ·exact .inl h5
 ·refine .inr ⟨cs,fz,?_⟩
  have hlt:b<w.heap.size:=by
   obtain ⟨b',o',e1,e2,_⟩:=h3 0 _ (List.getElem?_eq_getElem h0)
   rw [he] at e1
   injection e1 with e1
   injection e1 with e1 e3
   rw [e1];exact e2
  rw [hb.block b hlt]
  exact h5
theorem Recs.grown {w w':World} {base n:Nat} {E:TypeId} {v:Value} {ys xs:List Value} {rs:List (List Nat)} (h:Recs w base xs rs) (hown:w.ownsRow base E 1 v n ys) (hE:E≠5) (hg:w.grownBy w' v.ownBlock):Recs w' base xs rs:=by
 refine ⟨h.1,fun j r hj=>?_⟩
 obtain ⟨B,c,h1,h2,h3,h4⟩:=h.2 j r hj
 have far:∀b o,B=some ⟨b,o,none⟩→0<r.length→some b≠v.ownBlock:=by
  intro b o he h0 hv
  rcases hown.2 with ⟨rfl,_⟩ | ⟨g,cap,cur,rfl,hgb,hc,_⟩
  ·cases hv
  ·have hbg:b=g:=by injection hv
   subst hbg
   rcases h4 b o he h0 with h5 | ⟨cs,fz,h5⟩
   ·omega
   ·rw [hc] at h5
    injection h5 with h5
    injection h5 with _ h6
    exact hE h6
 have hlt:∀b o,B=some ⟨b,o,none⟩→0<r.length→b<w.heap.size:=by
  intro b o he h0
  obtain ⟨b',o',e1,e2,_⟩:=h3 0 _ (List.getElem?_eq_getElem h0)
  rw [he] at e1
  injection e1 with e1
  injection e1 with e1 e3
  rw [e1];exact e2
 refine ⟨B,c,h1,h2,?_,fun b o he h0=>?_⟩
 ·intro i x hi
  have h0:0<r.length:=by have:=(List.getElem?_eq_some_iff.1 hi).1;omega
  obtain ⟨b,o,he,hb,hc⟩:=h3 i x hi
  exact ⟨b,o,he,Nat.lt_of_lt_of_le hb hg.size,(hg.cell_far _ hb (far b o he h0)).trans hc⟩
 ·rcases h4 b o he h0 with h5 | ⟨cs,fz,h5⟩
  ·exact .inl h5
  ·exact .inr ⟨cs,fz,(hg.block b (hlt b o he h0) (far b o he h0)).trans h5⟩
theorem Recs.snoc {w:World} {base:Nat} {xs:List Value} {rs:List (List Nat)} {B:Option Addr} {r:List Nat} {c:Nat} (h:Recs w base xs rs) (h1:B=none→c=0) (h2:Sees .u8 w B r)
  (h3:∀b o,B=some ⟨b,o,none⟩→0<r.length→b<base∨∃cs fz,w.heap[b]?=some (.cells cs 5 fz)):Recs w base (xs ++ [.slice B r.length c]) (rs ++ [r]):=by
 refine ⟨by simp [h.1],fun j r' hj=>?_⟩
 by_cases hlt:j<rs.length
 ·rw [List.getElem?_append_left hlt] at hj
  rw [List.getElem?_append_left (by rw [h.1];exact hlt)]
  exact h.2 j r' hj
 ·rw [List.getElem?_append_right (by omega)] at hj
  have hj0:j - rs.length=0:=by
   have:=(List.getElem?_eq_some_iff.1 hj).1
   simp at this
   omega
  rw [hj0] at hj
  simp at hj
  subst hj
  rw [List.getElem?_append_right (by rw [h.1];omega),h.1,hj0]
  exact ⟨B,c,rfl,h1,h2,h3⟩
theorem zg5 {w:World} {base:Nat} {s:Value} {r:List Nat} {n:Nat} (hn:r.length=n) (h:w.ownsRow base 5 1 s n (r.map bv)) :
  ∃B c,s=.slice B n c∧(B=none→c=0)∧n≤c∧Sees .u8 w B r∧∀b o,B=some ⟨b,o,none⟩→0<r.length→∃cs fz,w.heap[b]?=some (.cells cs 5 fz):=by
 subst hn
 rcases h.2 with ⟨rfl,h0⟩ | ⟨g,cap,cur,rfl,hg,hc,hcap,_⟩
 ·have:r=[]:=List.eq_nil_of_length_eq_zero h0
  subst this
  exact ⟨none,0,rfl,fun _=>rfl,Nat.le_refl _,Sees.nil _ _ _,fun b o he=>by cases he⟩
 ·refine ⟨_,cap,rfl,fun he=>by (cases he),hcap,Sees.of_own h,fun b o he _=>?_⟩
  injection he with he
  injection he with he
  subst he
  exact ⟨cur,(0,0),hc⟩
theorem zdr {w w':World} {base n:Nat} {E:TypeId} {v:Value} {xs:List Value} (h:w.ownsRow base E 1 v n xs) (hb:Below w.heap.size w w'):w'.ownsRow base E 1 v n xs:=by
 refine h.kept (zam hb none) ?_
 cases v.ownBlock with
 | none=>exact .inl rfl
 | some g=>exact .inr (by simp)
theorem zhs {w:World} {base n:Nat} {E:TypeId} {v:Value} {xs:List Value} {rs:List (List Nat)} (hown:w.ownsRow base E 1 v n xs) (h:Recs w base xs rs) (h8:∀r∈rs,∀x∈r,x<256) (hl:∀r∈rs,r.length≤9223372036854775807) :
  ∃A c,v=.slice A rs.length c∧(A=none→c=0)∧rs.length≤c∧zbg w A rs∧zcn w A rs.length:=by
 have hxn:xs.length=n:=by have:=hown.1;simpa using this
 have hn:rs.length=n:=by rw [←h.1];exact hxn
 rcases hown.2 with ⟨rfl,h0⟩ | ⟨g,cap,cur,rfl,hg,hc,hcap,_⟩
 ·have:rs=[]:=List.eq_nil_of_length_eq_zero (by omega)
  subst this
  exact ⟨none,0,rfl,fun _=>rfl,Nat.le_refl _,zbg.nil _ _,fun j b o B n c hj=>by simp at hj⟩
 ·refine ⟨_,cap,by rw [hn],fun he=>by (cases he),by omega,?_,?_⟩
  ·intro j l hj
   obtain ⟨B,c,h1,_,h3,_⟩:=h.2 j l hj
   have hjn:j<n:=by have:=(List.getElem?_eq_some_iff.1 hj).1;omega
   refine ⟨g,0,B,c,rfl,(Array.getElem?_eq_some_iff.1 hc).1,?_,hl l (List.mem_of_getElem? hj),h8 l (List.mem_of_getElem? hj),h3⟩
   rw [Nat.zero_add,hown.cellAt j (by omega)]
   exact h1
  ·intro j b o B m c hj he hcell hB
   injection he with he
   injection he with e1 e2
   subst e1;subst e2
   rw [Nat.zero_add,hown.cellAt j (by omega)] at hcell
   obtain ⟨B',c',h1,h2,_⟩:=h.2 j rs[j] (List.getElem?_eq_getElem hj)
   rw [h1] at hcell
   injection hcell with hcell
   injection hcell with e3 e4 e5
   subst e3;subst e5
   exact h2 hB
def zlg (rs:List (List Nat)) (base:Nat) (w:World) (v g:Value) (wr:World):Prop :=
 ∃(k:Nat) (xs:List Value),k≤rs.length∧g=.int .i64 ((zaf (rs.take k)).length:Int)∧wr.ownsRow base 45 1 v k xs∧Recs wr base xs (rs.take k)∧Below base w wr
theorem zqi {rs:List (List Nat)} {base k:Nat} {w w2 w3:World} {v v':Value} {xs:List Value} {B:Option Addr} {c:Nat} {r:List Nat} {g:Int} {o:Obj} (hk:k<rs.length) (hr:r=rs[k]) (hb:base≤w2.heap.size)
  (hown:w2.ownsRow base 45 1 v k xs) (hrec:Recs w2 base xs (rs.take k)) (hbel:Below base w w2)
  (h1:B=none→c=0) (h2:Sees .u8 w2 B r) (h3:∀b o,B=some ⟨b,o,none⟩→0<r.length→b<base∨∃cs fz,w2.heap[b]?=some (.cells cs 5 fz))
  (hown':w3.ownsRow base 45 1 v' (k+1) (xs ++ [.slice B r.length c])) (hg:(w2.alloc o).grownBy w3 v.ownBlock) (hgg:g=((zaf (rs.take k)).length:Int)+((zaK r).length:Int)):zlg rs base w v' (.int .i64 g) w3:=by
 subst hr
 have hal:Below w2.heap.size w2 (w2.alloc o):=(Below.refl _ _).alloc (Nat.le_refl _) _
 refine ⟨k+1,_,hk,?_,hown',?_,zdy hbel hb hown hg⟩
 ·rw [zbR hk,hgg];go_num
 ·rw [List.take_succ_eq_append_getElem hk]
  exact ((hrec.snoc h1 h2 h3).below hal).grown (hown.alloc o) (by decide) hg
theorem znr {rs:List (List Nat)} {base k:Nat} {w wr w2 w3:World} {v v':Value} {xs:List Value} {B:Option Addr} {c:Nat} {r:List Nat} {g:Int} {o:Obj} (hk:k<rs.length) (hr:r=rs[k])
  (hown:wr.ownsRow base 45 1 v k xs) (hrec:Recs wr base xs (rs.take k)) (hbel:Below base w wr) (hsz:base≤wr.heap.size) (hb2:Below wr.heap.size wr w2)
  (h1:B=none→c=0) (h2:Sees .u8 w2 B r) (h3:∀b o,B=some ⟨b,o,none⟩→0<r.length→b<base∨∃cs fz,w2.heap[b]?=some (.cells cs 5 fz))
  (hown':w3.ownsRow base 45 1 v' (k+1) (xs ++ [.slice B r.length c])) (hg:(w2.alloc o).grownBy w3 v.ownBlock) (hgg:g=((zaf (rs.take k)).length:Int)+((zaK r).length:Int)):zlg rs base w v' (.int .i64 g) w3 :=
 zqi hk hr (Nat.le_trans hsz hb2.size) (zdr hown hb2) (hrec.below hb2) (hbel.trans (hb2.mono hsz)) h1 h2 h3 hown' hg hgg
theorem zgA:(Tryz.prog.info? 45).map (fun i=>(i.zero,i.size,i.bytes))=some (some (.slice none 0 0),1,24):=by kernel_rfl
theorem zkh {B:Option Addr} {n c:Nat}:∀u∈[Value.slice B n c],u.oneCell'=true:=by
 intro u hu;simp at hu;subst hu;rfl
theorem znk {w0:World} {A:Option Addr} {l:List Nat} {n c a:Nat} (hn:l.length=n) (hm:a≤n) (hc:n≤c) (h:Sees .u8 w0 A l) (hA:A=none→c=0) :
  ∃A1,(∀w,(Instr.slice 45 (.slice A n c) (some (.int .i64 (a:Int))) none none).run Tryz.prog w=.ok (.slice A1 (n - a) (c - a)) w)∧(A1=none→c - a=0)∧Sees .u8 w0 A1 (l.drop a):=by
 obtain ⟨i0,hi,hz0,hz1,hz2⟩:=info_parts zcD
 obtain ⟨A1,h1,h2,h3⟩:=zmu 45 5 i0 Tryz.underlying45 hi hz1 hn hm hc h.held hA
 exact ⟨A1,h1,h2,h3.sees (Nat.le_refl _)⟩
def zol (rs:List (List Nat)) (w:World) (e:Ending) (w':World):Prop :=
 ∃A c,e=.returned (.tuple #[.slice A rs.length c,.int .i64 ((zaf rs).length:Int)])∧(A=none→c=0)∧rs.length≤c∧zbg w' A rs∧zcn w' A rs.length∧Below w.heap.size w w'
theorem zps {rs:List (List Nat)} {w wr:World} {v:Value} {k:Nat} {xs:List Value} {x:Int} (hk:k=rs.length) (h8:∀r∈rs,∀x∈r,x<256) (hl:∀r∈rs,r.length≤16384) (hown:wr.ownsRow w.heap.size 45 1 v k xs) (hrec:Recs wr w.heap.size xs (rs.take k)) (hbel:Below w.heap.size w wr)
  (hx:x=((zaf (rs.take k)).length:Int)):zol rs w (.returned (.tuple #[v,.int .i64 x])) wr:=by
 rw [hk,List.take_length] at hrec hx
 obtain ⟨A,c,rfl,h1,h2,h3,h4⟩:=zhs hown hrec h8 (fun r hr=>by have:=hl r hr;omega)
 exact ⟨A,c,by rw [hx],h1,h2,h3,h4,hbel⟩
theorem zsI (A:Option Addr) (l m:List Nat) (rs:List (List Nat)) (n c:Nat) (w:World) (hln:l.length=n) (hl:n≤1000000) (hc:n≤c) (hA0:A=none→c=0) (h8:∀x∈l,x<256) (hA:Sees .u8 w A l)
  (hrs:∀r∈rs,r.length≤16384) (ht:Torn m) (e:l=zaf rs ++ m) :
  Calls Tryz.prog 47 #[.slice A n c] w (zol rs w):=by
 obtain ⟨ir,hir,hr0,hr1,hr2⟩:=info_parts zgA
 have hcount:=zeb rs
 have hle:(zaf rs).length≤n:=by rw [←hln,e,List.length_append];omega
 have x8:∀r∈rs,∀x∈r,x<256:=by
  intro r hr x hx
  refine h8 x ?_
  rw [e]
  refine List.mem_append_left _ (List.mem_flatten.2 ⟨zaK r,List.mem_map.2 ⟨r,hr,rfl⟩,?_⟩)
  unfold zaK zdM
  simp [hx]
 have HA:=hid hA
 have H8:=hid h8
 have HLN:=hid hln
 have H0:=hid hA0
 have HRS:=hid hrs
 have HT:=hid ht
 have HE:=hid e
 have X8:=hid x8
 clear hA h8 hln hA0 hrs ht e x8
 go_enter Tryz.func47,Tryz.ntmps47
 go_wp2
 go_loopw [2,3] (fun v g wr=>zlg rs w.heap.size w v g wr) (fun _ g _=>n - (intOf g).toNat)
 case atStart=>exact ⟨0,[],Nat.zero_le _,by simp [zaf],World.ownsRow_nil _ _ _ _,Recs.nil _ _,Below.refl _ _⟩
 case round =>
  obtain ⟨k,xs,hk,rfl,hown,hrec,hbel⟩:=hrel
  obtain ⟨G,hG⟩:∃G,(zaf (rs.take k)).length=G:=⟨_,rfl⟩
  have hGn:G≤n:=by have:=zct rs k;omega
  have hdrop:l.drop G=zaf (rs.drop k) ++ m:=by rw [HE.out,zfy rs k,List.append_assoc,List.drop_left' hG]
  obtain ⟨A1,hrun,hnil,hs1⟩:=znk HLN.out hGn hc (HA.out.below hbel) H0.out
  have HS1:=hid hs1
  have HN1:=hid hnil
  have HL1:Hid ((l.drop G).length=n - G):=hid (by rw [List.length_drop,HLN.out])
  have X1:Hid (∀x∈l.drop G,x<256):=hid (fun x hx=>H8.out x (List.mem_of_mem_drop hx))
  have HOW:=hid hown
  have HRC:=hid hrec
  have HBE:=hid hbel
  have hcc:n - G≤c - G:=by omega
  have hsz:=hbel.size
  by_cases hlt:k<rs.length
  ·obtain ⟨r,hr⟩:∃r,r=rs[k]:=⟨_,rfl⟩
   have hfit:G+(zaK r).length≤n:=by
    have h1:=zbR hlt
    have h2:=zct rs (k+1)
    rw [←hr,hG] at h1
    omega
   have hpos:=zdT r
   have HD:Hid (l.drop G=zaK r ++ (zaf (rs.drop (k+1)) ++ m)):=hid (by rw [hdrop,zkq hlt,←hr,List.append_assoc])
   have HR:=hid hr
   have HRL:Hid (r.length≤16384):=hid (by rw [hr];exact HRS.out _ (List.getElem_mem hlt))
   have HST:=hid (fun (w2 w3:World) (v':Value) (B:Option Addr) (c2:Nat) (g:Int) (o:Obj)=>znr (w2:=w2) (w3:=w3) (v':=v') (B:=B) (c:=c2) (g:=g) (o:=o) hlt hr hown hrec hbel hsz)
   obtain ⟨F,hF⟩:∃F,(zaK r).length=F:=⟨_,rfl⟩
   obtain ⟨q,hq⟩:∃q,r.length=q:=⟨_,rfl⟩
   have HF:=hid hF
   have HQ:=hid hq
   have HG:=hid hG
   rw [hG]
   rw [hF] at hfit hpos
   clear hown hrec hbel hs1 hnil hdrop hr hF hq hG
   go_wp2_with (first
    | (go_at_call 79;((with_reducible refine (zr5 A1 (l.drop G) r (zaf (rs.drop (k+1)) ++ m) (n - G) (c - G) _ HL1.out (by omega) hcc HN1.out X1.out HS1.out HRL.out HD.out).mono ?_);rintro e w2 ⟨s,rfl,hown2,hb2⟩;rw [HQ.out] at hown2;obtain ⟨B,c2,rfl,hk2,_,hs2,ht2⟩:=zg5 HQ.out hown2;rw [HF.out];have HK2:=hid hk2;have HS2:=hid hs2;have HT2:=hid ht2;have HB2:=hid hb2;have HO2:=hid (zdr HOW.out hb2);have hsz2:w.heap.size≤w2.heap.size:=Nat.le_trans hsz hb2.size;clear hk2 hs2 ht2 hb2 hown2))
    | (at_builtin;refine wpList_append_own _ rfl (.tmp 19) (.tmp 21) 89 rfl w.heap.size 45 ir (.slice none 0 0) 1 24 Tryz.underlying89 hir hr0 hr1 hr2 rfl (by decide) _ _ _ rfl (HO2.out.alloc _) ⟨w2.heap.size,0,none⟩ 1 1 [.slice B q c2] rfl rfl (zl1 _) zkh (by unfold maxLen;omega) (by omega) (by simp;omega) ?_;intro v' w3 hown3 hg3 _;have R:=hid (HST.out w2 w3 v' B c2 _ _ HB2.out HK2.out HS2.out (fun b o h1 h2=>.inr (HT2.out b o h1 h2)) (by rw [HQ.out];exact hown3) hg3 (by rw [HG.out,HF.out]));clear hown3 hg3))
   go_roundw
   case rel=>exact R.out
   case measure=>simp only [intOf];omega
  ·have hkl:k=rs.length:=by omega
   have HTD:Hid (Torn (l.drop G)):=hid (by rw [hdrop,hkl,List.drop_length,zdi,List.nil_append];exact HT.out)
   have HG:=hid hG
   have HD:=hid (fun (w2:World) (x:Int) (hb2:Below wr.heap.size wr w2)=>zps (rs:=rs) (w:=w) (wr:=w2) (x:=x) hkl X8.out HRS.out (zdr hown hb2) (hrec.below hb2) (hbel.trans (hb2.mono hsz)))
   rw [hG]
   clear hown hrec hbel hs1 hnil hdrop hG
   go_wp2_with (first
    | (go_at_call 79;((with_reducible refine (zsC A1 (l.drop G) (n - G) (c - G) _ HL1.out (by omega) hcc HN1.out X1.out HS1.out HTD.out).mono ?_);rintro e w2 ⟨rfl,hb2⟩;have HB2:=hid hb2;clear hb2)))
   go_ret2
   exact HD.out _ _ HB2.out (by rw [HG.out])
def zkL (ls:List (List Nat)) (w:World) (v i:Value) (wr:World):Prop:=∃k:Nat,k≤ls.length∧i=.int .i64 (k:Int)∧wr.ownsRow w.heap.size 5 1 v (zaf (ls.take k)).length ((zaf (ls.take k)).map bv)∧Below w.heap.size w wr
theorem zlF {ls:List (List Nat)} {k N:Nat} {w wr w2 w3:World} {v v':Value} {L:List Nat} (h:k<ls.length) (hL:L=zaK ls[k]) (hN:L.length=N) (hown:wr.ownsRow w.heap.size 5 1 v (zaf (ls.take k)).length ((zaf (ls.take k)).map bv)) (hb:Below w.heap.size w wr)
  (hb2:Below wr.heap.size wr w2) (hown':w3.ownsRow w.heap.size 5 1 v' ((zaf (ls.take k)).length+N) ((zaf (ls.take k)).map bv ++ L.map bv)) (hg:w2.grownBy w3 v.ownBlock):zkL ls w v' (.int .i64 ((k:Int)+1)) w3:=by
 subst hL
 have hown2:=zdr hown hb2
 have hB2:Below w.heap.size w w2:=hb.trans (hb2.mono hb.size)
 refine ⟨k+1,h,by go_num,?_,hB2.grown hg hB2.size (fun j hj=>(hown2.lt j hj).1)⟩
 rw [zbR h,zgd h,List.map_append,hN]
 exact hown'
def zsm (ls:List (List Nat)) (w:World) (e:Ending) (w':World):Prop :=
 ∃s,e=.returned (.tuple #[s,.int .i64 0])∧w'.ownsRow w.heap.size 5 1 s (zaf ls).length ((zaf ls).map bv)∧Below w.heap.size w w'
theorem zoT (A:Option Addr) (ls:List (List Nat)) (n ca:Nat) (w:World) (hln:ls.length=n) (hl:n≤9223372036854775807) (hrs:∀r∈ls,r.length≤16384) (hN:(zaf ls).length≤1000000) (hA:zbg w A ls) (hB:zcn w A ls.length) :
  Calls Tryz.prog 55 #[.slice A n ca] w (zsm ls w):=by
 obtain ⟨i0,hi,hz0,hz1,hz2⟩:=info_parts zcD
 have HA:=hid hA
 have HNB:=hid hB
 have HRS:=hid hrs
 have HLN:=hid hln
 clear hA hB hrs hln
 go_enter Tryz.func55,Tryz.ntmps55
 go_wp2
 go_loopw [4,11] (fun v i wr=>zkL ls w v i wr) (fun _ i _=>n - (intOf i).toNat)
 case atStart=>exact ⟨0,Nat.zero_le _,rfl,World.ownsRow_nil _ _ _ _,Below.refl _ _⟩
 case round =>
  obtain ⟨k,hk,rfl,hown,hb⟩:=hrel
  have hkn:k≤n:=by rw [←HLN.out];exact hk
  have hsz:=hb.size
  by_cases hlt:k<ls.length
  ·have hltn:k<n:=by rw [←HLN.out];exact hlt
   obtain ⟨b,o,B,c,rfl,hbl,hc,hx,h8,hs⟩:=HA.out k ls[k] (List.getElem?_eq_getElem hlt)
   have hc2:=(hb.cell (p:=⟨b,o+k,none⟩) (by exact hbl)).trans hc
   have hcn:Hid (B=none→c=0):=hid (HNB.out k b o B _ c hlt rfl hc)
   have HS:=hid (hs.below hb)
   have HR:=hid (HRS.out _ (List.getElem_mem hlt))
   have X8:=hid h8
   have hfl:=zct ls (k+1)
   rw [zbR hlt] at hfl
   have HJ:=hid (fun (w2 w3:World) (v':Value) (N:Nat) (h1:(zaK ls[k]).length=N)=>zlF (w2:=w2) (w3:=w3) (v':=v') hlt rfl h1 hown hb)
   have HW:=hid hown
   clear hc hs hown hb h8
   generalize (zaf (ls.take k)).length=q at *
   generalize zaf (ls.take k)=F at *
   generalize ls[k]=l at *
   obtain ⟨p,hp⟩:∃p,l.length=p:=⟨_,rfl⟩
   obtain ⟨N,hN2⟩:∃N,(zaK l).length=N:=⟨_,rfl⟩
   have HP:=hid hp
   have HN:=hid hN2
   rw [hp] at hc2 hx
   rw [hN2] at hfl
   clear hp hN2
   go_wp2_with (first
    | (go_at_call 98;((with_reducible refine (zlO B l p c N _ HP.out (by have:=HR.out;rw [HP.out] at this;exact this) hcn.out X8.out HS.out HN.out).mono ?_);rintro e w2 ⟨b2,o2,c2,rfl,_,_,hs2,hb2⟩;have HS2:=hid hs2;have HB2:=hid hb2;have HO2:=hid (zdr HW.out hb2);have hsz2:w.heap.size≤w2.heap.size:=Nat.le_trans hsz hb2.size;clear hs2 hb2))
    | (at_builtin;refine zbM rfl (.tmp 23) (.tmp 24) 45 rfl w.heap.size 5 i0 (.int .u8 0) 1 Tryz.underlying45 hi hz0 hz1 hz2 rfl _ _ _ rfl HO2.out .u8 (some ⟨b2,o2,none⟩) c2 (zaK l) N HN.out rfl (fun h=>nomatch h) HS2.out (by unfold maxLen;omega) (by omega) hsz2 ?_;intro v' w3 hown3 hg3;have R:=hid (HJ.out w2 w3 v' N HN.out HB2.out hown3 hg3);clear hown3 hg3))
   go_roundw
   case rel=>exact R.out
   case measure=>simp only [intOf];omega
  ·have hkn2:¬k<n:=by rw [←HLN.out];exact hlt
   have e:ls.take k=ls:=List.take_of_length_le (by omega)
   rw [e] at hown
   go_wp2
   go_ret2
   exact ⟨_,rfl,hown,hb⟩
end Go.Proofs.YtnjdckoljmgcjaaGreatDoor
namespace Go.Proofs.YtnjdckoljmgcjaaGreatDoor
open Go.ChangeShapes Go.WideShapes Go.ChangeAt Go.RowKit Go.Maps Go.WideMaps
set_option linter.unusedVariables false
set_option linter.unusedSimpArgs false
theorem zsL {n:Nt} (h:Fair n):n.foot.size≤maxLen∧(0≤n.num∧n.num<18446744073709551616):=by
 obtain ⟨_,_,a,b,c⟩:=h
 exact ⟨by unfold maxLen;omega,a,b⟩
theorem zrh {l:List Nt} {D:DataW Unit} (hl:zcA l)
  (h2:∀f u,f.size≤200→0≤u→u<18446744073709551616→Maps.has D (klit f u)=told l f u∧(told l f u=true→∀z,D.atKey (klit f u) z=datA (zbq l f u)))
  (h3:∀kl,Maps.has D kl=true→∃nt∈l,kl=klit nt.foot nt.num) {f:ByteArray} {u:Int} {c:Nat→Int} {kl:Lit} {y:DataW Unit × List MemPlace}
  (hk:keyOf Tryz.prog 112 (keyV f u)=some kl) (hhas:Maps.has D kl=true) (hv:attR (.agg #[.int .i64 (c 0),.int .i64 (c 1),.int .i64 (c 2),.int .i64 (c 3),.int .i64 (c 4),.int .i64 (c 5),.int .i64 (c 6),.int .i64 (c 7)])=some y) (hat:∀zd,D.atKey kl zd=y.1) :
  kl=klit f u∧f.size≤200∧(0≤u∧u<18446744073709551616)∧told l f u=true∧rowA c=rowA (zbq l f u):=by
 obtain ⟨f',u',he,a1,a2,rfl⟩:=zfG hk
 simp at he
 obtain ⟨rfl,rfl⟩:=he
 obtain ⟨nt,hn,hk2⟩:=h3 _ hhas
 obtain ⟨b1,b2⟩:=zsL (hl nt hn)
 obtain ⟨rfl,rfl⟩:=zgz a1 a2 b1 b2 hk2
 obtain ⟨_,_,d1,d2,d3⟩:=hl nt hn
 have ht:told l nt.foot nt.num=true:=zeT.2 ⟨nt,hn,rfl,rfl⟩
 refine ⟨rfl,d3,⟨d1,d2⟩,ht,?_⟩
 have h4:=(h2 _ _ d3 d1 d2).2 ht (.lit (.bool false))
 rw [hat] at h4
 have h5:attR (.agg (rowA c))=some y:=hv
 rw [zlC] at h5
 injection h5 with h5
 rw [←h5] at h4
 exact zmC h4
theorem zti (key:Value) (kl:Lit) (h:keyOf Tryz.prog 112 key=some kl):∃x:ByteArray × Int,key=keyV x.1 x.2:=by
 obtain ⟨f,u,rfl,_⟩:=zfG h
 exact ⟨(f,u),rfl⟩
theorem ztA (v:Value) (y:DataW Unit × List MemPlace) (h:attR v=some y):∃c:Nat→Int,v=.agg #[.int .i64 (c 0),.int .i64 (c 1),.int .i64 (c 2),.int .i64 (c 3),.int .i64 (c 4),.int .i64 (c 5),.int .i64 (c 6),.int .i64 (c 7)]:=by
 obtain ⟨f,rfl,_⟩:=zmj h
 exact ⟨f,rfl⟩
theorem Blk.rowAt {w:World} {r:Nat} {T:TypeId} {cs cs':Array Value} (h:Blk w r T cs):Blk (w.setRow r cs') r T cs':=setRow_heap w r _ cs' _ _ h.heap
theorem zbL {w:World} {g:Nat} {T:TypeId} {old:Array Value} (h:Blk w g T old) (cs:Array Value) (hs:old.size=cs.size) (h1:cs.all (·.oneCell')=true):(storeCells ⟨g,0,none⟩ cs.toList).run Tryz.prog w=.ok () (w.setRow g cs):=by
 have:=run_storeCells_from (P:=Tryz.prog) g T cs.toList 0 old w h.heap (by simp;omega) (fun v hv=>(Array.all_eq_true_iff_forall_mem.1 h1) v (by simpa using hv))
 simpa [hs] using this
theorem Below.of_grown {a w:World} (h:a.grownBy w none):Below a.heap.size a w:=⟨h.os,h.tape,h.output,h.size,fun i hi=>h.block i hi (by simp)⟩
end Go.Proofs.YtnjdckoljmgcjaaGreatDoor
namespace Go.Proofs.YtnjdckoljmgcjaaGreatDoor
open Go.ChangeShapes Go.WideShapes Go.ChangeAt Go.RowKit
set_option linter.unusedVariables false
set_option linter.unusedSimpArgs false
theorem zhi {d:Dk} (h:d.arm=false) (n:Nat):zaL d n=d∧zeW d n=n∧errD d n=0∧zcb d n=false:=by
 unfold zaL zeW errD zcb;simp [h]
theorem zqQ {d:Dk} (h:d.arm=true) {n:Nat} (hn:(n:Int)≤d.un):zaL d n={ d with un:=d.un - (n:Int) }∧zeW d n=n∧errD d n=0∧zcb d n=false:=by
 have h1:zcb d n=false:=by unfold zcb;rw [h];simp;omega
 have h2:min n d.un.toNat=n:=by omega
 refine ⟨?_,?_,?_,h1⟩
 ·unfold zaL;rw [if_pos h,h1,h2,Bool.or_false]
 ·unfold zeW;rw [if_pos h,h2]
 ·unfold errD;rw [h1];rfl
theorem zq7 {d:Dk} (h:d.arm=true) (h0:0≤d.un) {n:Nat} (hn:d.un<(n:Int)):zaL d n={ d with un:=0,dn:=true }∧(zeW d n:Int)=d.un∧errD d n=40∧zcb d n=true:=by
 have h1:zcb d n=true:=by unfold zcb;rw [h];simp;omega
 have h2:((min n d.un.toNat:Nat):Int)=d.un:=by omega
 refine ⟨?_,?_,?_,h1⟩
 ·unfold zaL;rw [if_pos h,h1,h2,Bool.or_true,Int.sub_self]
 ·unfold zeW;rw [if_pos h];exact h2
 ·unfold errD;rw [h1];rfl
theorem zby.same {w w':World} {base g:Nat} {d d':Dk} {v:Nat→Value} {r:Value} (h:zaj w' base g d v) (hd:d'=d) (t:zai (OwnD g v) w w'):zby base g v d' r w (.returned r) w':=by
 subst hd;exact ⟨v,rfl,h,t,fun b hb=>.inl hb⟩
theorem zby.on {w w1 w2:World} {base g:Nat} {d:Dk} {v:Nat→Value} {r:Value} {e:Ending} (h:zby base g v d r w1 e w2) (k:zai (OwnD g v) w w1):zby base g v d r w e w2:=by
 obtain ⟨v',h1,h2,h3,h4⟩:=h
 exact ⟨v',h1,h2,k.trans h3 (fun _ _ h=>h),fun b hb=>(h4 b hb).imp id (fun h=>Nat.le_trans k.size h)⟩
theorem zoZ (base g:Nat) (d:Dk) (v:Nat→Value) (n:Nat) (a:Int) (w:World) (h:zaj w base g d v) (ho:d.Ok) (ha:a=n) (hn:(n:Int)≤9223372036854775807) :
  Calls Tryz.prog 33 #[.pointer (some ⟨g,0,none⟩),.int .i64 a] w (zby base g v (zaL d n) (.tuple #[.int .i64 (zeW d n:Int),.int .i64 (errD d n)]) w):=by
 subst ha
 obtain ⟨_,_,_,_,_,c5,c6,c7⟩:=h.cells
 have f6:=h.blk.frozen 6
 have f7:=h.blk.frozen 7
 have u0:=ho.un0
 have u1:=ho.un1
 cases hA:d.arm with
 | false =>
  obtain ⟨q1,q2,q3,_⟩:=zhi hA n
  have HR:Hid (zby base g v (zaL d n) (.tuple #[.int .i64 (zeW d n:Int),.int .i64 (errD d n)]) w (.returned (.tuple #[.int .i64 (n:Int),.int .i64 0])) w):=hid (by rw [q2,q3];exact .same h q1 (.refl _ _))
  rw [hA] at c5
  clear h ho q1 q2 q3 hA
  go_enter Tryz.func33,Tryz.ntmps33
  go_wp2
  refine bodyPost_ret (v:=.tuple #[.int .i64 (n:Int),.int .i64 0]) (by simp [results,Tryz.results33,go_sem]) rfl HR.out
 | true =>
  rcases (show (n:Int)≤d.un∨d.un<(n:Int) by omega) with hlt | hlt
  ·obtain ⟨q1,q2,q3,_⟩:=zqQ hA hlt
   have hm:=fun (w:World) (ts:Array TypeId) (t:TypeId)=>zgx Tryz.prog (n:Int) d.un n (by omega) w ts t
   have HR:Hid (zby base g v (zaL d n) (.tuple #[.int .i64 (zeW d n:Int),.int .i64 (errD d n)]) w (.returned (.tuple #[.int .i64 (n:Int),.int .i64 0])) (w.setCell ⟨g,6,none⟩ (.int .i64 (d.un - (n:Int))))):=hid (by
    rw [q2,q3]
    exact .same (h.put 6 _ (d':={ d with un:=d.un - (n:Int) }) rfl rfl) q1 ((zai.refl _ _).at_ _ _))
   rw [hA] at c5
   obtain ⟨u,hu⟩:∃u,d.un=u:=⟨_,rfl⟩
   rw [hu] at c6 hm u0 u1 hlt HR
   clear h ho q1 q2 q3 hA hu
   go_enter Tryz.func33,Tryz.ntmps33
   go_wp2
   refine bodyPost_ret (v:=.tuple #[.int .i64 (n:Int),.int .i64 0]) (by simp [results,Tryz.results33,go_sem]) rfl HR.out
  ·obtain ⟨q1,q2,q3,_⟩:=zq7 hA u0 hlt
   have hm:=fun (w:World) (ts:Array TypeId) (t:TypeId)=>zgx Tryz.prog (n:Int) d.un d.un (by omega) w ts t
   have HR:Hid (zby base g v (zaL d n) (.tuple #[.int .i64 (zeW d n:Int),.int .i64 (errD d n)]) w (.returned (.tuple #[.int .i64 d.un,.int .i64 40])) ((w.setCell ⟨g,6,none⟩ (.int .i64 0)).setCell ⟨g,7,none⟩ (.bool true))):=hid (by
    rw [q2,q3]
    exact .same ((h.put 6 _ (d':={ d with un:=0 }) rfl rfl).put 7 _ (d':={ d with un:=0,dn:=true }) rfl rfl) q1 (((zai.refl _ _).at_ _ _).at_ _ _))
   rw [hA] at c5
   obtain ⟨u,hu⟩:∃u,d.un=u:=⟨_,rfl⟩
   rw [hu] at c6 hm u0 u1 hlt HR
   have hz:u - u=0:=by omega
   clear h ho q1 q2 q3 hA hu
   go_enter Tryz.func33,Tryz.ntmps33
   go_wp2
   refine bodyPost_ret (v:=.tuple #[.int .i64 u,.int .i64 40]) (by simp [results,Tryz.results33,go_sem]) rfl HR.out
theorem zpk (base g:Nat) (d:Dk) (v:Nat→Value) (n:Int) (w:World) (h:zaj w base g d v) :
  Calls Tryz.prog 12 #[.pointer (some ⟨g,0,none⟩),.int .i64 n] w (zby base g v (armD d n) (.tuple #[]) w):=by
 obtain ⟨_,_,_,_,_,c5,c6,c7⟩:=h.cells
 have f5:=h.blk.frozen 5
 have f6:=h.blk.frozen 6
 obtain ⟨m,hm0⟩:∃m,(if n<0 then 0 else n)=m:=⟨_,rfl⟩
 have hm:=fun (w:World) (ts:Array TypeId) (t:TypeId)=>zmo Tryz.prog n 0 m hm0 w ts t
 have HR:Hid (zby base g v (armD d n) (.tuple #[]) w (.returned (.tuple #[])) ((w.setCell ⟨g,5,none⟩ (.bool true)).setCell ⟨g,6,none⟩ (.int .i64 m))):=hid
  (.same ((h.put 5 _ (d':={ d with arm:=true }) rfl rfl).put 6 _ (d':={ d with arm:=true,un:=m }) rfl rfl) (by unfold armD;rw [hm0]) (((zai.refl _ _).at_ _ _).at_ _ _))
 clear h hm0
 go_enter Tryz.func12,Tryz.ntmps12
 go_wp2
 refine bodyPost_ret (v:=.tuple #[]) (results_none (by kernel_rfl) _ _ _) rfl HR.out
theorem zjh {w:World} {base base' n:Nat} {e:TypeId} {v:Value} {xs:List Value} (h:w.ownsRow base e 1 v n xs) (hb:base'≤base):w.ownsRow base' e 1 v n xs :=
 ⟨h.1,h.2.imp id fun ⟨g,cap,cur,a,b,c⟩=>⟨g,cap,cur,a,Nat.le_trans hb b,c⟩⟩
theorem zkm {P:Program} (t e:TypeId) (i:TypeInfo) (ht:P.underlying t=some (.slice e)) (hi:P.info? e=some i) (A:Option Addr) {n c k:Nat} (hk:k≤n) (hc:n≤c) (w:World) :
  (Instr.slice t (.slice A n c) none (some (.int .i64 (k:Int))) none).run P w=.ok (.slice A k c) w:=by
 have he:P.elem t=e:=by simp [Program.elem,ht]
 have hsz:∀w,(sizeOf (P.elem t)).run P w=.ok i.size w:=fun w=>by rw [he];simp [sizeOf,typeInfo,hi]
 rw [run_slice_h (P:=P) w t A n c (by rw [ht,he]) .i64 (k:Int) (by omega) (by omega),hsz]
 simp only [Result.andThen_ok,sliced,Int.toNat_natCast,Nat.sub_zero]
 simp
 intro _
 cases A <;> simp [Addr.add]
theorem zcJ {w:World} {base n:Nat} {e:TypeId} {v:Value} {xs:List Value} (h:w.ownsRow base e 1 v n xs):∃A c,v=.slice A n c:=by
 rcases h.2 with ⟨rfl,rfl⟩ | ⟨g,cap,cur,rfl,_⟩
 ·exact ⟨none,0,rfl⟩
 ·exact ⟨_,cap,rfl⟩
theorem zmz (base g:Nat) (d:Dk) (v:Nat→Value) (k n:Nat) (a:Int) (w:World) (h:zaj w base g d v) (ho:d.Ok) (hk:k<2) (ha:a=n) (hn:n≤(d.l k).length) :
  Calls Tryz.prog 68 #[.pointer (some ⟨g,1+k * 2,none⟩),.int .i64 a] w (zby base g v (cutD d k n) (.tuple #[]) w):=by
 subst ha
 obtain ⟨i0,hi,_⟩:=info_parts zcD
 obtain ⟨c0,c1⟩:=h.file hk
 have f0:=h.blk.frozen (1+k * 2)
 have f1:=h.blk.frozen (1+k * 2+1)
 have HL:=ho.len hk
 obtain ⟨A,c,e0,hA,hc,hS⟩:=h.slice hk
 rw [e0] at c0
 have hcut:=fun w=>zkm (P:=Tryz.prog) 45 5 i0 Tryz.underlying45 hi A hn hc w
 have HC:=hid (zfu A ((d.l k).take n) n c w (by rw [List.length_take];omega) (by omega) hA (hS.take n))
 have hm:=fun (w:World) (ts:Array TypeId) (t:TypeId)=>zgx Tryz.prog (d.s k:Int) (n:Int) ((min (d.s k) n:Nat):Int) (by omega) w ts t
 have HLT:Hid (((d.l k).take n).length=n):=hid (by rw [List.length_take];omega)
 have HD:=hid h
 have HF:=hid (fun (s:Value) (w1:World) (hb:Below w.heap.size w w1) (hown:w1.ownsRow w.heap.size 5 1 s n (((d.l k).take n).map fun y:Nat=>Value.int .u8 (y:Int))) =>
  h.turn hk (row:=none) (zam hb none) (fun b hb=>by cases hb) HLT.out (zjh hown h.base_le) (fun b hb=>.inr (hown.lt b hb).1))
 obtain ⟨sk,hsk⟩:∃s,d.s k=s:=⟨_,rfl⟩
 have HSK:=hid hsk
 rw [hsk] at c1 hm
 clear e0 hA hc hS h hn hi hsk ho
 go_enter Tryz.func68,Tryz.ntmps68
 go_wp2_with fail
 with_reducible refine HC.out.mono ?_
 rintro e w1 ⟨s,rfl,hown,hb⟩
 rw [HLT.out] at hown
 have c2:=(HD.out.on hb).blk.frozen (1+k * 2)
 have c3:=((HD.out.on hb).file hk).1
 have HX:=hid (HF.out s w1 hb hown)
 obtain ⟨As,cs,rfl⟩:=zcJ hown
 clear hown hb
 go_upto_region 1 with fail
 obtain ⟨W,hW⟩:∃W,w1.setCell ⟨g,1+k * 2,none⟩ (.slice As n cs)=W:=⟨_,rfl⟩
 rw [hW] at HX
 rw [hW]
 clear hW c2 c3 c0 c1 f0 f1
 have D1:=hid HX.out.1
 obtain ⟨_,c1⟩:=D1.out.file hk
 have f1:=D1.out.blk.frozen (1+k * 2+1)
 have HR:Hid (zby base g v (cutD d k n) (.tuple #[]) w (.returned (.tuple #[])) (W.setCell ⟨g,1+k * 2+1,none⟩ (.int .i64 ((min sk n:Nat):Int)))):=hid
  ⟨_,rfl,D1.out.put (1+k * 2+1) _ (d':=cutD d k n) (by rw [zjv _ _ _ k hk,←HSK.out];rfl) rfl,HX.out.2.1.at_ _ _,HX.out.2.2⟩
 have e1:({ d with l:=updD d.l k ((d.l k).take n) }:Dk).s k=sk:=HSK.out
 rw [e1] at c1
 clear HX D1 HC HF HD e1
 go_wp2
 refine bodyPost_ret (v:=.tuple #[]) (results_none (by kernel_rfl) _ _ _) rfl HR.out
theorem zri {d:Dk} (ho:d.Ok) {k:Nat} (hk:k<2) (n:Int):ziG (cutD d k (zdK d k n)) k=zdL d k n:=by
 have h1:=zjb ho hk n
 have h2:(((d.l k).take (zdK d k n)).length)=zdK d k n:=by rw [List.length_take];omega
 unfold ziG cutD zdL
 simp only [zbK,zrr,h2]
theorem zrA (base g:Nat) (d:Dk) (v:Nat→Value) (k:Nat) (n:Int) (w:World) (h:zaj w base g d v) (ho:d.Ok) (hk:k<2) :
  Calls Tryz.prog 34 #[.pointer (some ⟨g,1+k * 2,none⟩),.int .i64 n] w (zby base g v (zdL d k n) (.tuple #[]) w):=by
 obtain ⟨c0,c1⟩:=h.file hk
 obtain ⟨A,c,e0,_⟩:=h.slice hk
 rw [e0] at c0
 have HL:=ho.len hk
 have hs:=ho.safe k hk
 have HR:=hid (zjb ho hk n)
 have hq:(zdK d k n:Int)=(d.s k:Int)+min (if n<0 then 0 else n) (((d.l k).length:Int) - (d.s k:Int)):=by
  unfold zdK
  split <;> omega
 have HD:=hid h
 have HC:=hid (fun a w (ha:a=(zdK d k n:Int)) (h:zaj w base g d v)=>zmz base g d v k (zdK d k n) a w h ho hk ha HR.out)
 have HE:=hid (zri ho hk n)
 have HLE:Hid (((cutD d k (zdK d k n)).l k).length=zdK d k n):=hid (by
  show (updD d.l k _ k).length=_
  rw [zbK,List.length_take]
  have:=HR.out
  omega)
 obtain ⟨sk,hsk⟩:∃s,d.s k=s:=⟨_,rfl⟩
 have HSK:=hid hsk
 obtain ⟨lk,hlk⟩:∃s,(d.l k).length=s:=⟨_,rfl⟩
 obtain ⟨r,hr⟩:∃r,zdK d k n=r:=⟨_,rfl⟩
 rw [hsk,hlk,hr] at hq
 rw [hsk] at c1 hs
 rw [hlk] at c0 HL hs
 rw [hr] at HC HLE HR HE
 obtain ⟨m1,hm1⟩:∃m,(if n<0 then 0 else n)=m:=⟨_,rfl⟩
 rw [hm1] at hq
 have HRl:Hid (r≤lk):=hid (by have:=HR.out;omega)
 obtain ⟨m2,hm2⟩:∃m,min m1 ((lk:Int) - (sk:Int))=m:=⟨_,rfl⟩
 rw [hm2] at hq
 have hx:=fun (w:World) (ts:Array TypeId) (t:TypeId)=>zmo Tryz.prog n 0 m1 hm1 w ts t
 have hn:=fun (w:World) (ts:Array TypeId) (t:TypeId)=>zgx Tryz.prog m1 ((lk:Int) - (sk:Int)) m2 hm2 w ts t
 have hq2:(sk:Int)+m2=r:=hq.symm
 have hb:=HRl.out
 have q1:IntKind.i64.wrap ((lk:Int) - (sk:Int))=(lk:Int) - (sk:Int):=IntWalk.i64_in _ (by omega)
 have hm3:0≤m2∧m2≤4194304:=by
  have:0≤m1:=by rw [←hm1];split <;> omega
  omega
 obtain ⟨hm4,hm5⟩:=hm3
 clear hsk hlk hr hm1 hm2 hq h ho e0
 go_enter Tryz.func34,Tryz.ntmps34
 go_wp2_with fail
 go_quiet (fail)
 clear c0
 have c1:=((HD.out.drewN nq).file hk).2
 rw [HSK.out] at c1
 go_wp2_with fail
 with_reducible refine (HC.out _ _ (by first | rfl | omega) (HD.out.drewN nq)).mono ?_
 rintro e w1 ⟨v1,rfl,D,T,O⟩
 obtain ⟨c2,c3⟩:=D.file hk
 obtain ⟨A1,k1,e1,_⟩:=D.slice hk
 rw [e1,HLE.out] at c2
 have f3:=D.blk.frozen (1+k * 2+1)
 have HW:Hid (zby base g v (zdL d k n) (.tuple #[]) w (.returned (.tuple #[])) (w1.setCell ⟨g,1+k * 2+1,none⟩ (.int .i64 (r:Int)))):=hid
  ⟨v1,rfl,D.put (1+k * 2+1) _ (d':=zdL d k n) (by rw [zjv _ _ _ k hk,←HE.out];unfold ziG;rw [HLE.out]) (by rw [←HE.out];rfl),(((zai.refl _ w).drewN nq).trans T (fun _ _ h=>h)).at_ _ _,O⟩
 clear D T O e1 HC HE HD HLE c1
 go_wp2
 refine bodyPost_ret (v:=.tuple #[]) (results_none (by kernel_rfl) _ _ _) rfl HW.out
theorem zr0 (base g:Nat) (d:Dk) (v:Nat→Value) (f:Int) (w:World) (h:zaj w base g d v) (ho:d.Ok) :
  Calls Tryz.prog 62 #[.pointer (some ⟨g,0,none⟩),.int .i64 f] w (zby base g v (ze3 d f).1 (.int .i64 (ze3 d f).2) w):=by
 obtain ⟨_,_,_,_,_,_,_,c7⟩:=h.cells
 have HR:=hid (zgM g d f w c7)
 have HD:=hid h
 have HO:=hid (fun w (h:zaj w base g d v)=>zoZ base g d v 1 1 w h ho rfl (by decide))
 have HF:Hid (mayD d f≠0→(ze3 d f)=(d,mayD d f)):=hid (fun h=>by unfold ze3;rw [if_neg h])
 by_cases hm:mayD d f=0
 ·obtain ⟨k,hk,rfl,hd⟩:=zfH hm
  rw [hm] at HR
  have HY:Hid (ze3 d (k:Int)=if zcb d 1 then (zaL d 1,40) else (ziG (zaL d 1) k,0)):=hid (by unfold ze3;rw [if_pos hm];rfl)
  have HE:Hid (errD d 1=if zcb d 1 then 40 else 0):=hid rfl
  obtain ⟨b,hb⟩:∃b,zcb d 1=b:=⟨_,rfl⟩
  rw [hb] at HY HE
  have hk2:(k:Int)<2:=by omega
  clear hm hd h c7 HF hb ho
  cases b
  ·rw [HE.out] at HO
   go_enter Tryz.func62,Tryz.ntmps62
   go_wp2_with fail
   with_reducible refine HR.out.mono ?_
   rintro e w1 ⟨rfl,rfl⟩
   go_wp2_with fail
   with_reducible refine (HO.out _ HD.out).mono ?_
   rintro e w1 ⟨v1,rfl,D,T,O⟩
   obtain ⟨c2,c3⟩:=D.file hk
   obtain ⟨A1,k1,e1,_⟩:=D.slice hk
   rw [e1] at c2
   have f3:=D.blk.frozen (1+k * 2+1)
   have HW:Hid (zby base g v (ze3 d (k:Int)).1 (.int .i64 (ze3 d (k:Int)).2) w (.returned (.int .i64 0)) (w1.drew.setCell ⟨g,1+k * 2+1,none⟩ (.int .i64 (((zaL d 1).l k).length:Int)))):=hid (by
    rw [HY.out]
    exact ⟨v1,rfl,D.drew.put (1+k * 2+1) _ (d':=ziG (zaL d 1) k) (by rw [zjv _ _ _ k hk];rfl) rfl,T.drew.at_ _ _,O⟩)
   clear D T O e1 HO HD HR HE HY
   go_wp2_with fail
   go_region
   go_wp2
   go_ret
   exact HW.out
  ·have HY2:Hid (ze3 d (k:Int)=(zaL d 1,40)):=hid HY.out
   rw [HE.out] at HO
   go_enter Tryz.func62,Tryz.ntmps62
   go_wp2_with fail
   with_reducible refine HR.out.mono ?_
   rintro e w1 ⟨rfl,rfl⟩
   go_wp2_with fail
   with_reducible refine (HO.out _ HD.out).mono ?_
   rintro e w1 ⟨v1,rfl,D,T,O⟩
   have HW:Hid (zby base g v (ze3 d (k:Int)).1 (.int .i64 (ze3 d (k:Int)).2) w (.returned (.int .i64 40)) w1):=hid (by
    rw [HY2.out]
    exact ⟨v1,rfl,D,T,O⟩)
   clear D T O HO HD HR HE HY HY2
   go_wp2
   go_ret
   exact HW.out
 ·obtain ⟨m,hm2⟩:∃m,mayD d f=m:=⟨_,rfl⟩
  have HF2:=hid (HF.out hm)
  rw [hm2] at HR HF2 hm
  have HW:Hid (zby base g v (ze3 d f).1 (.int .i64 (ze3 d f).2) w (.returned (.int .i64 m)) w):=hid (by
   rw [HF2.out]
   exact .same h rfl (.refl _ _))
  have hm3:(m != 0)=true:=by rw [bne_iff_ne];exact hm
  clear h ho c7 HD HO HF HF2 hm2
  go_enter Tryz.func62,Tryz.ntmps62
  go_wp2_with fail
  with_reducible refine HR.out.mono ?_
  rintro e w1 ⟨rfl,rfl⟩
  go_wp2
  go_ret
  exact HW.out
theorem zrn {d:Dk} {k:Nat} (hk:k<2) (hd:d.dn=false) (n:Int) :
  zc7 d (k:Int) n=if n<0∨((d.l k).length:Int)<n then (d,12) else if zcb d 1 then (zaL d 1,40) else (cutD (zaL d 1) k n.toNat,0):=by
 unfold zc7
 rw [if_pos (zi6 hk hd)]
 rfl
theorem zsR (base g:Nat) (d:Dk) (v:Nat→Value) (f n:Int) (w:World) (h:zaj w base g d v) (ho:d.Ok) :
  Calls Tryz.prog 88 #[.pointer (some ⟨g,0,none⟩),.int .i64 f,.int .i64 n] w (zby base g v (zc7 d f n).1 (.int .i64 (zc7 d f n).2) w):=by
 obtain ⟨_,_,_,_,_,_,_,c7⟩:=h.cells
 have HR:=hid (zgM g d f w c7)
 have HD:=hid h
 have HO:=hid (fun w (h:zaj w base g d v)=>zoZ base g d v 1 1 w h ho rfl (by decide))
 have HF:Hid (mayD d f≠0→(zc7 d f n)=(d,mayD d f)):=hid (fun h=>by unfold zc7;rw [if_neg h])
 by_cases hm:mayD d f=0
 ·obtain ⟨k,hk,rfl,hd⟩:=zfH hm
  rw [hm] at HR
  have HY:=hid (zrn hk hd n)
  have HE:Hid (errD d 1=if zcb d 1 then 40 else 0):=hid rfl
  obtain ⟨b,hb⟩:∃b,zcb d 1=b:=⟨_,rfl⟩
  rw [hb] at HY HE
  have hk2:(k:Int)<2:=by omega
  obtain ⟨c0,_⟩:=h.file hk
  obtain ⟨A,c,e0,_⟩:=h.slice hk
  rw [e0] at c0
  have HLE:=ho.len hk
  obtain ⟨ln,hln⟩:∃l,(d.l k).length=l:=⟨_,rfl⟩
  have HLN:=hid hln
  rw [hln] at c0 HLE HY
  have HC:=hid (fun v1 w (m:Nat) (a:Int) (ha:a=(m:Int)) (hm:m≤ln) (h:zaj w base g (zaL d 1) v1)=>zmz base g (zaL d 1) v1 k m a w h (zfp ho 1) hk ha (by rw [zdB,hln];exact hm))
  clear hm hd c7 HF hb ho e0 hln
  rcases (show n<0∨(0≤n∧(ln:Int)<n)∨(0≤n∧n≤ln) by omega) with hn | hn | hn
  ·have HW:Hid (zby base g v (zc7 d (k:Int) n).1 (.int .i64 (zc7 d (k:Int) n).2) w (.returned (.int .i64 12)) w):=hid (by
    rw [HY.out,if_pos (.inl hn)]
    exact .same h rfl (.refl _ _))
   clear h HD HO HY HE HC
   go_enter Tryz.func88,Tryz.ntmps88
   go_wp2_with fail
   with_reducible refine HR.out.mono ?_
   rintro e w1 ⟨rfl,rfl⟩
   go_wp2
   go_ret
   exact HW.out
  ·obtain ⟨hn0,hn1⟩:=hn
   have HW:Hid (zby base g v (zc7 d (k:Int) n).1 (.int .i64 (zc7 d (k:Int) n).2) w (.returned (.int .i64 12)) w):=hid (by
    rw [HY.out,if_pos (.inr hn1)]
    exact .same h rfl (.refl _ _))
   clear h HD HO HY HE HC
   go_enter Tryz.func88,Tryz.ntmps88
   go_wp2_with fail
   with_reducible refine HR.out.mono ?_
   rintro e w1 ⟨rfl,rfl⟩
   go_wp2
   go_ret
   exact HW.out
  ·obtain ⟨hn0,hn1⟩:=hn
   have HZ:Hid (¬(n<0∨(ln:Int)<n)):=hid (by omega)
   obtain ⟨m,rfl⟩:=Int.eq_ofNat_of_zero_le hn0
   cases b
   ·have HY2:Hid (zc7 d (k:Int) (m:Int)=(cutD (zaL d 1) k m,0)):=hid (by rw [HY.out,if_neg HZ.out];rfl)
    rw [HE.out] at HO
    have HN:=hid hn1
    clear h HY HE HZ
    go_enter Tryz.func88,Tryz.ntmps88
    go_wp2_with fail
    with_reducible refine HR.out.mono ?_
    rintro e w1 ⟨rfl,rfl⟩
    go_wp2_with fail
    with_reducible refine (HO.out _ HD.out).mono ?_
    rintro e w1 ⟨v1,rfl,D,T,O⟩
    have D1:=hid D
    have T1:=hid T
    have O1:=hid O
    clear D T O c0
    go_wp2_with fail
    with_reducible refine (HC.out v1 _ m _ rfl (by have:=HN.out;omega) D1.out).mono ?_
    rintro e w2 ⟨v2,rfl,D,T,O⟩
    have HW:Hid (zby base g v (zc7 d (k:Int) (m:Int)).1 (.int .i64 (zc7 d (k:Int) (m:Int)).2) w (.returned (.int .i64 0)) w2):=hid (by
     rw [HY2.out]
     exact ⟨v2,rfl,D,T1.out.trans T (fun i hi h=>(O1.out i h).resolve_right (by omega)),fun b hb=>(O b hb).elim (fun h=>O1.out b h) (fun h=>.inr (Nat.le_trans T1.out.size h))⟩)
    clear D T O HO HD HR HC HY2 D1 T1 O1
    go_wp2
    go_ret
    exact HW.out
   ·have HY2:Hid (zc7 d (k:Int) (m:Int)=(zaL d 1,40)):=hid (by rw [HY.out,if_neg HZ.out];rfl)
    rw [HE.out] at HO
    clear h HY HE HZ HC
    go_enter Tryz.func88,Tryz.ntmps88
    go_wp2_with fail
    with_reducible refine HR.out.mono ?_
    rintro e w1 ⟨rfl,rfl⟩
    go_wp2_with fail
    with_reducible refine (HO.out _ HD.out).mono ?_
    rintro e w1 ⟨v1,rfl,D,T,O⟩
    have HW:Hid (zby base g v (zc7 d (k:Int) (m:Int)).1 (.int .i64 (zc7 d (k:Int) (m:Int)).2) w (.returned (.int .i64 40)) w1):=hid (by
     rw [HY2.out]
     exact ⟨v1,rfl,D,T,O⟩)
    clear D T O HO HD HR HY2
    go_wp2
    go_ret
    exact HW.out
 ·obtain ⟨m,hm2⟩:∃m,mayD d f=m:=⟨_,rfl⟩
  have HF2:=hid (HF.out hm)
  rw [hm2] at HR HF2 hm
  have HW:Hid (zby base g v (zc7 d f n).1 (.int .i64 (zc7 d f n).2) w (.returned (.int .i64 m)) w):=hid (by
   rw [HF2.out]
   exact .same h rfl (.refl _ _))
  have hm3:(m != 0)=true:=by rw [bne_iff_ne];exact hm
  clear h ho c7 HD HO HF HF2 hm2
  go_enter Tryz.func88,Tryz.ntmps88
  go_wp2_with fail
  with_reducible refine HR.out.mono ?_
  rintro e w1 ⟨rfl,rfl⟩
  go_wp2
  go_ret
  exact HW.out
end Go.Proofs.YtnjdckoljmgcjaaGreatDoor
