/-
  A command's bytes, and what holds while they are put.
-/
import Derived.Test.YtnjdckoljmgcjaaGreatDoorW11
import Derived.Laws.IdiomStrings
set_option maxRecDepth 100000
set_option maxHeartbeats 4000000
namespace Go.Proofs.YtnjdckoljmgcjaaGreatDoor
open Go.ChangeShapes Go.WideShapes Go.ChangeAt Go.RowKit
set_option linter.unusedVariables false
def zaB (w:World) (base g:Nat) (l:List Nat):Prop :=
 base≤g∧∃v,Blk w g 139 #[v]∧w.ownsRow base 5 1 v l.length (l.map fun y:Nat=>Value.int .u8 (y:Int))
theorem zmI {w:World} {base n g:Nat} {T:TypeId} {cs:Array Value} {v:Value} {xs:List Value} (h:w.ownsRow base 5 1 v n xs) (hg:Blk w g T cs) (hne:5≠T):v.ownBlock≠some g:=by
 rcases h.2 with ⟨rfl,_⟩ | ⟨g',cap,cur,rfl,_,hh,_⟩
 ·simp [Value.ownBlock]
 ·intro he
  have:g'=g:=by simpa [Value.ownBlock] using he
  subst this
  unfold Blk at hg
  rw [hh] at hg
  injection hg with hg
  injection hg with _ ht
  exact hne ht
theorem zpH {w w':World} {base:Nat} {e:TypeId} {v:Value} {n:Nat} {xs:List Value} (h:w.ownsRow base e 1 v n xs) (hb:Below w.heap.size w w'):w'.ownsRow base e 1 v n xs :=
 h.kept (row:=none) ⟨hb.os,hb.tape,hb.output,hb.size,fun k hk _=>hb.block k hk⟩ (by cases hv:v.ownBlock <;> simp)
theorem zaB.later {w w':World} {base g:Nat} {l:List Nat} (h:zaB w base g l) (hb:Below w.heap.size w w'):zaB w' base g l:=by
 obtain ⟨h0,v,h1,h2⟩:=h
 exact ⟨h0,v,h1.below hb h1.lt,zpH h2 hb⟩
theorem zaB.alloc {w:World} {base g:Nat} {l:List Nat} (h:zaB w base g l) (o:Obj):zaB (w.alloc o) base g l:=h.later ((Below.refl _ _).alloc (Nat.le_refl _) o)
theorem zaB.base_le {w:World} {base g:Nat} {l:List Nat} (h:zaB w base g l):base≤w.heap.size:=Nat.le_of_lt (Nat.lt_of_le_of_lt h.1 (by obtain ⟨_,v,h1,_⟩:=h;exact h1.lt))
def Puts (base g:Nat) (l:List Nat) (w:World) (en:Ending) (w':World):Prop:=en=.returned (.pointer (some ⟨g,0,none⟩))∧zaB w' base g l∧Below base w w'
theorem zsS {w w1:World} {base g:Nat} {l bs L:List Nat} {v v':Value} (hL:L=l ++ bs) (hg:base≤g) (hb:Blk w g 139 #[v]) (hown:w.ownsRow base 5 1 v l.length (l.map fun y:Nat=>Value.int .u8 (y:Int)))
  (hown':w1.ownsRow base 5 1 v' (l.length+bs.length) ((l.map fun y:Nat=>Value.int .u8 (y:Int)) ++ bs.map fun y:Nat=>Value.int .u8 (y:Int))) (hgr:w.grownBy w1 v.ownBlock) :
  Puts base g L w (.returned (.pointer (some ⟨g,0,none⟩))) (w1.setCell ⟨g,0,none⟩ v'):=by
 subst hL
 have hne:=zmI hown hb (by decide)
 have hb1:Blk w1 g 139 #[v]:=hb.grown hgr (fun h=>hne h.symm)
 have hne':=zmI hown' hb1 (by decide)
 have hsz:base≤w.heap.size:=Nat.le_of_lt (Nat.lt_of_le_of_lt hg hb.lt)
 refine ⟨rfl,⟨hg,v',hb1.set_ 0 v',?_⟩,Below.setCell (p:=⟨g,0,none⟩) ((Below.refl _ _).grown hgr hsz (fun k hk=>(hown.lt k hk).1)) hg _⟩
 rw [List.length_append,List.map_append]
 have hr:w1.grownBy (w1.setCell ⟨g,0,none⟩ v') (some g):=zaD (p:=⟨g,0,none⟩) (World.grownBy.refl _ _) (.inl rfl) _
 exact hown'.kept hr (.inr hne')
theorem ziZ {w:World} {x:Nat} (T:TypeId):Sees .u8 (w.alloc (.cells #[.int .u8 (x:Int)] T)) (some ⟨w.heap.size,0,none⟩) [x]:=by
 intro j y hj
 match j,hj with
 | 0,hj =>
  simp at hj
  subst hj
  exact ⟨w.heap.size,0,rfl,by simp,by rw [cell_of_row _ _ _ _ _ _ (heap_alloc_new w _)];rfl⟩
def zcv (t:Bool):Nat:=if t then 1 else 0
def zaw (s:ByteArray):List Nat:=s.data.toList.map UInt8.toNat
theorem zaR (s:ByteArray):(zaw s).length=s.size:=by simp [zaw]
theorem ziB (s:ByteArray):∀x∈zaw s,x<256:=by
 intro x hx
 obtain ⟨b,_,rfl⟩:=List.mem_map.1 hx
 exact b.toNat_lt
theorem zi3 (s:ByteArray):strN (zaw s)=s:=by
 apply ByteArray.ext
 apply Array.toList_inj.1
 simp only [strN,strOfNums_data,zaw,List.map_map]
 conv=>rhs;rw [←List.map_id s.data.toList]
 apply List.map_congr_left
 intro x hx
 simp
theorem zm8 (w:World) (s:ByteArray) (c:Nat) (T:TypeId) (fz:Nat × Nat):Sees .u8 (w.drew.alloc (.cells (bytesRow s c) T fz)) (some ⟨w.heap.size,0,none⟩) (zaw s):=by
 intro j x hj
 have hl:j<s.size:=by have:=(List.getElem?_eq_some_iff.1 hj).1;rw [zaR] at this;exact this
 have hh:(w.drew.alloc (.cells (bytesRow s c) T fz)).heap[w.heap.size]?=some (.cells (bytesRow s c) T fz):=by
  have:=heap_alloc_new w.drew (.cells (bytesRow s c) T fz)
  exact this
 refine ⟨w.heap.size,0,rfl,(Array.getElem?_eq_some_iff.1 hh).1,?_⟩
 rw [cell_of_row _ _ _ _ _ _ hh,Nat.zero_add]
 have hd:j<s.data.size:=hl
 unfold bytesRow
 rw [Array.getElem?_append_left (by simpa using hd)]
 simp only [zaw,List.getElem?_map,Array.getElem?_toList] at hj
 simp only [Array.getElem?_map,Array.getElem?_eq_getElem hd,Option.map_some] at hj ⊢
 injection hj with hj
 rw [←hj]
theorem zf9 (base g:Nat) (l:List Nat) (w:World) (h:zaB w base g l) (hlen:l.length≤140737488355328) :
  Calls Tryz.prog 57 #[.pointer (some ⟨g,0,none⟩)] w (zcy l w):=by
 obtain ⟨hg,v,hb,hown⟩:=h
 have c0:w.cell? ⟨g,0,none⟩=some v:=(hb.cell 0).trans rfl
 have f0:=hb.frozen 0
 obtain ⟨Av,cv,rfl,hn,_,hs⟩:=zda hown
 have HN:=hid hn
 have HS:=hid hs
 clear hb hown hn hs
 go_enter Tryz.func57,Tryz.ntmps57
 go_wp2_with fail
 with_reducible refine (zfu Av l l.length cv _ rfl hlen HN.out HS.out).mono ?_
 rintro en w1 hm
 obtain ⟨s,rfl,hown,hb⟩:=hm
 have HM:Hid (zcy l w (.returned s) w1):=hid ⟨s,rfl,hown,hb⟩
 clear hown hb
 go_wp2
 go_ret
 exact HM.out
theorem zoP (w:World):zaB (w.alloc (.cells #[.slice none 0 0] 139)) w.heap.size w.heap.size [] :=
 ⟨Nat.le_refl _,_,Blk.new _ _ _,World.ownsRow_nil _ _ _ _⟩
def za0 (g:Nat) (w w':World):Prop:=w.heap.size≤w'.heap.size∧∀k T cs,k≠g→5≠T→Blk w k T cs→Blk w' k T cs
theorem za0.of_below {g:Nat} {w w':World} (h:Below w.heap.size w w'):za0 g w w':=⟨h.size,fun _ _ _ _ _ hb=>hb.below h hb.lt⟩
theorem za0.trans {g:Nat} {a b c:World} (h:za0 g a b) (k:za0 g b c):za0 g a c:=⟨Nat.le_trans h.1 k.1,fun i T cs hi hT hb=>k.2 i T cs hi hT (h.2 i T cs hi hT hb)⟩
theorem za0.drew {g:Nat} {a b:World} (h:za0 g a.drew b):za0 g a b:=h
def zn3 (base g:Nat) (l:List Nat) (w:World) (en:Ending) (w':World):Prop:=Puts base g l w en w'∧za0 g w w'
theorem zq5 {w w1:World} {base g n:Nat} {v v':Value} {xs:List Value} (hown:w.ownsRow base 5 1 v n xs) (hgr:w.grownBy w1 v.ownBlock):za0 g w (w1.setCell ⟨g,0,none⟩ v') :=
 ⟨Nat.le_trans hgr.size (by simp),fun k T cs hk hT hb=>(hb.grown hgr (fun e=>zmI hown hb hT e.symm)).far hk _⟩
theorem zfJ (base g:Nat) (A:Option Addr) (l bs L:List Nat) (n c:Nat) (w:World) (hL:L=l ++ bs) (h:zaB w base g l) (hn:bs.length=n) (hA0:A=none→c=0) (hA:Sees .u8 w A bs) (hlen:l.length+n≤140737488355328) :
  Calls Tryz.prog 99 #[.pointer (some ⟨g,0,none⟩),.slice A n c] w (zn3 base g L w):=by
 obtain ⟨i0,hi,hz0,hz1,hz2⟩:=info_parts zcD
 have hsz:=h.base_le
 obtain ⟨hg,v,hb,hown⟩:=h
 have HA:=hid hA
 have HN:=hid hn
 have H0:=hid hA0
 have HO:=hid hown
 have hgl:=hb.lt
 have hne:=zmI hown hb (by decide)
 have HNE:=hid hne
 have HP:=hid (fun (w1:World) (v':Value) (h1:w1.ownsRow base 5 1 v' (l.length+bs.length) _) (h2:w.grownBy w1 v.ownBlock)=>And.intro (zsS (L:=L) hL hg hb hown h1 h2) (zq5 (g:=g) (v':=v') hown h2))
 have HL:=hid hL
 have HBk:=hid hb
 have c0:w.cell? ⟨g,0,none⟩=some v:=(hb.cell 0).trans rfl
 have f0:=hb.frozen 0
 obtain ⟨Av,cv,rfl,_,_,_⟩:=zda hown
 clear hb hown hA hn hA0 hne hL
 go_enter Tryz.func99,Tryz.ntmps99
 go_wp2_with (at_builtin;refine zbM rfl (.tmp 9) (.tmp 10) 45 rfl base 5 i0 (.int .u8 0) 1 Tryz.underlying45 hi hz0 hz1 hz2 rfl _ l.length _ rfl HO.out .u8 A c bs n HN.out rfl H0.out HA.out (by unfold maxLen;omega) (by omega) hsz ?_;intro v1 w1 hown1 hg1;rw [←HN.out] at hown1;have HR:=hid (HP.out w1 v1 hown1 hg1);have hb1:=HBk.out.grown hg1 (fun h=>HNE.out h.symm);have c1:=(hb1.cell 0).trans rfl;have f1:=hb1.frozen 0;obtain ⟨Aw,cw,rfl,_,_,_⟩:=znj (L:=L) HL.out hown1;clear hown1 hg1 hb1)
 go_ret
 exact HR.out
theorem zaT (base g:Nat) (l:List Nat) (x:Nat) (a:Int) (w:World) (h:zaB w base g l) (ha:a=(x:Int)) (hlen:l.length+1≤140737488355328) :
  Calls Tryz.prog 56 #[.pointer (some ⟨g,0,none⟩),.int .u8 a] w (zn3 base g (l ++ [x]) w):=by
 subst ha
 have HO:=hid (h.alloc (.cells #[.int .u8 (x:Int)] 5))
 have hB:=h.base_le
 clear h
 go_enter Tryz.func56,Tryz.ntmps56
 go_wp2_with fail
 refine (zfJ base g (some ⟨w.heap.size,0,none⟩) l [x] (l ++ [x]) 1 1 _ rfl HO.out rfl (fun h=>nomatch h) (ziZ _) hlen).mono ?_
 rintro en w1 ⟨⟨rfl,ho,hb⟩,hst⟩
 have HR:Hid (zaB w1 base g (l ++ [x])∧Below base w w1∧za0 g w w1):=hid ⟨ho,((Below.refl _ _).alloc hB _).trans hb,(za0.of_below ((Below.refl _ _).alloc (Nat.le_refl _) _)).trans hst⟩
 clear ho hb hst
 go_wp2
 go_ret
 exact ⟨⟨rfl,HR.out.1,HR.out.2.1⟩,HR.out.2.2⟩
theorem zaz (base g:Nat) (l:List Nat) (v:Nat) (a:Int) (w:World) (h:zaB w base g l) (ha:a=(v:Int)) (hv:v<18446744073709551616) (hlen:l.length+10≤140737488355328) :
  Calls Tryz.prog 131 #[.pointer (some ⟨g,0,none⟩),.int .u64 a] w (zn3 base g (l ++ zae v) w):=by
 subst ha
 have HO:=hid h
 have hB:=h.base_le
 have h10:=zah hv
 clear h
 go_enter Tryz.func131,Tryz.ntmps131
 go_wp2_with fail
 with_reducible refine (zli v _ hv).mono ?_
 rintro en w1 ⟨A1,c1,rfl,hn1,_,hs1,hb1⟩
 have HS:=hid hs1
 have HN:=hid hn1
 have HO1:=hid (HO.out.later hb1)
 have HB1:=hid hb1
 clear hs1 hn1 hb1
 go_wp2_with fail
 with_reducible refine (zfJ base g A1 l (zae v) (l ++ zae v) _ c1 _ rfl HO1.out rfl HN.out HS.out (by omega)).mono ?_
 rintro en w2 ⟨⟨rfl,ho,hb⟩,hst⟩
 have HR:Hid (zaB w2 base g (l ++ zae v)∧Below base w w2∧za0 g w w2):=hid ⟨ho,(HB1.out.mono hB).trans hb,(za0.of_below HB1.out).trans hst⟩
 clear ho hb hst
 go_wp2
 go_ret
 exact ⟨⟨rfl,HR.out.1,HR.out.2.1⟩,HR.out.2.2⟩
theorem zbJ (base g:Nat) (l:List Nat) (v:Nat) (a:Int) (w:World) (h:zaB w base g l) (ha:a=(v:Int)) (hv:v<18446744073709551616) (hlen:l.length+8≤140737488355328) :
  Calls Tryz.prog 238 #[.pointer (some ⟨g,0,none⟩),.int .u64 a] w (zn3 base g (l ++ zar v 8) w):=by
 subst ha
 have HO:=hid h
 have hB:=h.base_le
 have HL:=hid (zbt 8 v)
 clear h
 go_enter Tryz.func238,Tryz.ntmps238
 go_wp2_with fail
 with_reducible refine (zlP v 8 _ _ hv (by omega) (by omega)).mono ?_
 rintro en w1 ⟨A1,c1,rfl,hn1,_,hs1,hb1⟩
 have HS:=hid hs1
 have HN:=hid hn1
 have HO1:=hid (HO.out.later hb1)
 have HB1:=hid hb1
 clear hs1 hn1 hb1
 go_wp2_with fail
 with_reducible refine (zfJ base g A1 l (zar v 8) (l ++ zar v 8) 8 c1 _ rfl HO1.out HL.out HN.out HS.out hlen).mono ?_
 rintro en w2 ⟨⟨rfl,ho,hb⟩,hst⟩
 have HR:Hid (zaB w2 base g (l ++ zar v 8)∧Below base w w2∧za0 g w w2):=hid ⟨ho,(HB1.out.mono hB).trans hb,(za0.of_below HB1.out).trans hst⟩
 clear ho hb hst
 go_wp2
 go_ret
 exact ⟨⟨rfl,HR.out.1,HR.out.2.1⟩,HR.out.2.2⟩
theorem zbz (base g:Nat) (l L:List Nat) (s:ByteArray) (w:World) (hL:L=(l ++ zae s.size) ++ zaw s) (h:zaB w base g l) (hs:s.size≤9223372036854775807) (hlen:l.length+10+s.size≤140737488355328) :
  Calls Tryz.prog 239 #[.pointer (some ⟨g,0,none⟩),.string s] w (zn3 base g L w):=by
 have HO:=hid h
 have HL:=hid hL
 have hB:=h.base_le
 have h10:=zah (show s.size<18446744073709551616 by omega)
 have hcv:=fun (w:World)=>run_bytes_of_string (P:=Tryz.prog) w 9 45 5 s Tryz.underlying9 Tryz.underlying45 Tryz.underlying5
 have HSL:=hid (zaR s)
 clear h hL
 go_enter Tryz.func239,Tryz.ntmps239
 go_wp2_with fail
 with_reducible refine (zaz base g l s.size _ _ HO.out (by omega) (by omega) (by omega)).mono ?_
 rintro en w1 ⟨⟨rfl,ho,hb⟩,hst⟩
 have HO1:=hid ho
 have HB1:=hid hb
 have HT1:=hid hst
 have hB1:=ho.base_le
 clear ho hb hst
 go_wp2_with fail
 have HO2:Hid (zaB (w1.drew.alloc (.cells (bytesRow s (grownCap w1 s.size 0 5)) 5 ((bytesRow s (grownCap w1 s.size 0 5)).size,(bytesRow s (grownCap w1 s.size 0 5)).size+1))) base g (l ++ zae s.size)):=hid (by
  have h1:zaB w1.drew base g (l ++ zae s.size):=HO1.out
  exact h1.alloc _)
 have HB2:Hid (Below base w (w1.drew.alloc (.cells (bytesRow s (grownCap w1 s.size 0 5)) 5 ((bytesRow s (grownCap w1 s.size 0 5)).size,(bytesRow s (grownCap w1 s.size 0 5)).size+1)))):=hid ((zag HB1.out).alloc (by exact hB1) _)
 have HT2:Hid (za0 g w (w1.drew.alloc (.cells (bytesRow s (grownCap w1 s.size 0 5)) 5 ((bytesRow s (grownCap w1 s.size 0 5)).size,(bytesRow s (grownCap w1 s.size 0 5)).size+1)))):=hid (HT1.out.trans (za0.of_below ((zag (Below.refl _ w1)).alloc (by exact Nat.le_refl _) _)))
 have HS2:=hid (zm8 w1 s (grownCap w1 s.size 0 5) 5 ((bytesRow s (grownCap w1 s.size 0 5)).size,(bytesRow s (grownCap w1 s.size 0 5)).size+1))
 refine (zfJ base g (some ⟨w1.heap.size,0,none⟩) (l ++ zae s.size) (zaw s) L s.size _ _ HL.out HO2.out HSL.out (fun h=>nomatch h) HS2.out (by rw [List.length_append];omega)).mono ?_
 rintro en w2 ⟨⟨rfl,ho,hb⟩,hst⟩
 have HR:Hid (zaB w2 base g L∧Below base w w2∧za0 g w w2):=hid ⟨ho,HB2.out.trans hb,HT2.out.trans hst⟩
 clear ho hb hst HS2 HB2 HO2 HT2 HT1
 go_wp2
 go_ret
 exact ⟨⟨rfl,HR.out.1,HR.out.2.1⟩,HR.out.2.2⟩
end Go.Proofs.YtnjdckoljmgcjaaGreatDoor
namespace Go.Proofs.YtnjdckoljmgcjaaGreatDoor
open Go.ChangeShapes Go.WideShapes Go.ChangeAt Go.RowKit Go.Lib
def zdJ (s:ByteArray):List Nat:=zae s.size ++ zaw s
def e0 (c:K):List Nat:=if h0 c.kind then zar c.num.toNat 8 ++ zdJ c.foot else []
def e1 (c:K):List Nat:=if h1 c.kind then zae c.req.toNat else []
def e2 (c:K):List Nat:=if h2 c.kind then zdJ c.path else []
def e3 (c:K):List Nat:=if h3 c.kind then [c.mode.toNat] else []
def e4 (c:K):List Nat:=if h4 c.kind then zae c.n.toNat else []
def e5 (c:K):List Nat:=if h5 c.kind then zae c.time.toNat else []
def enc (c:K):List Nat:=c.kind.toNat :: (e0 c ++ (e1 c ++ (e2 c ++ (e3 c ++ (e4 c ++ e5 c)))))
theorem zdf {P:Program} {w w':World} {n:String} {cs:Array Value} {g base:Nat} (hg:P.globalNamed n=some g) (h:w.var? P n=some cs) (hlt:g<base) (hb:Below base w w'):w'.var? P n=some cs:=by
 unfold World.var? at h ⊢
 rw [hg] at h ⊢
 simp only [Option.bind_some] at h ⊢
 rw [hb.block g hlt];exact h
theorem zad.under {w w':World} {base:Nat} (h:zad w) (hlt:0<base) (hb:Below base w w'):zad w':=zdf zcx h hlt hb
theorem zad.lt {w:World} (h:zad w):0<w.heap.size:=by
 have h1:=h.cell 0
 rcases Nat.lt_or_ge 0 w.heap.size with hlt | hge
 ·exact hlt
 ·exfalso
  have h2:w.heap[0]?=none:=Array.getElem?_eq_none hge
  have h3:ptsV[0]?=some (.int .u8 0):=rfl
  rw [h3] at h1
  simp [World.cell?,h2] at h1
def zcu (w0 w:World) (base g b:Nat) (c:K) (l:List Nat):Prop:=zaB w base g l∧Blk w b 61 (cellsOf c)∧g<b∧Below base w0 w∧zad w∧0<base∧w0.heap.size≤b∧za0 g w0 w
theorem zcu.start {w:World} {base g:Nat} {l:List Nat} (h:zaB w base g l) (hP:zad w) (hb:0<base) (c:K):zcu w (w.alloc (.cells (cellsOf c) 61)) base g w.heap.size c l :=
 ⟨h.alloc _,Blk.new _ _ _,by obtain ⟨_,v,h1,_⟩:=h;exact h1.lt,(Below.refl _ _).alloc h.base_le _,hP.alloc _,hb,Nat.le_refl _,za0.of_below ((Below.refl _ _).alloc (Nat.le_refl _) _)⟩
theorem zcu.on {w0 w w':World} {base g b:Nat} {c:K} {l:List Nat} (h:zcu w0 w base g b c l) (hb:Below w.heap.size w w'):zcu w0 w' base g b c l :=
 ⟨h.1.later hb,h.2.1.below hb h.2.1.lt,h.2.2.1,h.2.2.2.1.trans (hb.mono h.1.base_le),h.2.2.2.2.1.below hb,h.2.2.2.2.2.1,h.2.2.2.2.2.2.1,h.2.2.2.2.2.2.2.trans (za0.of_below hb)⟩
theorem zcu.drew {w0 w:World} {base g b:Nat} {c:K} {l:List Nat} (h:zcu w0 w base g b c l):zcu w0 w.drew base g b c l :=
 ⟨h.1,h.2.1.drew,h.2.2.1,zag h.2.2.2.1,h.2.2.2.2.1,h.2.2.2.2.2.1,h.2.2.2.2.2.2.1,h.2.2.2.2.2.2.2⟩
theorem zcu.put {w0 w w':World} {base g b:Nat} {c:K} {l l':List Nat} (h:zcu w0 w base g b c l) (ho:zaB w' base g l') (hb:Below base w w') (hs:za0 g w w'):zcu w0 w' base g b c l' :=
 ⟨ho,hs.2 b _ _ (Nat.ne_of_gt h.2.2.1) (by decide) h.2.1,h.2.2.1,h.2.2.2.1.trans hb,h.2.2.2.2.1.under h.2.2.2.2.2.1 hb,h.2.2.2.2.2.1,h.2.2.2.2.2.2.1,h.2.2.2.2.2.2.2.trans hs⟩
theorem zcu.parts {w0 w:World} {base g b:Nat} {c:K} {l:List Nat} (h:zcu w0 w base g b c l):zad w:=h.2.2.2.2.1
theorem zcu.oat {w0 w:World} {base g b:Nat} {c:K} {l:List Nat} (h:zcu w0 w base g b c l):zaB w base g l:=h.1
theorem zcu.bel {w0 w:World} {base g b:Nat} {c:K} {l:List Nat} (h:zcu w0 w base g b c l):Below base w0 w:=h.2.2.2.1
theorem zcu.stays {w0 w:World} {base g b:Nat} {c:K} {l:List Nat} (h:zcu w0 w base g b c l):za0 g w0 w:=h.2.2.2.2.2.2.2
theorem zcu.two {w0 w:World} {base g b:Nat} {c:K} {l:List Nat} (h:zcu w0 w base g b c l):w.cell? ⟨b,1,none⟩=some (.int .u64 c.num)∧w.cell? ⟨b,2,none⟩=some (.string c.foot) :=
 ⟨(zaa h.2.1).1.2.1,(zaa h.2.1).1.2.2.1⟩
end Go.Proofs.YtnjdckoljmgcjaaGreatDoor
