/-
  The document's table of kinds (moothillref07.Has), and a command of its own in a box.
-/
import Derived.Test.YtnjdckoljmgcjaaGreatDoorW07
import Derived.Laws.Rows
import Derived.Laws.Tables
import Derived.Great.BuildSlice
set_option maxRecDepth 100000
set_option maxHeartbeats 4000000
namespace Go.Proofs.YtnjdckoljmgcjaaGreatDoor
open Go.ChangeShapes Go.WideShapes Go.ChangeAt Go.RowKit
theorem zvk (s:ByteArray) (k:Nat) (h:k<s.size):L (s.extract k (k+1))=[s[k]'h]:=by
 have hl:k<(L s).length:=by rw [zbA];exact h
 rw [zjG,List.drop_eq_getElem_cons hl]
 simp [ztH s k h]
theorem zj7 (s:ByteArray) (k:Nat) (h:k<s.size):(L s).drop k=s[k]'h :: (L s).drop (k+1):=by
 have hl:k<(L s).length:=by rw [zbA];exact h
 rw [List.drop_eq_getElem_cons hl,ztH s k h]
theorem zq0 {s p:ByteArray} {k:Nat} (hc:zkJ (L p)) (h:k<s.size) (h47:s[k]'h≠47) :
  zkJ (L (p ++ s.extract k (k+1)))∧L (p ++ s.extract k (k+1)) ++ (L s).drop (k+1)=L p ++ (L s).drop k:=by
 rw [zgv,zvk s k h,zj7 s k h]
 refine ⟨?_,by simp⟩
 intro c hx
 rcases List.mem_append.1 hx with hx | hx
 ·exact hc c hx
 ·simp at hx;subst hx;exact h47
theorem zmK {s p:ByteArray} {k:Nat} (hc:zkJ (L p)) (h:k<s.size) (h47:s[k]'h=47):zat (L p ++ (L s).drop k)=L p :: zat ((L s).drop (k+1)):=by
 rw [zj7 s k h,h47,ziq,zeS hc];rfl
theorem zmk {s p:ByteArray} {k:Nat} (hc:zkJ (L p)) (h:¬k<s.size):zat (L p ++ (L s).drop k)=[L p]:=by
 rw [List.drop_of_length_le (by rw [zbA];omega),List.append_nil,zeS hc]
def zte (s:ByteArray) (w:World) (e:Ending) (w':World):Prop :=
 Below w.heap.size w w'∧((zcR [] (zat (L s))=none∧e=.returned (.tuple #[.slice none 0 0,.int .i64 30])) ∨
  ∃v ys,e=.returned (.tuple #[v,.int .i64 0])∧ze0 w' v ys∧zcR [] (zat (L s))=some (ys.map L)∧ys.length≤s.size+1)
def ziH (s:ByteArray) (xs:List ByteArray) (p:ByteArray) (k:Nat):Prop :=
 (k≤s.size∧zkJ (L p)∧zcR (xs.map L) (zat (L p ++ (L s).drop k))=zcR [] (zat (L s))∧xs.length≤k∧p.size≤k)∨(k=s.size+1∧zcR [] (zat (L s))=some (xs.map L)∧xs.length≤k∧p.size≤k)
theorem zlj (s:ByteArray):ziH s [] ⟨#[]⟩ 0:=.inl ⟨Nat.zero_le _,(fun _ hc=>nomatch hc),rfl,Nat.le_refl _,Nat.le_refl _⟩
theorem znX {s p:ByteArray} {xs:List ByteArray} {k:Nat} (h:ziH s xs p k) (hk:k<s.size) (h47:s[k]'hk≠47):ziH s xs (p ++ s.extract k (k+1)) (k+1):=by
 rcases h with ⟨_,hc,ht,hl,hp⟩ | ⟨h,_⟩
 ·obtain ⟨h1,h2⟩:=zq0 hc hk h47
  refine .inl ⟨by omega,h1,by rw [h2];exact ht,by omega,?_⟩
  rw [ByteArray.size_append,ByteArray.size_extract]
  omega
 ·omega
theorem znH {s p:ByteArray} {xs ys:List ByteArray} {k:Nat} (h:ziH s xs p k) (hle:k≤s.size) (hk:(hk:k<s.size)→s[k]'hk=47) (hl1:ys.length≤xs.length+1) (ht:zd9 (xs.map L) (L p)=some (ys.map L)):ziH s ys ⟨#[]⟩ (k+1):=by
 rcases h with ⟨_,hc,h,hl,hp⟩ | ⟨h,_⟩
 ·by_cases hlt:k<s.size
  ·rw [zmK hc hlt (hk hlt)] at h
   simp only [zcR] at h
   rw [ht] at h
   exact .inl ⟨by omega,(fun _ hc=>nomatch hc),h,by omega,Nat.zero_le _⟩
  ·rw [zmk hc hlt] at h
   simp only [zcR] at h
   rw [ht] at h
   exact .inr ⟨by omega,h.symm,by omega,Nat.zero_le _⟩
 ·omega
theorem znZ {s p:ByteArray} {xs:List ByteArray} {k:Nat} (h:ziH s xs p k) (hle:k≤s.size) (hk:(hk:k<s.size)→s[k]'hk=47) (ht:zd9 (xs.map L) (L p)=none):zcR [] (zat (L s))=none:=by
 rcases h with ⟨_,hc,h,hl⟩ | ⟨h,_⟩
 ·by_cases hlt:k<s.size
  ·rw [zmK hc hlt (hk hlt)] at h
   simp only [zcR] at h
   rw [ht] at h
   exact h.symm
  ·rw [zmk hc hlt] at h
   simp only [zcR] at h
   rw [ht] at h
   exact h.symm
 ·omega
theorem zqz {s p:ByteArray} {xs:List ByteArray} {k:Nat} (h:ziH s xs p k) (hk:¬k≤s.size):zcR [] (zat (L s))=some (xs.map L)∧xs.length≤s.size+1:=by
 rcases h with ⟨h,_⟩ | ⟨h1,h2,h3,_⟩
 ·omega
 ·exact ⟨h2,by omega⟩
theorem zp5 {s p:ByteArray} {xs:List ByteArray} {k:Nat} (h:ziH s xs p k):xs.length≤k∧k≤s.size+1∧p.size≤k:=by
 rcases h with ⟨h1,_,_,h2,h3⟩ | ⟨h1,_,h2,h3⟩
 ·exact ⟨h2,by omega,h3⟩
 ·exact ⟨h2,by omega,h3⟩
theorem zjT (s:ByteArray) (w:World) (hs:s.size≤90000):Calls Tryz.prog 197 #[.string s] w (zte s w):=by
 go_enter Tryz.func197,Tryz.ntmps197
 go_wp2
 go_loopw [4,5,6,7] (fun v p _ i wr=>∃(xs:List ByteArray) (q:ByteArray) (k:Nat),i=.int .i64 k∧p=.string q∧Hid (ze0 wr v xs)∧Hid (ziH s xs q k)∧Hid (Below w.heap.size w wr)) (fun _ _ _ i _=>s.size+1 - (intOf i).toNat)
 case atStart=>exact ⟨[],⟨#[]⟩,0,rfl,rfl,hid (ze0.nil _),hid (zlj s),hid (Below.refl _ _)⟩
 case round =>
  obtain ⟨xs,q,k,rfl,rfl,HH,HU,HB⟩:=hrel
  obtain ⟨hl1,hl2,hl3⟩:=zp5 HU.out
  by_cases hle:k≤s.size
  ·by_cases h47:∃hk:k<s.size,s[k]'hk≠47
   ·obtain ⟨hk,h47⟩:=h47
    have hb1:((((s[k]'hk).toNat:Int)) != 47)=true:=by
     rw [bne_iff_ne]
     intro h
     exact h47 (UInt8.toNat_inj.1 (by simpa using (show (s[k]'hk).toNat=47 by omega)))
    have HK:=hid (znX HU.out hk h47)
    clear h47
    go_wp2
    go_roundw
    case rel=>exact ⟨xs,_,k+1,by go_num,rfl,HH,HK,HB⟩
    case measure=>simp [intOf];omega
   ·have h47':(hk:k<s.size)→s[k]'hk=47:=fun hk=>Decidable.byContradiction fun h=>h47 ⟨hk,h⟩
    have HF:=hid (fun ht=>znZ HU.out hle h47' ht)
    have HT:=hid (fun ys (h1:ys.length≤xs.length+1) ht=>znH (ys:=ys) HU.out hle h47' h1 ht)
    clear h47
    by_cases hk:k<s.size
    all_goals
     first
      | have hb1:((((s[k]'hk).toNat:Int)) != 47)=false:=by rw [h47' hk];rfl
      | skip
     clear h47'
     go_wp2_with fail
     refine (zsi _ xs q _ HH.out (by omega) (by omega)).mono ?_
     rintro e w1 ⟨hb,⟨ht,rfl⟩ | ⟨v1,ys,rfl,hh,ht,hl⟩⟩
     ·have H1:=hid (HB.out.trans (hb.mono HB.out.size))
      have H2:=hid (HF.out ht)
      clear hb ht HF HT
      go_wp2
      go_ret2
      exact ⟨H1.out,.inl ⟨H2.out,rfl⟩⟩
     ·have H1:=hid (HB.out.trans (hb.mono HB.out.size))
      have H2:=hid (HT.out ys hl ht)
      have H3:=hid hh
      clear hb ht HF HT hl hh
      go_wp2
      go_roundw
      case rel=>exact ⟨ys,_,k+1,by go_num,rfl,H3,H2,H1⟩
      case measure=>simp [intOf];omega
  ·have H:=hid (zqz HU.out hle)
   go_wp2
   go_ret2
   exact ⟨HB.out,.inr ⟨_,xs,rfl,HH.out,H.out.1,H.out.2⟩⟩
def zjy (l:List (List UInt8)) (k:Nat):List UInt8:=join (l.take k)
theorem zh8 {l:List (List UInt8)} {k:Nat} (h:k<l.length):zjy l (k+1)=(if 0<k then zjy l k ++ [47] else []) ++ l[k]:=by
 unfold zjy
 rw [List.take_succ_eq_append_getElem h]
 by_cases h0:0<k
 ·rw [if_pos h0,zlk (by intro h1;have:=congrArg List.length h1;rw [List.length_take,List.length_nil] at this;omega) (by simp),zsQ];simp
 ·obtain rfl:k=0:=by omega
  simp [join]
theorem zpU (l:List (List UInt8)):zjy l l.length=join l:=by unfold zjy;rw [List.take_length]
theorem zrp (l:List (List UInt8)) (m:Nat) (hm:∀x∈l,x.length≤m):∀k,k≤l.length→(zjy l k).length≤k * (m+1):=by
 intro k
 induction k with
 | zero=>intro _;simp [zjy,join]
 | succ k ih =>
  intro hk
  rw [zh8 (by omega)]
  have h1:=ih (by omega)
  have h2:=hm _ (List.getElem_mem (show k<l.length by omega))
  have h3:(k+1) * (m+1)=k * (m+1)+(m+1):=Nat.succ_mul _ _
  split <;> simp <;> omega
def zum (l:List UInt8) (w:World) (e:Ending) (w':World):Prop:=∃r:ByteArray,e=.returned (.string r)∧L r=l∧Below w.heap.size w w'
theorem zui (s:ByteArray) (c:UInt8):L (s ++ ⟨#[c]⟩)=L s ++ [c]:=by rw [zgv];rfl
theorem ze7 (v:Value) (xs:List ByteArray) (w:World) (hx:ze0 w v xs) (hn:xs.length≤1000) (hz:∀x∈xs,x.size≤1000):Calls Tryz.prog 198 #[v] w (zum (join (xs.map L)) w):=by
 obtain ⟨A,c,rfl,hA,hc,hm,hv⟩:=hx
 have HV:=hid hv
 have HZ:=hid hz
 have HJ:=hid (zrp (xs.map L) 1000 (by intro x hx;obtain ⟨y,hy,rfl⟩:=List.mem_map.1 hx;rw [zbA];exact hz y hy))
 clear hv hA hz
 go_enter Tryz.func198,Tryz.ntmps198
 go_wp2
 go_loop [3,4] (fun s i=>∃(r:ByteArray) (k:Nat),k≤xs.length∧i=.int .i64 k∧s=.string r∧Hid (L r=zjy (xs.map L) k)) (fun _ i=>xs.length - (intOf i).toNat)
 case atStart=>exact ⟨_,0,Nat.zero_le _,rfl,rfl,hid rfl⟩
 case round =>
  obtain ⟨r,k,hk,rfl,rfl,H⟩:=hrel
  by_cases hlt:k<xs.length
  ·obtain ⟨b,o,rfl,hb,hcell⟩:=ztK HV.out hlt
   have HS:=hid (zh8 (l:=xs.map L) (k:=k) (by simpa using hlt))
   have h2:(k:Int)<xs.length:=by omega
   have hz1:xs[k].size≤1000:=HZ.out _ (List.getElem_mem hlt)
   have hz2:r.size≤1001000:=by
    have h:=HJ.out k (by simp;omega)
    rw [←H.out,zbA] at h
    omega
   by_cases h0:0<k
   all_goals
    go_wp2
    go_round
    case rel =>
     refine ⟨_,k+1,by omega,by go_num,rfl,hid ?_⟩
     rw [HS.out]
     first
      | rw [if_pos h0,zgv,zui,H.out];simp
      | (rw [if_neg h0,zgv,H.out];obtain rfl:k=0:=by omega
         simp [zjy,join])
    case measure=>simp [intOf];omega
  ·obtain rfl:k=xs.length:=by omega
   go_wp2
   go_ret
   exact ⟨r,rfl,by rw [H.out,←zpU (xs.map L),List.length_map],Below.refl _ _⟩
def zuI (n:List UInt8 × Nat) (w:World) (e:Ending) (w':World):Prop:=∃r:ByteArray,e=.returned (.tuple #[.string r,.int .i64 (n.2:Int)])∧L r=n.1∧Below w.heap.size w w'
theorem zfx {n:List UInt8 × Nat} {l:List UInt8} {k:Nat} {w w':World} {e:Ending} (h:n=(l,k)) (r:ByteArray) (hr:L r=l) (he:e=.returned (.tuple #[.string r,.int .i64 (k:Int)])) (hb:Below w.heap.size w w'):zuI n w e w':=by
 subst h;exact ⟨r,he,hr,hb⟩
theorem znI {s:ByteArray} {ys:List ByteArray} (h:zcR [] (zat (L s))=some (ys.map L)):∀y∈ys,y.size≤s.size:=by
 intro y hy
 rcases zph h (L y) (List.mem_map_of_mem hy) with h | h
 ·cases h
 ·have:=zkK _ _ h
  rwa [zbA,zbA] at this
theorem zfv (s:ByteArray) (w:World) (hs:s.size≤900):Calls Tryz.prog 166 #[.string s] w (zuI (zcO (L s)) w):=by
 go_enter Tryz.func166,Tryz.ntmps166
 go_wp2_with fail
 refine (zjT s _ (by omega)).mono ?_
 rintro e w1 ⟨hb,⟨ht,rfl⟩ | ⟨v,ys,rfl,hh,ht,hl⟩⟩
 ·have HN:Hid (zcO (L s)=([],30)):=hid (by unfold zcO;rw [ht])
  have HB:=hid hb
  clear hb ht
  go_wp2
  go_ret2
  exact zfx HN.out ⟨#[]⟩ rfl rfl HB.out
 ·have HN:Hid (zcO (L s)=zcU (ys.map L)):=hid (by unfold zcO;rw [ht])
  have hz:=znI ht
  have HZ:Hid (∀y∈ys,y.size≤1000):=hid (fun y hy=>Nat.le_trans (hz y hy) (by omega))
  have HB:=hid hb
  have HH:=hid hh
  clear hb ht hz
  obtain ⟨A,c,rfl,-⟩:=hh
  have hlen:(ys.map L).length=ys.length:=List.length_map ..
  by_cases h0:ys=[]
  ·subst h0
   have H:Hid (zcU ([]:List (List UInt8))=([],13)):=hid rfl
   go_wp2
   go_ret2
   exact zfx HN.out ⟨#[]⟩ rfl rfl HB.out
  ·have hpos:0<ys.length:=List.length_pos_iff.2 h0
   have hne:(ys.map L)≠[]:=by simpa using h0
   have e0:((ys.length:Int) == 0)=false:=by simp;exact h0
   by_cases h8:8<ys.length
   ·have H:Hid (zcU (ys.map L)=([],31)):=hid (by unfold zcU;rw [if_neg hne,hlen,if_pos h8])
    clear hlen hne h0
    go_wp2
    go_ret2
    exact zfx (HN.out.trans H.out) ⟨#[]⟩ rfl rfl HB.out
   ·by_cases h64:64<(join (ys.map L)).length
    ·have H:Hid (zcU (ys.map L)=([],11)):=hid (by unfold zcU;rw [if_neg hne,hlen,if_neg h8,if_pos h64])
     have H64:=hid h64
     clear hlen hne h0 h64
     go_wp2_with fail
     refine (ze7 _ ys _ HH.out (by omega) HZ.out).mono ?_
     rintro e w2 ⟨r,rfl,hr,hb2⟩
     have hr64:64<r.size:=by rw [←zbA,hr];exact H64.out
     have HB2:=hid (zgw HB.out hb2)
     clear hr hb2
     go_wp2
     go_ret2
     exact zfx (HN.out.trans H.out) ⟨#[]⟩ rfl rfl HB2.out
    ·have H:Hid (zcU (ys.map L)=(join (ys.map L),0)):=hid (zkB hne (by omega) (by omega))
     have H64:=hid h64
     clear hlen hne h0 h64
     go_wp2_with fail
     refine (ze7 _ ys _ HH.out (by omega) HZ.out).mono ?_
     rintro e w2 ⟨r,rfl,hr,hb2⟩
     have hr64:r.size≤64:=by rw [←zbA,hr];have:=H64.out;omega
     have HB2:=hid (zgw HB.out hb2)
     have HH2:=hid (HH.out.below hb2)
     clear hr hb2
     go_wp2_with fail
     refine (ze7 _ ys _ HH2.out (by omega) HZ.out).mono ?_
     rintro e w3 ⟨r2,rfl,hr2,hb3⟩
     have HB3:=hid (zgw HB2.out hb3)
     have HR:=hid hr2
     clear hr2 hb3
     go_wp2
     go_ret2
     exact zfx (HN.out.trans H.out) r2 HR.out rfl HB3.out
theorem zap (s:ByteArray) (w:World) (hs:s.size≤900):Calls Tryz.prog 133 #[.string s] w (Asks (.bool (right (L s))) w):=by
 have hr:right (L s)=decide ((zcO (L s)).2=0∧(zcO (L s)).1=L s):=by
  rw [zry]
  exact decide_eq_decide.2 ⟨fun h=>by rw [h];exact ⟨rfl,rfl⟩,fun h=>Prod.ext h.2 h.1⟩
 by_cases h0:(zcO (L s)).2=0
 ·have HR:Hid (right (L s)=decide ((zcO (L s)).1=L s)):=hid (by rw [hr];exact decide_eq_decide.2 ⟨fun h=>h.2,fun h=>⟨h0,h⟩⟩)
  have H0:=hid h0
  clear h0 hr
  go_enter Tryz.func133,Tryz.ntmps133
  go_wp2_with fail
  refine (zfv s _ hs).mono ?_
  rintro e w1 ⟨r,rfl,hr,hb⟩
  rw [H0.out]
  have HB:=hid hb
  have H:=hid hr
  clear hb hr
  go_wp2
  go_ret
  exact ⟨zab (by rw [HR.out,←H.out,zbh,zbh,Bool.eq_iff_iff];simp),HB.out⟩
 ·have HR:Hid (right (L s)=false):=hid (by rw [hr];exact decide_eq_false (fun h=>h0 h.1))
  obtain ⟨k,hk⟩:∃k:Nat,(zcO (L s)).2=k:=⟨_,rfl⟩
  rw [hk] at h0
  have e0:((k:Int) == 0)=false:=by simpa using h0
  have HK:=hid hk
  clear hk h0 hr
  go_enter Tryz.func133,Tryz.ntmps133
  go_wp2_with fail
  refine (zfv s _ hs).mono ?_
  rintro e w1 ⟨r,rfl,hr,hb⟩
  rw [HK.out]
  have HB:=hid hb
  clear hb hr
  go_wp2
  go_ret
  exact ⟨zab HR.out.symm,HB.out⟩
end Go.Proofs.YtnjdckoljmgcjaaGreatDoor
namespace Go.Proofs.YtnjdckoljmgcjaaGreatDoor
open Go.ChangeShapes Go.WideShapes Go.ChangeAt Go.RowKit Go.Lib
set_option linter.unusedSimpArgs false
def ztM:List Bool:=[false,false,false,false,false,false,true,true,false,false,true,true,true,true,false,false,false,false,true,true,false,false,false,true,true,true,true,true,false,false,true,true,true,true,false,false,true,true,true,false,false,false,true,true,true,false,true,false,true,false,false,false,false,true]
def zaH:Array Value:=(ztM.map Value.bool).toArray
theorem zkt {n g:Nat} {a w:World} (h:Below n a w) (hg:n≤g) (cs:Array Value):Below n a (w.setRow g cs) :=
 ⟨h.os,h.tape,h.output,by have:=h.size;simpa [World.setRow] using this,fun i hi=>(setRow_other w g i cs (by omega)).trans (h.block i hi)⟩
theorem ztR (w:World) {zs:Array Value} (hz:#[Value.bool false,Value.bool false,Value.bool false,Value.bool false,Value.bool false,Value.bool false,Value.bool false,Value.bool false,Value.bool false,Value.bool false,Value.bool false,Value.bool false,Value.bool false,Value.bool false,Value.bool false,Value.bool false,Value.bool false,Value.bool false,Value.bool false,Value.bool false,Value.bool false,Value.bool false,Value.bool false,Value.bool false,Value.bool false,Value.bool false,Value.bool false,Value.bool false,Value.bool false,Value.bool false,Value.bool false,Value.bool false,Value.bool false,Value.bool false,Value.bool false,Value.bool false,Value.bool false,Value.bool false,Value.bool false,Value.bool false,Value.bool false,Value.bool false,Value.bool false,Value.bool false,Value.bool false,Value.bool false,Value.bool false,Value.bool false,Value.bool false,Value.bool false,Value.bool false,Value.bool false,Value.bool false,Value.bool false]=zs):(w.alloc (.cells #[Value.bool false,Value.bool false,Value.bool false,Value.bool false,Value.bool false,Value.bool false,Value.bool false,Value.bool false,Value.bool false,Value.bool false,Value.bool false,Value.bool false,Value.bool false,Value.bool false,Value.bool false,Value.bool false,Value.bool false,Value.bool false,Value.bool false,Value.bool false,Value.bool false,Value.bool false,Value.bool false,Value.bool false,Value.bool false,Value.bool false,Value.bool false,Value.bool false,Value.bool false,Value.bool false,Value.bool false,Value.bool false,Value.bool false,Value.bool false,Value.bool false,Value.bool false,Value.bool false,Value.bool false,Value.bool false,Value.bool false,Value.bool false,Value.bool false,Value.bool false,Value.bool false,Value.bool false,Value.bool false,Value.bool false,Value.bool false,Value.bool false,Value.bool false,Value.bool false,Value.bool false,Value.bool false,Value.bool false] 204)).heap[w.heap.size]?=some (.cells zs 204 (0,0)):=by
 subst hz
 exact Blk.new w _ _
theorem zbb (w:World):Calls Tryz.prog 132 #[] w fun e w'=>e=.returned (.agg zaH)∧Below w.heap.size w w':=by
 obtain ⟨zs,hz⟩:∃zs,#[Value.bool false,Value.bool false,Value.bool false,Value.bool false,Value.bool false,Value.bool false,Value.bool false,Value.bool false,Value.bool false,Value.bool false,Value.bool false,Value.bool false,Value.bool false,Value.bool false,Value.bool false,Value.bool false,Value.bool false,Value.bool false,Value.bool false,Value.bool false,Value.bool false,Value.bool false,Value.bool false,Value.bool false,Value.bool false,Value.bool false,Value.bool false,Value.bool false,Value.bool false,Value.bool false,Value.bool false,Value.bool false,Value.bool false,Value.bool false,Value.bool false,Value.bool false,Value.bool false,Value.bool false,Value.bool false,Value.bool false,Value.bool false,Value.bool false,Value.bool false,Value.bool false,Value.bool false,Value.bool false,Value.bool false,Value.bool false,Value.bool false,Value.bool false,Value.bool false,Value.bool false,Value.bool false,Value.bool false]=zs:=⟨_,rfl⟩
 have N:=hid (ztR w hz)
 have H4:Hid ((Tryz.prog.info? 204).map (·.size)=some zaH.size):=hid (by kernel_rfl)
 have H6:Hid (zs.size=zaH.size):=hid (by rw [←hz];rfl)
 have H5:Hid (zaH.all (·.oneCell')=true):=hid (by kernel_rfl)
 have HZ:=hid hz
 clear hz
 go_enter Tryz.func132,Tryz.ntmps132
 go_wp2_with (first
  | (with_reducible refine wpList_buildTo (o:=⟨some 10,_,_,_,_,_⟩) rfl 204 _ rfl (some 10) rfl zaH (by kernel_rfl) ?_)
  | (with_reducible refine wpList_store_row (o:=⟨none,_,_,_,_,_⟩) rfl 204 (.tmp 0) (.tmp 10) rfl w.heap.size zaH rfl rfl 204 zs N.out H4.out H6.out H5.out ?_))
 obtain ⟨W0,hW0⟩:∃W0,w.alloc (.cells #[Value.bool false,Value.bool false,Value.bool false,Value.bool false,Value.bool false,Value.bool false,Value.bool false,Value.bool false,Value.bool false,Value.bool false,Value.bool false,Value.bool false,Value.bool false,Value.bool false,Value.bool false,Value.bool false,Value.bool false,Value.bool false,Value.bool false,Value.bool false,Value.bool false,Value.bool false,Value.bool false,Value.bool false,Value.bool false,Value.bool false,Value.bool false,Value.bool false,Value.bool false,Value.bool false,Value.bool false,Value.bool false,Value.bool false,Value.bool false,Value.bool false,Value.bool false,Value.bool false,Value.bool false,Value.bool false,Value.bool false,Value.bool false,Value.bool false,Value.bool false,Value.bool false,Value.bool false,Value.bool false,Value.bool false,Value.bool false,Value.bool false,Value.bool false,Value.bool false,Value.bool false,Value.bool false,Value.bool false] 204)=W0:=⟨_,rfl⟩
 rw [hW0] at N ⊢
 have HB0:Hid (Below w.heap.size w W0):=hid (by rw [←hW0];exact (Below.refl _ _).alloc (Nat.le_refl _) _)
 have K:Hid ((W0.setRow w.heap.size zaH).heap[w.heap.size]?=some (.cells zaH 204 (0,0))):=hid (setRow_heap W0 w.heap.size zs zaH 204 (0,0) N.out)
 have HB1:Hid (Below w.heap.size w (W0.setRow w.heap.size zaH)):=hid (zkt HB0.out (Nat.le_refl _) _)
 clear hW0
 exact bodyPost_ret (v:=.agg zaH) (results_cell_row Tryz.results132 _ _ w.heap.size 204 zaH (0,0) _ rfl K.out Tryz.underlying204 rfl H4.out) rfl ⟨rfl,HB1.out⟩
theorem ztD (W:World):(Instr.index 204 (.agg zaH) (.int .i64 0)).run Tryz.prog W=.ok (.agg #[Value.bool false,Value.bool false,Value.bool false,Value.bool false,Value.bool false,Value.bool false]) W:=by kernel_rfl
theorem zpa (W:World):(Instr.index 204 (.agg zaH) (.int .i64 1)).run Tryz.prog W=.ok (.agg #[Value.bool true,Value.bool true,Value.bool false,Value.bool false,Value.bool true,Value.bool true]) W:=by kernel_rfl
theorem zoL (W:World):(Instr.index 204 (.agg zaH) (.int .i64 2)).run Tryz.prog W=.ok (.agg #[Value.bool true,Value.bool true,Value.bool false,Value.bool false,Value.bool false,Value.bool false]) W:=by kernel_rfl
theorem zoD (W:World):(Instr.index 204 (.agg zaH) (.int .i64 3)).run Tryz.prog W=.ok (.agg #[Value.bool true,Value.bool true,Value.bool false,Value.bool false,Value.bool false,Value.bool true]) W:=by kernel_rfl
theorem zpE (W:World):(Instr.index 204 (.agg zaH) (.int .i64 4)).run Tryz.prog W=.ok (.agg #[Value.bool true,Value.bool true,Value.bool true,Value.bool true,Value.bool false,Value.bool false]) W:=by kernel_rfl
theorem zp6 (W:World):(Instr.index 204 (.agg zaH) (.int .i64 5)).run Tryz.prog W=.ok (.agg #[Value.bool true,Value.bool true,Value.bool true,Value.bool true,Value.bool false,Value.bool false]) W:=by kernel_rfl
theorem zpS (W:World):(Instr.index 204 (.agg zaH) (.int .i64 6)).run Tryz.prog W=.ok (.agg #[Value.bool true,Value.bool true,Value.bool true,Value.bool false,Value.bool false,Value.bool false]) W:=by kernel_rfl
theorem zo1 (W:World):(Instr.index 204 (.agg zaH) (.int .i64 7)).run Tryz.prog W=.ok (.agg #[Value.bool true,Value.bool true,Value.bool true,Value.bool false,Value.bool true,Value.bool false]) W:=by kernel_rfl
theorem zoS (W:World):(Instr.index 204 (.agg zaH) (.int .i64 8)).run Tryz.prog W=.ok (.agg #[Value.bool true,Value.bool false,Value.bool false,Value.bool false,Value.bool false,Value.bool true]) W:=by kernel_rfl
def zac (w0 w:World) (g:Nat) (c:K):Prop:=Blk w g 80 (cellsOf c)∧w0.heap.size≤g∧Below w0.heap.size w0 w
theorem zac.lt {w0 w:World} {g:Nat} {c:K} (h:zac w0 w g c):g<w.heap.size:=h.1.lt
theorem zac.below {w0 w:World} {g:Nat} {c:K} (h:zac w0 w g c):Below w0.heap.size w0 w:=h.2.2
theorem zac.on {w0 w w':World} {g:Nat} {c:K} (h:zac w0 w g c) (hb:Below w.heap.size w w'):zac w0 w' g c :=
 ⟨h.1.below hb h.1.lt,h.2.1,h.2.2.trans (hb.mono h.2.2.size)⟩
theorem zac.drew {w0 w:World} {g:Nat} {c:K} (h:zac w0 w g c):zac w0 w.drew g c:=⟨h.1.drew,h.2.1,zag h.2.2⟩
theorem zac.alloc {w0 w:World} {g:Nat} {c:K} (h:zac w0 w g c) (o:Obj):zac w0 (w.alloc o) g c:=h.on ((Below.refl _ _).alloc (Nat.le_refl _) o)
theorem zac.far {w0 w:World} {g:Nat} {c:K} (h:zac w0 w g c) {p:Addr} (hp:g≠p.block) (h0:w0.heap.size≤p.block) (u:Value):zac w0 (w.setCell p u) g c :=
 ⟨h.1.far hp u,h.2.1,Below.setCell (p:=p) h.2.2 h0 u⟩
theorem zac.start (w:World) (c:K):zac w (w.alloc (.cells (cellsOf c) 80)) w.heap.size c :=
 ⟨Blk.new _ _ _,Nat.le_refl _,(Below.refl _ _).alloc (Nat.le_refl _) _⟩
theorem zac.kind {w0 w:World} {g:Nat} {c:K} (h:zac w0 w g c):w.cell? ⟨g,0,none⟩=some (.int .i64 c.kind):=(zaa h.1).1.1
def za5 (w:World) (h:Nat) (a b c d e f:Bool):Prop:=Blk w h 203 #[.bool a,.bool b,.bool c,.bool d,.bool e,.bool f]
theorem row7 {w:World} {h:Nat} {a b c d e f:Bool} (r:za5 w h a b c d e f):(w.cell? ⟨h,0,none⟩=some (.bool a)∧w.cell? ⟨h,1,none⟩=some (.bool b)∧w.cell? ⟨h,2,none⟩=some (.bool c)∧w.cell? ⟨h,3,none⟩=some (.bool d)∧w.cell? ⟨h,4,none⟩=some (.bool e)∧w.cell? ⟨h,5,none⟩=some (.bool f)) :=
 ⟨(Blk.cell r 0).trans rfl,(Blk.cell r 1).trans rfl,(Blk.cell r 2).trans rfl,(Blk.cell r 3).trans rfl,(Blk.cell r 4).trans rfl,(Blk.cell r 5).trans rfl⟩
theorem ziL {w:World} {h:Nat} {a b c d e f:Bool} (r:za5 w h a b c d e f):w.frozen? ⟨h,0,none⟩=false∧w.frozen? ⟨h,1,none⟩=false∧w.frozen? ⟨h,2,none⟩=false∧w.frozen? ⟨h,3,none⟩=false∧w.frozen? ⟨h,4,none⟩=false∧w.frozen? ⟨h,5,none⟩=false :=
 ⟨Blk.frozen r 0,Blk.frozen r 1,Blk.frozen r 2,Blk.frozen r 3,Blk.frozen r 4,Blk.frozen r 5⟩
theorem zc1 {w:World} {h:Nat} {a b c d e f a' b' c' d' e' f':Bool} (r:za5 w h a b c d e f):za5 ((((((w.setCell ⟨h,0,none⟩ (.bool a')).setCell ⟨h,1,none⟩ (.bool b')).setCell ⟨h,2,none⟩ (.bool c')).setCell ⟨h,3,none⟩ (.bool d')).setCell ⟨h,4,none⟩ (.bool e')).setCell ⟨h,5,none⟩ (.bool f')) h a' b' c' d' e' f' :=
 (((((Blk.set_ r 0 (.bool a')).set_ 1 (.bool b')).set_ 2 (.bool c')).set_ 3 (.bool d')).set_ 4 (.bool e')).set_ 5 (.bool f')
theorem zac.row {w0 w:World} {g h:Nat} {c:K} (hk:zac w0 w g c) (hg:g≠h) (h0:w0.heap.size≤h) (a b c' d e f:Value):zac w0 ((((((w.setCell ⟨h,0,none⟩ a).setCell ⟨h,1,none⟩ b).setCell ⟨h,2,none⟩ c').setCell ⟨h,3,none⟩ d).setCell ⟨h,4,none⟩ e).setCell ⟨h,5,none⟩ f) g c :=
 (((((hk.far (p:=⟨h,0,none⟩) hg h0 a).far (p:=⟨h,1,none⟩) hg h0 b).far (p:=⟨h,2,none⟩) hg h0 c').far (p:=⟨h,3,none⟩) hg h0 d).far (p:=⟨h,4,none⟩) hg h0 e).far (p:=⟨h,5,none⟩) hg h0 f
theorem zcs {W w1:World} (hb:Below (W.alloc (.cells #[.bool false,.bool false,.bool false,.bool false,.bool false,.bool false] 203)).drew.heap.size (W.alloc (.cells #[.bool false,.bool false,.bool false,.bool false,.bool false,.bool false] 203)).drew w1):za5 w1 W.heap.size false false false false false false:=by
 have h:=Blk.new W 203 #[.bool false,.bool false,.bool false,.bool false,.bool false,.bool false]
 exact h.drew.below hb h.lt
end Go.Proofs.YtnjdckoljmgcjaaGreatDoor
