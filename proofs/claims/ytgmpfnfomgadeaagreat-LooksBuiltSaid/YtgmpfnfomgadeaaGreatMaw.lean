/- Joined: BuildM, Lists, Tab, Bits, Least, Count. -/
import Derived.Test.YtgmpfnfomgadeaaGreatMat
import Derived.Test.YtgmpfnfomgadeaaGreatMau
import Derived.Test.YtgmpfnfomgadeaaGreatMav
import Derived.Test.YtgmpfnfomgadeaaGreatMaa
import Derived.Lib.TrailingZeros
import Derived.Test.YtgmpfnfomgadeaaGreatProg
import Derived.LoopN
/- Build: one behind the other of many; how wide nodes are; what they match. Mathematics; no program is named. -/
set_option linter.unusedSectionVars false
set_option linter.unusedSimpArgs false
set_option linter.unusedVariables false
namespace Go.Proofs.YtgmpfnfomgadeaaGreat
open Go.RowKit
def catLV (ns:List Nd) (l:List Int):Option (List Int):=l.foldr (fun x acc=>catJ (catV ns x) acc) (some [])
def CatLR (ns:List Nd) (l:List Int) (r:Int):Prop:=isIn ns r∧catV ns r=catLV ns l
theorem catJ_nil (u:Option (List Int)):catJ u (some [])=u:=by cases u<;>simp[catJ]
theorem CatLR.one {ns:List Nd} {x:Int} (hx:isIn ns x):CatLR ns [x] x:=⟨hx,by show _=catJ (catV ns x) (some []);rw[catJ_nil]⟩
theorem CatLR.cons {ns:List Nd} {x q r:Int} {l:List Int} (h:CatR ns x q r) (h':CatLR ns l q):CatLR ns (x::l) r:=⟨h.1,by rw[h.2,h'.2];rfl⟩
theorem catLV_up {ns:List Nd} (hf:FineN ns) (more:List Nd):∀{l:List Int},(∀x∈l,isIn ns x)→catLV (ns++more) l=catLV ns l
  | [],_=>rfl
  | x::l,h=>by
    show catJ (catV (ns++more) x) (catLV (ns++more) l)=catJ (catV ns x) (catLV ns l)
    rw[catV_up hf more (h x (by simp)),catLV_up hf more (fun y hy=>h y (List.mem_cons_of_mem _ hy))]
theorem CatLR.up {ns:List Nd} (hf:FineN ns) (more:List Nd) {l:List Int} {r:Int} (hl:∀x∈l,isIn ns x) (h:CatLR ns l r):CatLR (ns++more) l r:=⟨h.1.up more,by rw[catV_up hf more h.1,catLV_up hf more hl];exact h.2⟩
theorem CatLR.table {ns:List Nd} (hf:FineN ns) {l bits:List Nat} {xs:List Int} {r:Int} (hl:∀x∈xs,isIn ns x) (h:CatLR ns xs r):Eqv (l.length+1) (nodeT l bits ns r) (xs.foldr (fun x g=>thenF (nodeT l bits ns x) g (l.length+1)) eqF):=by
  refine (cat_table hf _ r (Nat.le_refl _) h.1).trans ?_
  rw[h.2]
  clear h
  induction xs with
  | nil=>exact Eqv.refl _ _
  | cons x xs ih =>
    refine (catJ_table (catV ns x) (catLV ns xs)).trans ?_
    exact then_congr (cat_table hf _ x (Nat.le_refl _) (hl x (by simp))).symm (ih (fun y hy=>hl y (List.mem_cons_of_mem _ hy)))
theorem foldr_congr {n:Nat}:∀{fs gs:List Tbl},fs.length=gs.length→(∀i (h1:i<fs.length) (h2:i<gs.length),Eqv n fs[i] gs[i])→Eqv n (fs.foldr (fun f g=>thenF f g n) eqF) (gs.foldr (fun f g=>thenF f g n) eqF)
  | [],[],_,_=>Eqv.refl _ _
  | [],_::_,h,_=>by cases h
  | _::_,[],h,_=>by cases h
  | f::fs,g::gs,h,hi=>then_congr (hi 0 (by simp) (by simp)) (foldr_congr (by simpa using h) (fun i h1 h2=>by have:=hi (i+1) (by simp;omega) (by simp;omega);simpa using this))
theorem foldl_foldr {n:Nat}:∀(fs:List Tbl) (g:Tbl),(∀i j,g i j=true→i≤j)→Eqv n (fs.foldl (fun f g=>thenF f g n) g) (thenF g (fs.foldr (fun f g=>thenF f g n) eqF) n)
  | [],g,hg=>(eq_then_swap n _).symm.trans (eq_then hg) |>.symm
  | f::fs,g,hg=>(foldl_foldr fs (thenF g f n) (fun i j h=>then_slim h)).trans (then_assoc n _ _ _)
theorem foldl_cat {n:Nat} (fs:List Tbl):Eqv n (fs.foldl (fun f g=>thenF f g n) eqF) (fs.foldr (fun f g=>thenF f g n) eqF):=by
  refine (foldl_foldr fs eqF (fun i j h=>by have:=(eqF_iff _ _).1 h;omega)).trans (eq_then (fun i j h=>?_))
  cases fs with
  | nil=>have:=(eqF_iff _ _).1 h;omega
  | cons f fs=>exact then_slim h
theorem foldl_or:∀(fs:List Tbl) (g:Tbl) (i j:Nat),fs.foldl (fun f g i j=>f i j||g i j) g i j=(g i j||fs.any (fun f=>f i j))
  | [],g,i,j=>by simp
  | f::fs,g,i,j=>by rw[List.foldl_cons,foldl_or fs];simp[Bool.or_assoc]
theorem foldl_and:∀(fs:List Tbl) (g:Tbl) (i j:Nat),fs.foldl (fun f g i j=>f i j&&g i j) g i j=(g i j&&fs.all (fun f=>f i j))
  | [],g,i,j=>by simp
  | f::fs,g,i,j=>by rw[List.foldl_cons,foldl_and fs];simp[Bool.and_assoc]
def Len1 (ns:List Nd) (n:Nat) (x:Int):Prop:=catN ns x≤n∧(mem ns 4 x).length≤n∧(mem ns 5 x).length≤n
def Wide (ns:List Nd) (n:Nat) (x:Int):Prop:=Len1 ns n x∧(kd ns x=6→Len1 ns n (ka ns x))
theorem Len1.mono {ns:List Nd} {n m:Nat} {x:Int} (h:Len1 ns n x) (hm:n≤m):Len1 ns m x:=⟨Nat.le_trans h.1 hm,Nat.le_trans h.2.1 hm,Nat.le_trans h.2.2 hm⟩
theorem Wide.mono {ns:List Nd} {n m:Nat} {x:Int} (h:Wide ns n x) (hm:n≤m):Wide ns m x:=⟨h.1.mono hm,fun e=>(h.2 e).mono hm⟩
theorem catN_up {ns:List Nd} (hf:FineN ns) (more:List Nd) {x:Int} (hx:isIn ns x):catN (ns++more) x=catN ns x:=by unfold catN;rw[catV_up hf more hx]
theorem Len1.up {ns:List Nd} (hf:FineN ns) (more:List Nd) {n:Nat} {x:Int} (hx:isIn ns x) (h:Len1 ns n x):Len1 (ns++more) n x :=
  ⟨by rw[catN_up hf more hx];exact h.1,by rw[mem_up hf (Or.inl rfl) more _ x (Nat.le_refl _) hx];exact h.2.1,by rw[mem_up hf (Or.inr rfl) more _ x (Nat.le_refl _) hx];exact h.2.2⟩
theorem Wide.up {ns:List Nd} (hf:FineN ns) (more:List Nd) {n:Nat} {x:Int} (hx:isIn ns x) (h:Wide ns n x):Wide (ns++more) n x :=
  ⟨h.1.up hf more hx,fun e=>by
    rw[kd_up hx] at e
    rw[ka_up hx]
    exact (h.2 e).up hf more (in_one hf hx (Or.inl e)).1⟩
theorem catN_small {ns:List Nd} {x:Int} (h:kd ns x≠3):catN ns x≤1:=by
  unfold catN
  by_cases h0:kd ns x=0
  · rw[cat_none h0];simp
  · by_cases h1:kd ns x=1
    · rw[cat_empty h1];simp
    · rw[cat_leaf h0 h1 h];simp
theorem len1_small {ns:List Nd} {x:Int} (h3:kd ns x≠3) (h4:kd ns x≠4) (h5:kd ns x≠5) {n:Nat} (hn:1≤n):Len1 ns n x :=
  ⟨Nat.le_trans (catN_small h3) hn,by rw[mem_leaf h4];exact hn,by rw[mem_leaf h5];exact hn⟩
theorem wide_small {ns:List Nd} {x:Int} (h3:kd ns x≠3) (h4:kd ns x≠4) (h5:kd ns x≠5) (h6:kd ns x≠6) {n:Nat} (hn:1≤n):Wide ns n x:=⟨len1_small h3 h4 h5 hn,fun e=>absurd e h6⟩
theorem wide_al {ns:List Nd} {x:Int} (h:isAl ns x=true) {n:Nat} (hn:1≤n):Wide ns n x:=by
  unfold isAl at h
  rw[Bool.and_eq_true,decide_eq_true_eq,decide_eq_true_eq] at h
  exact ⟨len1_small (by omega) (by omega) (by omega) hn,fun _=>len1_small (by omega) (by omega) (by omega) hn⟩
section
variable {ns:List Nd} (hc:Canon ns)
include hc
theorem wide_not {x r:Int} {n:Nat} (hx:isIn ns x) (h:NotR ns x r) (wx:Wide ns n x) (hn:1≤n):Wide ns n r:=by
  by_cases e:kd ns x=6
  · have hr:=h.2.1 e
    rw[hr]
    exact ⟨wx.2 e,fun e2=>absurd e2 (hc.not x hx e)⟩
  · obtain ⟨h1,h2⟩:=h.2.2 e
    exact ⟨len1_small (by omega) (by omega) (by omega) hn,fun _=>by rw[h2];exact wx.1⟩
theorem wide_star {x r:Int} {n:Nat} (hx:isIn ns x) (h:StarR ns x r) (wx:Wide ns n x) (hn:1≤n):Wide ns n r:=by
  by_cases e:kd ns x=0∨kd ns x=1
  · have:=h.2.1 e
    exact wide_small (by omega) (by omega) (by omega) (by omega) hn
  · by_cases e7:kd ns x=7
    · rw[h.2.2.1 e7];exact wx
    · have:=(h.2.2.2 (by omega) (by omega) e7).1
      exact wide_small (by omega) (by omega) (by omega) (by omega) hn
variable {k:Int} (hk:k=4∨k=5)
include hk
theorem join_lenL {l:List Int} {r:Int} (hl:∀x∈l,isIn ns x) (h:JoinR ns k l r) (ht:topB ns k r=false) (hu:unitB ns k r=false):(mem ns k r).length≤memN ns k l:=by
  have hmn:memN ns k l=(l.flatMap (mem ns k)).length:=by unfold memN;rw[List.length_flatMap]
  rw[hmn]
  have hnd:=els hc hk h.1 ht hu
  by_cases hb:∃y∈mem ns k r,kd ns y=2
  · obtain ⟨y0,hy0,k0⟩:=hb
    have hz:∃z0∈l.flatMap (mem ns k),kd ns z0=2:=by
      rcases join_member hc hk hl h ht hu hy0 with ⟨x,hx,hm,_⟩ | ⟨_,x,hx,_,_,z,hz,h2⟩
      · exact ⟨y0,List.mem_flatMap.2 ⟨x,hx,hm⟩,k0⟩
      · exact ⟨z,List.mem_flatMap.2 ⟨x,hx,hz⟩,h2⟩
    obtain ⟨z0,hz0,kz⟩:=hz
    have hsub:∀z∈(mem ns k r).erase y0,z∈(l.flatMap (mem ns k)).erase z0:=fun z hz=>by
      have hzm:z∈mem ns k r:=List.mem_of_mem_erase hz
      have hne:z≠y0:=fun e=>by
        have hn:(mem ns k r).Nodup:=hnd.1.imp (fun h=>by omega)
        rw[e] at hz
        exact (List.Nodup.not_mem_erase hn) hz
      have hz2:kd ns z≠2:=fun e=>hne (hnd.2.2 z hzm y0 hy0 e k0)
      rw[List.mem_erase_of_ne (fun e=>hz2 (by rw[e];exact kz))]
      rcases join_member hc hk hl h ht hu hzm with ⟨x,hx,hm,_⟩ | ⟨q,_⟩
      · exact List.mem_flatMap.2 ⟨x,hx,hm⟩
      · exact absurd q hz2
    have hp:=sub_len (hnd.1.sublist List.erase_sublist) hsub
    have e1:=List.length_erase_of_mem hy0
    have e2:=List.length_erase_of_mem hz0
    have:0<(l.flatMap (mem ns k)).length:=List.length_pos_of_mem hz0
    omega
  · refine sub_len hnd.1 (fun z hz=>?_)
    rcases join_member hc hk hl h ht hu hz with ⟨x,hx,hm,_⟩ | ⟨q,_⟩
    · exact List.mem_flatMap.2 ⟨x,hx,hm⟩
    · exact absurd ⟨z,hz,q⟩ hb
theorem join_whichL {l:List Int} {r:Int} (hl:∀x∈l,isIn ns x) (h:JoinR ns k l r):(∃x∈l,r=x)∨kd ns r=k∨kd ns r=2∨kd ns r=0∨isAl ns r=true:=by
  by_cases q:topB ns k r=true∨unitB ns k r=true
  · right;right;right
    rcases q with q | q
    · unfold topB at q
      split at q
      · exact Or.inr q
      · exact Or.inl (of_decide_eq_true q)
    · unfold unitB at q
      split at q
      · exact Or.inl (of_decide_eq_true q)
      · exact Or.inr q
  · have ht:topB ns k r=false:=by cases e:topB ns k r with | false=>rfl | true=>exact absurd (Or.inl e) q
    have hu:unitB ns k r=false:=by cases e:unitB ns k r with | false=>rfl | true=>exact absurd (Or.inr e) q
    by_cases e:kd ns r=k
    · exact Or.inr (Or.inl e)
    by_cases e2:kd ns r=2
    · exact Or.inr (Or.inr (Or.inl e2))
    have hm:mem ns k r=[r]:=mem_leaf e
    have hns:¬Shuts k (fun a=>l.any (fun x=>view ns k x a)):=fun q=>by
      have:=h.2 .top
      rw[clos_yes q,view_top,ht] at this;cases this
    have hv:∀a,view ns k r a=l.any (fun x=>view ns k x a):=fun a=>by rw[h.2,clos_no hns]
    rcases join_member hc hk hl h ht hu (y:=r) (by rw[hm];exact List.mem_singleton_self _) with ⟨w,hw,hrw,tw,uw⟩ | ⟨q2,_⟩
    · refine Or.inl ⟨w,hw,?_⟩
      have hall:∀z∈mem ns k w,z=r:=fun z hz=>by
        by_cases z2:kd ns z=2
        · have:=view_some hc hk (hl w hw) tw hz z2
          have hr:view ns k r .some=true:=by rw[hv,List.any_eq_true];exact ⟨w,hw,this⟩
          unfold view at hr
          rw[ht,hm,Bool.false_or,List.any_cons,List.any_nil,Bool.or_false] at hr
          exact absurd (of_decide_eq_true hr) e2
        · have:=(view_oth hc hk (hl w hw) tw uw z2).2 hz
          have hr:view ns k r (.oth z)=true:=by rw[hv,List.any_eq_true];exact ⟨w,hw,this⟩
          have:=(view_oth hc hk h.1 ht hu z2).1 hr
          rw[hm] at this
          exact List.mem_singleton.1 this
      have hmw:mem ns k w=[r]:=by
        have hp:=(els hc hk (hl w hw) tw uw).1
        match hq:mem ns k w,hall,hp,hrw with
        | [a],hall,_,_=>rw[hall a (by simp)]
        | a::b::l,hall,hp,_ =>
          have h1:=hall a (by simp)
          have h2:=hall b (by simp)
          have:=(List.pairwise_cons.1 hp).1 b (by simp)
          omega
      exact mem_inj hc hk _ r w (Nat.le_refl _) h.1 (hl w hw) (by rw[hm,hmw])
    · exact absurd q2 e2
theorem wide_join {l:List Int} {r:Int} {n:Nat} (hl:∀x∈l,isIn ns x) (h:JoinR ns k l r) (hw:∀x∈l,Wide ns n x) (hm:memN ns k l≤n) (hn:1≤n):Wide ns n r:=by
  rcases join_whichL hc hk hl h with ⟨x,hx,rfl⟩ | e | e | e | e
  · exact hw r hx
  · have ht:topB ns k r=false:=by
      cases q:topB ns k r with
      | false=>rfl
      | true=>have:=topB_kind q;omega
    have hu:unitB ns k r=false:=by
      cases q:unitB ns k r with
      | false=>rfl
      | true=>have:=unitB_kind q;omega
    have hle:=join_lenL hc hk hl h ht hu
    refine ⟨⟨Nat.le_trans (catN_small (by omega)) hn,?_,?_⟩,fun e2=>by omega⟩
    · rcases hk with rfl | rfl
      · omega
      · rw[mem_leaf (by omega)];exact hn
    · rcases hk with rfl | rfl
      · rw[mem_leaf (by omega)];exact hn
      · omega
  · exact wide_small (by omega) (by omega) (by omega) (by omega) hn
  · exact wide_small (by omega) (by omega) (by omega) (by omega) hn
  · exact wide_al e hn
end
end Go.Proofs.YtgmpfnfomgadeaaGreat

/- Plain facts on the list of a set's bytes: word by word, bit by bit; and on how many they are. No program is named here. -/
namespace Go.Proofs.YtgmpfnfomgadeaaGreat
open Go.RowKit
def ws (w:Nat):List Nat:=(List.range 64).filter (fun i=>w.testBit i)
def St.listTo (s:St) (i:Nat):List Nat:=(List.range (64*i)).filter (fun x=>s.has x)
def St.list (s:St):List Nat:=(List.range 256).filter (fun x=>s.has x)
theorem St.listTo_zero (s:St):s.listTo 0=[]:=by simp[St.listTo]
theorem St.listTo_four (s:St):s.listTo 4=s.list:=rfl
theorem St.listTo_succ (s:St) (i:Nat):s.listTo (i+1)=s.listTo i++(ws (s.word i)).map (64*i+·):=by
  unfold St.listTo ws
  rw[show 64*(i+1)=64*i+64 from by omega,List.range_add,List.filter_append,List.filter_map]
  congr 2
  apply List.filter_congr
  intro x hx
  have hx':x<64:=by simpa using hx
  unfold St.has
  simp only[Function.comp_apply]
  rw[show (64*i+x) / 64=i from by omega,show (64*i+x) % 64=x from by omega]
theorem ws_length (w:Nat):(ws w).length≤64:=by
  have:=List.length_filter_le (fun i=>w.testBit i) (List.range 64)
  simpa [ws] using this
def rep (v:Nat):Nat→Nat
  | 0=>0
  | n+1=>v+256*rep v n
theorem land_bytes (u v y m:Nat) (hu:u<256) (hv:v<256):(u+256*y) &&& (v+256*m)=(u &&& v)+256*(y &&& m):=by
  have hl:u &&& v<2 ^ 8:=Nat.and_lt_two_pow _ hv
  apply Nat.eq_of_testBit_eq
  intro i
  rw[Nat.testBit_and,Nat.add_comm u,Nat.add_comm v,Nat.add_comm (u &&& v),show (256:Nat)=2 ^ 8 from rfl,Nat.testBit_two_pow_mul_add _ hu,Nat.testBit_two_pow_mul_add _ hv,Nat.testBit_two_pow_mul_add _ hl]
  split<;>rw[Nat.testBit_and]
def s1 (n x:Nat):Nat:=((x / 2) &&& rep 85 n)+(x &&& rep 85 n)
def s2 (n x:Nat):Nat:=((x / 4) &&& rep 51 n)+(x &&& rep 51 n)
def s3 (n x:Nat):Nat:=((x / 16)+x) &&& rep 15 n
def f1 (c:Nat):Nat:=(c / 2 &&& 85)+(c &&& 85)
def f2 (c:Nat):Nat:=(c / 4 &&& 51)+(c &&& 51)
def f3 (c:Nat):Nat:=(c / 16+c) &&& 15
theorem low1:∀c,c<256→∀e,e<2→(c / 2+128*e) &&& 85=c / 2 &&& 85:=by decide +kernel
theorem low2:∀c,c<256→∀e,e<4→(c / 4+64*e) &&& 51=c / 4 &&& 51:=by decide +kernel
theorem f1_le:∀c,c<256→f1 c<256:=by decide +kernel
theorem f2_le:∀c,c<256→f2 (f1 c)≤68∧f2 (f1 c) % 16≤4:=by decide +kernel
theorem f3_is:∀c,c<256→f3 (f2 (f1 c))=((List.range 8).filter (fun i=>c.testBit i)).length:=by decide +kernel
theorem s1_succ (n c x:Nat) (hc:c<256):s1 (n+1) (c+256*x)=f1 c+256*s1 n x:=by
  unfold s1
  have e:(c+256*x) / 2=(c / 2+128*(x % 2))+256*(x / 2):=by omega
  show ((c+256*x) / 2 &&& (85+256*rep 85 n))+((c+256*x) &&& (85+256*rep 85 n))=_
  rw[e,land_bytes _ _ _ _ (by omega) (by omega),land_bytes _ _ _ _ hc (by omega),low1 c hc _ (by omega)]
  unfold f1
  omega
theorem s2_succ (n c x:Nat) (hc:c<256):s2 (n+1) (c+256*x)=f2 c+256*s2 n x:=by
  unfold s2
  have e:(c+256*x) / 4=(c / 4+64*(x % 4))+256*(x / 4):=by omega
  show ((c+256*x) / 4 &&& (51+256*rep 51 n))+((c+256*x) &&& (51+256*rep 51 n))=_
  rw[e,land_bytes _ _ _ _ (by omega) (by omega),land_bytes _ _ _ _ hc (by omega),low2 c hc _ (by omega)]
  unfold f2
  omega
theorem s3_succ (n c x:Nat) (hc:c≤68) (hx:x % 16≤4):s3 (n+1) (c+256*x)=f3 c+256*s3 n x:=by
  unfold s3
  have e:(c+256*x) / 16+(c+256*x)=(c / 16+c+16*(x % 16))+256*(x / 16+x):=by omega
  show ((c+256*x) / 16+(c+256*x)) &&& (15+256*rep 15 n)=_
  rw[e,land_bytes _ _ _ _ (by omega) (by omega)]
  unfold f3
  congr 1
  rw[show (15:Nat)=2 ^ 4-1 from rfl,Nat.and_two_pow_sub_one_eq_mod,Nat.and_two_pow_sub_one_eq_mod]
  omega
def onesIn (n x:Nat):Nat:=((List.range n).filter (fun i=>x.testBit i)).length
theorem ones_split (n c x:Nat) (hc:c<256):onesIn (8+n) (c+256*x)=onesIn 8 c+onesIn n x:=by
  unfold onesIn
  rw[List.range_add,List.filter_append,List.length_append,List.filter_map,List.length_map]
  congr 2
  · apply List.filter_congr
    intro i hi
    have hi':i<8:=by simpa using hi
    rw[Nat.add_comm c,show (256:Nat)=2 ^ 8 from rfl,Nat.testBit_two_pow_mul_add _ hc,if_pos hi']
  · apply List.filter_congr
    intro i _
    simp only[Function.comp_apply]
    rw[Nat.add_comm c,show (256:Nat)=2 ^ 8 from rfl,Nat.testBit_two_pow_mul_add _ hc,if_neg (by omega),show 8+i-8=i from by omega]
def bsum:Nat→Nat→Nat
  | 0,_=>0
  | n+1,x=>onesIn 8 (x % 256)+256*bsum n (x / 256)
theorem s_all:∀(n x:Nat),s3 n (s2 n (s1 n x))=bsum n x∧s2 n (s1 n x) % 16≤4
  | 0,x=>by simp[s3,s2,rep,bsum]
  | n+1,x=>by
    obtain ⟨h1,h2⟩:=s_all n (x / 256)
    have hc:x % 256<256:=Nat.mod_lt _ (by omega)
    have e:x=x % 256+256*(x / 256):=by omega
    have e2:s2 (n+1) (s1 (n+1) x)=f2 (f1 (x % 256))+256*s2 n (s1 n (x / 256)):=by
      rw[←s2_succ n _ _ (f1_le _ hc),←s1_succ n _ _ hc,←e]
    have hf:=f2_le _ hc
    rw[e2,s3_succ n _ _ hf.1 h2,h1,f3_is _ hc]
    exact ⟨rfl,by omega⟩
theorem onesIn8_le (c:Nat):onesIn 8 c≤8:=by
  have:=List.length_filter_le (fun i=>c.testBit i) (List.range 8)
  simpa [onesIn] using this
def s4 (y:Nat):Nat:=y+y / 256
def s5 (y:Nat):Nat:=y+y / 65536
def s6 (y:Nat):Nat:=y+y / 4294967296
theorem fold_eight (a b c d e f g h:Nat) (ha:a≤8) (hb:b≤8) (hc:c≤8) (hd:d≤8) (he:e≤8) (hf:f≤8) (hg:g≤8) (hh:h≤8) :
    s6 (s5 (s4 (a+256*(b+256*(c+256*(d+256*(e+256*(f+256*(g+256*(h+256*0)))))))))) % 128=a+b+c+d+e+f+g+h:=by
  have e4:s4 (a+256*(b+256*(c+256*(d+256*(e+256*(f+256*(g+256*(h+256*0)))))))) =
      (a+b)+256*((b+c)+256*((c+d)+256*((d+e)+256*((e+f)+256*((f+g)+256*((g+h)+256*h)))))):=by
    unfold s4;omega
  rw[e4]
  have e5:s5 ((a+b)+256*((b+c)+256*((c+d)+256*((d+e)+256*((e+f)+256*((f+g)+256*((g+h)+256*h))))))) =
      (a+b+c+d)+256*((b+c+d+e)+256*((c+d+e+f)+256*((d+e+f+g)+256*((e+f+g+h)+256*((f+g+h)+256*((g+h)+256*h)))))):=by
    unfold s5;omega
  rw[e5]
  clear e4 e5
  have e6:((a+b+c+d)+256*((b+c+d+e)+256*((c+d+e+f)+256*((d+e+f+g)+256*((e+f+g+h)+256*((f+g+h)+256*((g+h)+256*h))))))) / 4294967296 =
      (e+f+g+h)+256*((f+g+h)+256*((g+h)+256*h)):=by omega
  unfold s6
  rw[e6]
  clear e6
  omega
theorem pop_is (w:Nat):s6 (s5 (s4 (s3 8 (s2 8 (s1 8 w))))) % 128=(ws w).length:=by
  rw[(s_all 8 w).1]
  have hb:∀c,onesIn 8 c≤8:=onesIn8_le
  show s6 (s5 (s4 (onesIn 8 _+256*(onesIn 8 _+256*(onesIn 8 _+256*(onesIn 8 _+256*(onesIn 8 _+256*(onesIn 8 _+256*(onesIn 8 _+256*(onesIn 8 _+256*0)))))))))) % 128=onesIn 64 w
  rw[fold_eight _ _ _ _ _ _ _ _ (hb _) (hb _) (hb _) (hb _) (hb _) (hb _) (hb _) (hb _)]
  have hs:∀(n x:Nat),onesIn (8+n) x=onesIn 8 (x % 256)+onesIn n (x / 256):=fun n x=>by
    rw[←ones_split n _ _ (Nat.mod_lt _ (by omega))]
    congr 1
    omega
  have h64:onesIn 64 w=onesIn (8+(8+(8+(8+(8+(8+(8+(8+0)))))))) w:=rfl
  rw[h64]
  simp only[hs]
  have h0:∀x,onesIn 0 x=0:=fun x=>by simp[onesIn]
  rw[h0]
  omega
end Go.Proofs.YtgmpfnfomgadeaaGreat

/- What math/bits.TrailingZeros64 answers, of any word. -/
namespace Go.Proofs.YtgmpfnfomgadeaaGreat
open Go.RowKit
end Go.Proofs.YtgmpfnfomgadeaaGreat

/- What math/bits.OnesCount64 answers, of any word. -/
set_option maxHeartbeats 2000000
namespace Go.Proofs.YtgmpfnfomgadeaaGreat
open Go.RowKit
def mA:Nat:=6148914691236517205
def mB:Nat:=3689348814741910323
def mC:Nat:=1085102592571150095
theorem rep_a:rep 85 8=mA:=by decide +kernel
theorem rep_b:rep 51 8=mB:=by decide +kernel
theorem rep_c:rep 15 8=mC:=by decide +kernel
def pa (w:Nat):Nat:=(w / 2) &&& mA
def pb (w:Nat):Nat:=w &&& mA
def pc (w:Nat):Nat:=(w / 4) &&& mB
def pd (w:Nat):Nat:=w &&& mB
def pe (w:Nat):Nat:=w / 16+w
def y1 (w:Nat):Nat:=s1 8 w
def y2 (w:Nat):Nat:=s2 8 (y1 w)
def y3 (w:Nat):Nat:=s3 8 (y2 w)
def y4 (w:Nat):Nat:=s4 (y3 w)
def y5 (w:Nat):Nat:=s5 (y4 w)
def y6 (w:Nat):Nat:=s6 (y5 w)
theorem y1_is (w:Nat):y1 w=pa w+pb w:=by unfold y1 s1 pa pb;rw[rep_a]
theorem y2_is (w:Nat):y2 w=pc (y1 w)+pd (y1 w):=by unfold y2 s2 pc pd;rw[rep_b]
theorem y3_is (w:Nat):y3 w=pe (y2 w) &&& mC:=by unfold y3 s3 pe;rw[rep_c]
theorem y2_le (w:Nat):y2 w≤7378697629483820646:=by
  have h1:pc (y1 w)≤mB:=Nat.and_le_right
  have h2:pd (y1 w)≤mB:=Nat.and_le_right
  rw[y2_is]
  unfold mB at h1 h2
  omega
theorem y3_le (w:Nat):y3 w≤1085102592571150095:=by rw[y3_is];exact Nat.and_le_right
theorem y4_le (w:Nat):y4 w≤2170205185142300190:=by have:=y3_le w;unfold y4 s4;omega
theorem y5_le (w:Nat):y5 w≤4340410370284600380:=by have:=y4_le w;unfold y5 s5;omega
theorem y6_le (w:Nat):y6 w≤8680820740569200760:=by have:=y5_le w;unfold y6 s6;omega
theorem q_a (w:Nat) (h:U64 w):bits .and .u64 ((w:Int) / 2) 6148914691236517205=((pa w:Nat):Int):=by
  rw[show ((w:Int) / 2)=((w / 2:Nat):Int) from by omega,show (6148914691236517205:Int)=((mA:Nat):Int) from rfl]
  exact bits_and _ _ (Nat.lt_of_le_of_lt (Nat.div_le_self _ _) h) (by unfold U64 mA;omega)
theorem q_b (w:Nat) (h:U64 w):bits .and .u64 (w:Int) 6148914691236517205=((pb w:Nat):Int):=by
  rw[show (6148914691236517205:Int)=((mA:Nat):Int) from rfl]
  exact bits_and _ _ h (by unfold U64 mA;omega)
theorem q_1 (w:Nat):IntKind.u64.wrap (((pa w:Nat):Int)+((pb w:Nat):Int))=((y1 w:Nat):Int):=by
  have h1:pa w≤mA:=Nat.and_le_right
  have h2:pb w≤mA:=Nat.and_le_right
  unfold mA at h1 h2
  rw[y1_is,IntKind.wrap_u64]
  omega
theorem y1_u64 (w:Nat):U64 (y1 w):=by
  have h1:pa w≤mA:=Nat.and_le_right
  have h2:pb w≤mA:=Nat.and_le_right
  unfold mA at h1 h2
  rw[y1_is]
  unfold U64
  omega
theorem q_c (w:Nat) (h:U64 w):bits .and .u64 ((w:Int) / 4) 3689348814741910323=((pc w:Nat):Int):=by
  rw[show ((w:Int) / 4)=((w / 4:Nat):Int) from by omega,show (3689348814741910323:Int)=((mB:Nat):Int) from rfl]
  exact bits_and _ _ (Nat.lt_of_le_of_lt (Nat.div_le_self _ _) h) (by unfold U64 mB;omega)
theorem q_d (w:Nat) (h:U64 w):bits .and .u64 (w:Int) 3689348814741910323=((pd w:Nat):Int):=by
  rw[show (3689348814741910323:Int)=((mB:Nat):Int) from rfl]
  exact bits_and _ _ h (by unfold U64 mB;omega)
theorem q_2 (w:Nat):IntKind.u64.wrap (((pc (y1 w):Nat):Int)+((pd (y1 w):Nat):Int))=((y2 w:Nat):Int):=by
  have h:=y2_le w
  rw[y2_is] at h ⊢
  rw[IntKind.wrap_u64]
  omega
theorem q_e (w:Nat):IntKind.u64.wrap (((y2 w:Nat):Int) / 16+((y2 w:Nat):Int))=((pe (y2 w):Nat):Int):=by
  have h:=y2_le w
  unfold pe
  rw[IntKind.wrap_u64]
  omega
theorem q_3 (w:Nat):bits .and .u64 ((pe (y2 w):Nat):Int) 1085102592571150095=((y3 w:Nat):Int):=by
  have h:=y2_le w
  rw[y3_is,show (1085102592571150095:Int)=((mC:Nat):Int) from rfl]
  exact bits_and _ _ (by unfold U64 pe;omega) (by unfold U64 mC;omega)
theorem q_4 (w:Nat):IntKind.u64.wrap (((y3 w:Nat):Int)+((y3 w:Nat):Int) / 256)=((y4 w:Nat):Int):=by
  have h:=y3_le w
  unfold y4 s4
  rw[IntKind.wrap_u64]
  omega
theorem q_5 (w:Nat):IntKind.u64.wrap (((y4 w:Nat):Int)+((y4 w:Nat):Int) / 65536)=((y5 w:Nat):Int):=by
  have h:=y4_le w
  unfold y5 s5
  rw[IntKind.wrap_u64]
  omega
theorem q_6 (w:Nat):IntKind.u64.wrap (((y5 w:Nat):Int)+((y5 w:Nat):Int) / 4294967296)=((y6 w:Nat):Int):=by
  have h:=y5_le w
  unfold y6 s6
  rw[IntKind.wrap_u64]
  omega
theorem q_7 (w:Nat):IntKind.i64.wrap ((y6 w:Nat):Int)=((y6 w:Nat):Int):=by
  have h:=y6_le w
  rw[IntKind.wrap_i64]
  omega
theorem ofInt_i64' (a:Nat) (ha:a<9223372036854775808):(BitVec.ofInt 64 (a:Int)).toNat=a:=by
  rw[BitVec.ofInt_natCast,BitVec.toNat_ofNat];exact Nat.mod_eq_of_lt (by omega)
theorem q_8 (w:Nat):bits .and .i64 ((y6 w:Nat):Int) 127=(((ws w).length:Nat):Int):=by
  have h:=y6_le w
  have hx:y6 w &&& 127<128:=Nat.lt_of_le_of_lt Nat.and_le_right (by omega)
  rw[←pop_is w]
  show IntKind.i64.wrap ((BitVec.ofInt 64 ((y6 w:Nat):Int) &&& BitVec.ofInt 64 ((127:Nat):Int)).toNat:Int)=((y6 w % 128:Nat):Int)
  rw[BitVec.toNat_and,ofInt_i64' _ (by omega),ofInt_i64' 127 (by omega),IntKind.wrap_i64,show (127:Nat)=2 ^ 7-1 from rfl,Nat.and_two_pow_sub_one_eq_mod]
  omega
theorem onesCount (w:Nat) (hw:U64 w) (W:World) :
    Calls Tryz.prog 85 #[.int .u64 w] W fun e W'=>e=.returned (.int .i64 ((ws w).length:Nat))∧W=W':=by
  have ea:=q_a w hw
  have eb:=q_b w hw
  have e1:=q_1 w
  have ec:=q_c (y1 w) (y1_u64 w)
  have ed:=q_d (y1 w) (y1_u64 w)
  have e2:=q_2 w
  have ee:=q_e w
  have e3:=q_3 w
  have e4:=q_4 w
  have e5:=q_5 w
  have e6:=q_6 w
  have e7:=q_7 w
  have e8:=q_8 w
  go_enter Tryz.func85,Tryz.ntmps85
  go_wp2
  go_ret
  exact ⟨rfl,rfl⟩
end Go.Proofs.YtgmpfnfomgadeaaGreat

/- What set.Least answers. -/
namespace Go.Proofs.YtgmpfnfomgadeaaGreat
open Go.RowKit
theorem St.list_is (s:St):s.list=((((ws s.w0).map (64*0+·))++(ws s.w1).map (64*1+·))++(ws s.w2).map (64*2+·))++(ws s.w3).map (64*3+·):=by
  rw[←St.listTo_four,St.listTo_succ,St.listTo_succ,St.listTo_succ,St.listTo_succ,St.listTo_zero]
  rfl
theorem St.list_length (s:St):s.list.length=(ws s.w0).length+(ws s.w1).length+(ws s.w2).length+(ws s.w3).length:=by
  rw[St.list_is];simp;omega
theorem idx0 (a b c d:Value) (w:World):(Instr.index 24 (.agg #[a,b,c,d]) (.int .i64 0)).run Tryz.prog w=.ok a w:=by kernel_rfl
theorem idx1 (a b c d:Value) (w:World):(Instr.index 24 (.agg #[a,b,c,d]) (.int .i64 1)).run Tryz.prog w=.ok b w:=by kernel_rfl
theorem idx2 (a b c d:Value) (w:World):(Instr.index 24 (.agg #[a,b,c,d]) (.int .i64 2)).run Tryz.prog w=.ok c w:=by kernel_rfl
theorem idx3 (a b c d:Value) (w:World):(Instr.index 24 (.agg #[a,b,c,d]) (.int .i64 3)).run Tryz.prog w=.ok d w:=by kernel_rfl
end Go.Proofs.YtgmpfnfomgadeaaGreat

/- What set.Count answers. -/
set_option maxHeartbeats 2000000
namespace Go.Proofs.YtgmpfnfomgadeaaGreat
open Go.RowKit
theorem setCount (s:St) (hs:s.Ok) (w:World) :
    Calls Tryz.prog 69 #[.agg #[.int .u64 s.w0,.int .u64 s.w1,.int .u64 s.w2,.int .u64 s.w3]] w fun e w'=>e=.returned (.int .i64 (s.list.length:Nat))∧Below w.heap.size w w':=by
  have HL:=Lib.hid s.list_length
  obtain ⟨n0,h0⟩:∃n:Nat,n=(ws s.w0).length:=⟨_,rfl⟩
  obtain ⟨n1,h1⟩:∃n:Nat,n=(ws s.w1).length:=⟨_,rfl⟩
  obtain ⟨n2,h2⟩:∃n:Nat,n=(ws s.w2).length:=⟨_,rfl⟩
  obtain ⟨n3,h3⟩:∃n:Nat,n=(ws s.w3).length:=⟨_,rfl⟩
  have l0:n0≤64:=by rw[h0];exact ws_length _
  have l1:n1≤64:=by rw[h1];exact ws_length _
  have l2:n2≤64:=by rw[h2];exact ws_length _
  have l3:n3≤64:=by rw[h3];exact ws_length _
  have c0:=Lib.hid (fun W=>onesCount s.w0 hs.o0 W)
  have c1:=Lib.hid (fun W=>onesCount s.w1 hs.o1 W)
  have c2:=Lib.hid (fun W=>onesCount s.w2 hs.o2 W)
  have c3:=Lib.hid (fun W=>onesCount s.w3 hs.o3 W)
  rw[←h0,←h1,←h2,←h3] at HL
  rw[←h0] at c0
  rw[←h1] at c1
  rw[←h2] at c2
  rw[←h3] at c3
  clear h0 h1 h2 h3
  have i0:=idx0 (.int .u64 s.w0) (.int .u64 s.w1) (.int .u64 s.w2) (.int .u64 s.w3)
  have i1:=idx1 (.int .u64 s.w0) (.int .u64 s.w1) (.int .u64 s.w2) (.int .u64 s.w3)
  have i2:=idx2 (.int .u64 s.w0) (.int .u64 s.w1) (.int .u64 s.w2) (.int .u64 s.w3)
  have i3:=idx3 (.int .u64 s.w0) (.int .u64 s.w1) (.int .u64 s.w2) (.int .u64 s.w3)
  go_enter Tryz.func69,Tryz.ntmps69
  go_wp2
  refine wp_loop_rounds 5 ?_
  rw[rounds_succ]
  go_wp2_with fail
  refine (c0.out _).mono ?_
  rintro e w1 ⟨rfl,rfl⟩
  go_wp2_with fail
  rw[rounds_succ]
  go_wp2_with fail
  refine (c1.out _).mono ?_
  rintro e w1 ⟨rfl,rfl⟩
  go_wp2_with fail
  rw[rounds_succ]
  go_wp2_with fail
  refine (c2.out _).mono ?_
  rintro e w1 ⟨rfl,rfl⟩
  go_wp2_with fail
  rw[rounds_succ]
  go_wp2_with fail
  refine (c3.out _).mono ?_
  rintro e w1 ⟨rfl,rfl⟩
  go_wp2_with fail
  rw[rounds_succ]
  go_wp2_with fail
  go_ret
  exact ⟨by rw[HL.out];rfl,(Below.refl _ _).alloc (Nat.le_refl _) _⟩
end Go.Proofs.YtgmpfnfomgadeaaGreat
