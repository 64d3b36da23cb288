/- Joined: NormLen, NormAwake, OffF, NormStep, LawLaws10, ArenaAwake, LawPuts9, NormRow, SortLib. -/
import Derived.Test.YtgmpfnfomgadeaaGreatMaf
import Derived.Test.YtgmpfnfomgadeaaGreatMae
import Derived.Test.YtgmpfnfomgadeaaGreatMad
import Derived.Deep.QuietTactic
import Derived.BigQuiet
import Derived.Maps.AppendAt
import Derived.Test.YtgmpfnfomgadeaaGreatProg
import Derived.Shelf.Sort.Plain
import Derived.Shelf.Slices.Clone
import Derived.Sort.OwnSortedInts
/- How long what is put together gets: mathematics; no program is named. -/
set_option linter.unusedSectionVars false
set_option linter.unusedSimpArgs false
set_option linter.unusedVariables false
namespace Go.Proofs.YtgmpfnfomgadeaaGreat
open Go.RowKit
section
variable {ns:List Nd} (hc:Canon ns) {k:Int} (hk:k=4∨k=5)
include hc hk
theorem join_member {l:List Int} {r y:Int} (hl:∀x∈l,isIn ns x) (h:JoinR ns k l r) (ht:topB ns k r=false) (hu:unitB ns k r=false) (hy:y∈mem ns k r):(∃x∈l,y∈mem ns k x∧topB ns k x=false∧unitB ns k x=false)∨(kd ns y=2∧∃x∈l,topB ns k x=false∧unitB ns k x=false∧∃z∈mem ns k x,kd ns z=2):=by
  have hns:¬Shuts k (fun a=>l.any (fun x=>view ns k x a)):=fun q=>by
    have:=h.2 .top
    rw[clos_yes q,view_top,ht] at this;cases this
  have hv:∀a,view ns k r a=l.any (fun x=>view ns k x a):=fun a=>by rw[h.2,clos_no hns]
  have htop:∀x∈l,topB ns k x=false:=fun x hx=>by
    have q:=hv .top
    rw[view_top,ht] at q
    have:=List.any_eq_false.1 q.symm x hx
    rw[view_top] at this
    simpa using this
  have hun:∀x∈l,∀a,view ns k x a=true→unitB ns k x=false:=fun x hx a ha=>by
    cases q:unitB ns k x with
    | false=>rfl
    | true=>rw[view_unit hc hk (hl x hx) q] at ha;cases ha
  by_cases e:kd ns y=2
  · right
    have hs:=view_some hc hk h.1 ht hy e
    rw[hv,List.any_eq_true] at hs
    obtain ⟨x,hx,hs⟩:=hs
    refine ⟨e,x,hx,htop x hx,hun x hx _ hs,?_⟩
    unfold view at hs
    rw[htop x hx,Bool.false_or,List.any_eq_true] at hs
    obtain ⟨z,hz,h2⟩:=hs
    exact ⟨z,hz,of_decide_eq_true h2⟩
  · left
    have ho:=(view_oth hc hk h.1 ht hu e).2 hy
    rw[hv,List.any_eq_true] at ho
    obtain ⟨x,hx,ho⟩:=ho
    exact ⟨x,hx,(view_oth hc hk (hl x hx) (htop x hx) (hun x hx _ ho) e).1 ho,htop x hx,hun x hx _ ho⟩
omit hc hk in
theorem sub_len:∀{l m:List Int},l.Pairwise (·<·)→(∀z∈l,z∈m)→l.length≤m.length
  | [],_,_,_=>Nat.zero_le _
  | x::l,m,hp,h=>by
    obtain ⟨h1,h2⟩:=List.pairwise_cons.1 hp
    have hx:x∈m:=h x (by simp)
    have ih:=sub_len (m:=m.erase x) h2 (fun z hz=>(List.mem_erase_of_ne (by have:=h1 z hz;omega)).2 (h z (List.mem_cons_of_mem _ hz)))
    have:=List.length_erase_of_mem hx
    have hpos:0<m.length:=List.length_pos_of_mem hx
    rw[List.length_cons]
    omega
end
theorem catN_le {ns:List Nd} {x y r:Int} (h:CatR ns x y r):catN ns r≤catN ns x+catN ns y:=by
  unfold catN
  rw[h.2]
  cases catV ns x<;>cases catV ns y<;>simp[catJ]
theorem cat_which {ns:List Nd} (hc:Canon ns) {x y r:Int} (hx:isIn ns x) (hy:isIn ns y) (h:CatR ns x y r):r=x∨r=y∨kd ns r=3∨kd ns r=0∨kd ns r=1:=by
  by_cases r3:kd ns r=3
  · exact Or.inr (Or.inr (Or.inl r3))
  by_cases r0:kd ns r=0
  · exact Or.inr (Or.inr (Or.inr (Or.inl r0)))
  by_cases r1:kd ns r=1
  · exact Or.inr (Or.inr (Or.inr (Or.inr r1)))
  have hr:=cat_leaf (ns:=ns) r0 r1 r3
  have e:=h.2
  rw[hr] at e
  cases hcx:catV ns x with
  | none=>rw[hcx] at e;cases catV ns y<;>simp[catJ] at e
  | some l =>
    cases hcy:catV ns y with
    | none=>rw[hcx,hcy] at e;simp[catJ] at e
    | some m =>
      rw[hcx,hcy] at e
      have e:[r]=l++m:=by simpa [catJ] using e
      cases l with
      | nil=>right;left;exact cat_inj hc _ r y (Nat.le_refl _) h.1 hy (by rw[hr,hcy];simpa using e)
      | cons a l =>
        have e':=e
        simp at e'
        obtain ⟨rfl,e2,e3⟩:=e'
        left
        exact cat_inj hc _ r x (Nat.le_refl _) h.1 hx (by rw[hr,hcx,e2])
end Go.Proofs.YtgmpfnfomgadeaaGreat

/- bolterlaw10.awake, by what putting together does. -/
set_option linter.unusedSimpArgs false
set_option linter.unusedVariables false
namespace Go.Proofs.YtgmpfnfomgadeaaGreat
open Go.RowKit
theorem list_two (w:World) (x y:Int) (t:TypeId):ListAt (w.alloc (.cells #[.int .i64 x,.int .i64 y] t)) (.slice (some ⟨w.heap.size,0,none⟩) 2 2) [x,y] :=
  ⟨_,_,rfl,fun _=>⟨w.heap.size,0,rfl,by simp,fun j hj=>by
    have h:=(At.new w t #[.int .i64 x,.int .i64 y]).cell (0+j)
    rw[h]
    have hj:j<2:=hj
    have:j=0∨j=1:=by omega
    rcases this with rfl | rfl<;>rfl⟩⟩
section
variable {AA:World→Value→List Nd→(Nat→Prop)→Prop}
end
end Go.Proofs.YtgmpfnfomgadeaaGreat

/- What has turned: one step behind another. -/
set_option linter.unusedVariables false
namespace Go.Proofs.YtgmpfnfomgadeaaGreat
open Go.RowKit
theorem OffF.then {F:Nat→Prop} {w w1 w2:World} (h:OffF F w w1) (hb:Below w1.heap.size w1 w2):OffF F w w2 :=
  ⟨hb.os.trans h.os,hb.tape.trans h.tape,hb.output.trans h.output,Nat.le_trans h.size hb.size,fun b hlt hn=>(hb.block b (Nat.lt_of_lt_of_le hlt h.size)).trans (h.block b hlt hn)⟩
theorem OffF.off {F F':Nat→Prop} {w w1 w2:World} (h:OffF F w w1) (h2:OffF F' w1 w2) (hF:∀b,F' b→F b∨w.heap.size≤b):OffF F w w2 :=
  ⟨h2.os.trans h.os,h2.tape.trans h.tape,h2.output.trans h.output,Nat.le_trans h.size h2.size,fun b hlt hn=>(h2.block b (Nat.lt_of_lt_of_le hlt h.size) (fun q=>by
    rcases hF b q with c | c
    · exact hn c
    · omega)).trans (h.block b hlt hn)⟩
theorem OffF.grown {F:Nat→Prop} {w w1 w2:World} {row:Option Nat} (h:OffF F w w1) (hg:w1.grownBy w2 row) (hr:∀b,row=some b→F b∨w.heap.size≤b):OffF F w w2 :=
  ⟨hg.os.trans h.os,hg.tape.trans h.tape,hg.output.trans h.output,Nat.le_trans h.size hg.size,fun b hlt hn=>(hg.block b (Nat.lt_of_lt_of_le hlt h.size) (fun e=>by
    rcases hr b e.symm with c | c
    · exact hn c
    · omega)).trans (h.block b hlt hn)⟩
theorem OffF.set {F:Nat→Prop} {w w1:World} {g i:Nat} (h:OffF F w w1) (hg:F g) (v:Value):OffF F w (w1.setCell ⟨g,i,none⟩ v) :=
  ⟨h.os,h.tape,h.output,(by rw[World.size_setCell];exact h.size),fun b hlt hn=>by
    rw[Below.heap_setCell w1 ⟨g,i,none⟩ v b (fun e=>hn (by rw[e];exact hg))]
    exact h.block b hlt hn⟩
end Go.Proofs.YtgmpfnfomgadeaaGreat

/- One step of a walk that puts nodes together: where the arena stands, what came, what was answered. -/
set_option linter.unusedSimpArgs false
set_option linter.unusedVariables false
namespace Go.Proofs.YtgmpfnfomgadeaaGreat
open Go.RowKit
def UpN (ns ns':List Nd):Prop:=∃more,ns'=ns++more
theorem UpN.refl (ns:List Nd):UpN ns ns:=⟨[],by rw[List.append_nil]⟩
theorem UpN.trans {a b c:List Nd} (h:UpN a b) (h':UpN b c):UpN a c:=by
  obtain ⟨x,rfl⟩:=h
  obtain ⟨y,rfl⟩:=h'
  exact ⟨x++y,by rw[List.append_assoc]⟩
def LenB (ns:List Nd) (W4 W5 W3:Nat) (x:Int):Prop:=isIn ns x∧(mem ns 4 x).length≤W4∧(mem ns 5 x).length≤W5∧catN ns x≤W3
theorem LenB.up {ns ns':List Nd} (hf:FineN ns) {W4 W5 W3:Nat} {x:Int} (h:LenB ns W4 W5 W3 x) (hu:UpN ns ns'):LenB ns' W4 W5 W3 x:=by
  obtain ⟨more,rfl⟩:=hu
  obtain ⟨h0,h4,h5,h3⟩:=h
  refine ⟨h0.up more,?_,?_,?_⟩
  · rw[mem_up hf (Or.inl rfl) more _ x (Nat.le_refl _) h0];exact h4
  · rw[mem_up hf (Or.inr rfl) more _ x (Nat.le_refl _) h0];exact h5
  · unfold catN;rw[catV_up hf more h0];exact h3
theorem LenB.mono {ns:List Nd} {W4 W5 W3 V4 V5 V3:Nat} {x:Int} (h:LenB ns W4 W5 W3 x) (h4:W4≤V4) (h5:W5≤V5) (h3:W3≤V3):LenB ns V4 V5 V3 x :=
  ⟨h.1,Nat.le_trans h.2.1 h4,Nat.le_trans h.2.2.1 h5,Nat.le_trans h.2.2.2 h3⟩
theorem isIn.upTo {ns ns':List Nd} {x:Int} (h:isIn ns x) (hu:UpN ns ns'):isIn ns' x:=by obtain ⟨more,rfl⟩:=hu;exact h.up more
theorem kd_upTo {ns ns':List Nd} {x:Int} (h:isIn ns x) (hu:UpN ns ns'):kd ns' x=kd ns x:=by obtain ⟨more,rfl⟩:=hu;exact kd_up h more
theorem isAl_upTo {ns ns':List Nd} (hf:FineN ns) {x:Int} (h:isIn ns x) (hu:UpN ns ns'):isAl ns' x=isAl ns x:=by obtain ⟨more,rfl⟩:=hu;exact isAl_up hf more h
theorem JoinR.upTo {ns ns':List Nd} (hf:FineN ns) {k:Int} {l:List Int} {r:Int} (hk:k=4∨k=5) (h:JoinR ns k l r) (hl:∀x∈l,isIn ns x) (hu:UpN ns ns'):JoinR ns' k l r:=by obtain ⟨more,rfl⟩:=hu;exact h.up hf more hk hl
theorem CatR.upTo {ns ns':List Nd} (hf:FineN ns) {x y r:Int} (h:CatR ns x y r) (hx:isIn ns x) (hy:isIn ns y) (hu:UpN ns ns'):CatR ns' x y r:=by obtain ⟨more,rfl⟩:=hu;exact h.up hf more hx hy
theorem NotR.upTo {ns ns':List Nd} {x r:Int} (h:NotR ns x r) (hx:isIn ns x) (hu:UpN ns ns'):NotR ns' x r:=by obtain ⟨more,rfl⟩:=hu;exact h.up hx more
theorem StarR.upTo {ns ns':List Nd} {x r:Int} (h:StarR ns x r) (hx:isIn ns x) (hu:UpN ns ns'):StarR ns' x r:=by obtain ⟨more,rfl⟩:=hu;exact h.up hx more
section
variable {AA:World→Value→List Nd→(Nat→Prop)→Prop}
structure LSt (AA:World→Value→List Nd→(Nat→Prop)→Prop) (w0 w:World) (a:Value) (ns0:List Nd) (F0:Nat→Prop) (m:Nat) (ns:List Nd):Prop where
  ex:∃F,AA w a ns F∧(∀b,F b→F0 b∨w0.heap.size≤b)∧OffF F0 w0 w
  up:UpN ns0 ns
  few:ns.length≤ns0.length+m
  canon:Canon ns
variable (S:ArenaBig AA) {w0 w:World} {a:Value} {ns0 ns:List Nd} {F0:Nat→Prop} {m:Nat}
theorem LSt.start {F:Nat→Prop} (h:AA w a ns F) (hc:Canon ns):LSt AA w w a ns F 0 ns:=⟨⟨F,h,fun b q=>Or.inl q,OffF.of (Below.refl _ _)⟩,UpN.refl _,Nat.le_refl _,hc⟩
include S in
theorem LSt.next {w':World} (h:LSt AA w0 w a ns0 F0 m ns) (hb:Below w.heap.size w w'):LSt AA w0 w' a ns0 F0 m ns:=by
  obtain ⟨F,h1,h2,h3⟩:=h.ex
  exact ⟨⟨F,S.next h1 hb,h2,h3.then hb⟩,h.up,h.few,h.canon⟩
include S in
theorem LSt.alloc (h:LSt AA w0 w a ns0 F0 m ns) (o:Obj):LSt AA w0 (w.alloc o) a ns0 F0 m ns:=h.next S ((Below.refl _ _).alloc (Nat.le_refl _) o)
theorem LSt.mono {m':Nat} (h:LSt AA w0 w a ns0 F0 m ns) (hm:m≤m'):LSt AA w0 w a ns0 F0 m' ns:=⟨h.ex,h.up,Nat.le_trans h.few (by omega),h.canon⟩
end
end Go.Proofs.YtgmpfnfomgadeaaGreat

/- bolterlaw10.laws: the laws hold of three nodes, by what putting together does. -/
set_option linter.unusedSimpArgs false
set_option linter.unusedVariables false
namespace Go.Proofs.YtgmpfnfomgadeaaGreat
open Go.RowKit
def NoIs (ns:List Nd) (x:Int):Prop:=isIn ns x∧kd ns x=0
def EmIs (ns:List Nd) (x:Int):Prop:=isIn ns x∧kd ns x=1
def AlIs (ns:List Nd) (x:Int):Prop:=isIn ns x∧isAl ns x=true
def MemB (ns:List Nd) (k:Int) (c:Nat) (x:Int):Prop:=isIn ns x∧(mem ns k x).length≤c
def CatB (ns:List Nd) (c:Nat) (x:Int):Prop:=isIn ns x∧catN ns x≤c
def JoinI (ns:List Nd) (k:Int) (l:List Int) (r:Int):Prop:=(k=4∨k=5)∧(∀x∈l,isIn ns x)∧JoinR ns k l r
def CatI (ns:List Nd) (x y r:Int):Prop:=isIn ns x∧isIn ns y∧CatR ns x y r
def NotI (ns:List Nd) (x r:Int):Prop:=isIn ns x∧NotR ns x r
def StarI (ns:List Nd) (x r:Int):Prop:=isIn ns x∧StarR ns x r
section
variable {ns ns':List Nd} (hf:FineN ns) (hu:UpN ns ns') {k x y r:Int} {c:Nat} {l:List Int}
theorem NoIs.upTo (h:NoIs ns x) (hf:FineN ns) (hu:UpN ns ns'):NoIs ns' x:=⟨h.1.upTo hu,by rw[kd_upTo h.1 hu];exact h.2⟩
theorem EmIs.upTo (h:EmIs ns x) (hf:FineN ns) (hu:UpN ns ns'):EmIs ns' x:=⟨h.1.upTo hu,by rw[kd_upTo h.1 hu];exact h.2⟩
theorem AlIs.upTo (h:AlIs ns x) (hf:FineN ns) (hu:UpN ns ns'):AlIs ns' x:=⟨h.1.upTo hu,by rw[isAl_upTo hf h.1 hu];exact h.2⟩
theorem MemB.upTo (h:MemB ns k c x) (hk:k=4∨k=5) (hf:FineN ns) (hu:UpN ns ns'):MemB ns' k c x:=by
  obtain ⟨more,rfl⟩:=hu
  exact ⟨h.1.up more,by rw[mem_up hf hk more _ x (Nat.le_refl _) h.1];exact h.2⟩
theorem CatB.upTo (h:CatB ns c x) (hf:FineN ns) (hu:UpN ns ns'):CatB ns' c x:=by
  obtain ⟨more,rfl⟩:=hu
  exact ⟨h.1.up more,by unfold catN;rw[catV_up hf more h.1];exact h.2⟩
theorem JoinI.upTo (h:JoinI ns k l r) (hf:FineN ns) (hu:UpN ns ns'):JoinI ns' k l r:=⟨h.1,fun x hx=>(h.2.1 x hx).upTo hu,h.2.2.upTo hf h.1 h.2.1 hu⟩
theorem CatI.upTo (h:CatI ns x y r) (hf:FineN ns) (hu:UpN ns ns'):CatI ns' x y r:=⟨h.1.upTo hu,h.2.1.upTo hu,h.2.2.upTo hf h.1 h.2.1 hu⟩
theorem NotI.upTo (h:NotI ns x r) (hf:FineN ns) (hu:UpN ns ns'):NotI ns' x r:=⟨h.1.upTo hu,h.2.upTo h.1 hu⟩
theorem StarI.upTo (h:StarI ns x r) (hf:FineN ns) (hu:UpN ns ns'):StarI ns' x r:=⟨h.1.upTo hu,h.2.upTo h.1 hu⟩
theorem NoIs.mem (h:NoIs ns x) {k:Int} (hk:k=4∨k=5):(mem ns k x).length=1:=by rw[mem_leaf (by rw[h.2];omega)];rfl
theorem AlIs.kd (h:AlIs ns x):kd ns x=6:=by
  have:=h.2
  unfold isAl at this
  rw[Bool.and_eq_true,decide_eq_true_eq] at this
  exact this.1
theorem AlIs.mem (h:AlIs ns x) {k:Int} (hk:k=4∨k=5):(mem ns k x).length=1:=by rw[mem_leaf (by rw[h.kd];omega)];rfl
theorem NoIs.no (h:NoIs ns x):isNo ns x=true:=decide_eq_true h.2
theorem EmIs.catN (h:EmIs ns x):catN ns x=0:=by show ((catV ns x).getD []).length=0;rw[cat_empty h.2];rfl
theorem NoIs.catN (h:NoIs ns x):catN ns x=0:=by show ((catV ns x).getD []).length=0;rw[cat_none h.2];rfl
end
section
variable {AA:World→Value→List Nd→(Nat→Prop)→Prop}
end
end Go.Proofs.YtgmpfnfomgadeaaGreat

/- bolterlaw09.awake, by what an arena does. -/
set_option linter.unusedSimpArgs false
set_option linter.unusedVariables false
namespace Go.Proofs.YtgmpfnfomgadeaaGreat
open Go.RowKit
theorem noSt_ok:noSt.Ok:=⟨by show (0:Nat)<_;decide,by show (0:Nat)<_;decide,by show (0:Nat)<_;decide,by show (0:Nat)<_;decide⟩
section
variable {AA:World→Value→List Nd→(Nat→Prop)→Prop}
end
end Go.Proofs.YtgmpfnfomgadeaaGreat

/- bolterlaw09.ArenaPuts, by what an arena does. -/
set_option linter.unusedSimpArgs false
set_option linter.unusedVariables false
namespace Go.Proofs.YtgmpfnfomgadeaaGreat
open Go.RowKit
theorem findN_le (ns:List Nd) (x:Nd):findN ns x≤ns.length:=List.findIdx_le_length
theorem findN_at {ns:List Nd} {x:Nd} (h:findN ns x<ns.length):ndAt ns (findN ns x)=x:=by
  rw[ndAt_lt h]
  have:=@List.findIdx_getElem Nd (fun y=>y.eqb x) ns h
  exact (Nd.eqb_iff _ _).1 this
theorem findN_not {ns:List Nd} {x:Nd} {t:Nat} (h:t<findN ns x):(ndAt ns t).eqb x=false:=by
  have hl:=findN_le ns x
  rw[ndAt_lt (by omega)]
  have:=List.not_of_lt_findIdx h
  simpa using this
theorem put_at {ns:List Nd} {x:Nd} (hr:x.right ns.length=true):findN ns x<(putS ns x).length∧ndAt (putS ns x) (findN ns x)=x:=by
  unfold putS
  rw[if_pos hr]
  by_cases h:findN ns x<ns.length
  · rw[if_pos h];exact ⟨h,findN_at h⟩
  · rw[if_neg h]
    have e:findN ns x=ns.length:=by have:=findN_le ns x;omega
    refine ⟨by rw[e,List.length_append];simp,?_⟩
    unfold ndAt
    rw[e,List.getElem?_append_right (Nat.le_refl _),Nat.sub_self];rfl
theorem NdRow.off {w w':World} {base:Nat} {v:Value} {l:List Nd} {F:Nat→Prop} (h:NdRow w base v l) (ho:OffF F w w') (hn:∀b,F b→v.ownBlock≠some b):NdRow w' base v l:=by
  obtain ⟨h1,h2⟩:=id h
  refine ⟨h1,?_⟩
  rcases h2 with ⟨e,q⟩ | ⟨g,cap,cur,e,hb,hc,r⟩
  · exact Or.inl ⟨e,q⟩
  · refine Or.inr ⟨g,cap,cur,e,hb,?_,r⟩
    have hlt:=(World.ownsRow.lt h g (by rw[e];rfl)).2
    exact (ho.block g hlt (fun q=>hn g q (by rw[e];rfl))).trans hc
section
variable {AA:World→Value→List Nd→(Nat→Prop)→Prop}
end
end Go.Proofs.YtgmpfnfomgadeaaGreat

/- Numbers of nodes in a row of the call's own, beside the arena; how long they are. -/
set_option linter.unusedSimpArgs false
set_option linter.unusedVariables false
namespace Go.Proofs.YtgmpfnfomgadeaaGreat
open Go.RowKit
def idL (l:List Int):List Value:=l.map (fun x=>Value.int .i64 x)
def IdRow (w:World) (base:Nat) (v:Value) (l:List Int):Prop:=w.ownsRow base 3 1 v l.length (idL l)
theorem info_intR:(Tryz.prog.info? 3).map (fun i=>(i.zero,i.size,i.bytes))=some (some (.int .i64 0),1,8):=by kernel_rfl
theorem IdRow.off {w w':World} {base:Nat} {v:Value} {l:List Int} {F:Nat→Prop} (h:IdRow w base v l) (ho:OffF F w w') (hn:∀b,F b→v.ownBlock≠some b):IdRow w' base v l:=by
  obtain ⟨h1,h2⟩:=id h
  refine ⟨h1,?_⟩
  rcases h2 with ⟨e,q⟩ | ⟨g,cap,cur,e,hb,hc,r⟩
  · exact Or.inl ⟨e,q⟩
  · refine Or.inr ⟨g,cap,cur,e,hb,?_,r⟩
    have hlt:=(World.ownsRow.lt h g (by rw[e];rfl)).2
    exact (ho.block g hlt (fun q=>hn g q (by rw[e];rfl))).trans hc
theorem IdRow.made (w:World) (base:Nat) (hb:base≤w.heap.size) (x y z:Int):IdRow (w.alloc (.cells #[.int .i64 x,.int .i64 y,.int .i64 z] 3)) base (.slice (some ⟨w.heap.size,0,none⟩) 3 3) [x,y,z] :=
  ⟨rfl,.inr ⟨w.heap.size,3,#[.int .i64 x,.int .i64 y,.int .i64 z],rfl,hb,At.new _ _ _,Nat.le_refl _,by unfold maxLen;omega,rfl,rfl⟩⟩
theorem IdRow.form {w:World} {base:Nat} {v:Value} {l:List Int} (h:IdRow w base v l) (h0:0<l.length):∃g cap,v=.slice (some ⟨g,0,none⟩) l.length cap∧(∀(j:Nat) (hj:j<l.length),w.cell? ⟨g,j,none⟩=some (.int .i64 l[j])):=by
  obtain ⟨g,cap,rfl,_,_⟩:=World.ownsRow.form h h0
  refine ⟨g,cap,rfl,fun j hj=>?_⟩
  rw[World.ownsRow.cellAt h j (by omega)]
  unfold idL
  rw[List.getElem?_map,List.getElem?_eq_getElem hj]
  rfl
section
variable {AA:World→Value→List Nd→(Nat→Prop)→Prop}
structure Rnd (AA:World→Value→List Nd→(Nat→Prop)→Prop) (w0 w:World) (a:Value) (ns:List Nd) (F:Nat→Prop) (v:Value) (ids:List Int):Prop where
  aa:AA w a ns F
  canon:Canon ns
  row:IdRow w w0.heap.size v ids
  apart:∀b,F b→v.ownBlock≠some b
  own:∀b,F b→w0.heap.size≤b
  below:Below w0.heap.size w0 w
variable (S:ArenaBig AA) {w0 w w':World} {a v:Value} {ns ns':List Nd} {F:Nat→Prop} {ids:List Int} {m:Nat}
theorem Rnd.op (h:Rnd AA w0 w a ns F v ids) (hs:LSt AA w w' a ns F m ns'):∃F',Rnd AA w0 w' a ns' F' v ids∧ns'.length≤ns.length+m:=by
  obtain ⟨F',h1,h2,h3⟩:=hs.ex
  refine ⟨F',⟨h1,hs.canon,h.row.off h3 h.apart,fun b q=>?_,fun b q=>?_,h.below.trans (h3.below h.own h.below.size)⟩,hs.few⟩
  · rcases h2 b q with q | q
    · exact h.apart b q
    · intro e
      have:=(World.ownsRow.lt h.row b e).2
      omega
  · rcases h2 b q with q | q
    · exact h.own b q
    · exact Nat.le_trans h.below.size q
include S in
theorem Rnd.alloc (h:Rnd AA w0 w a ns F v ids) (o:Obj):Rnd AA w0 (w.alloc o) a ns F v ids :=
  ⟨S.next h.aa ((Below.refl _ _).alloc (Nat.le_refl _) o),h.canon,World.ownsRow.alloc h.row o,h.apart,h.own,h.below.alloc h.below.size o⟩
include S in
theorem Rnd.drewN (h:Rnd AA w0 w a ns F v ids) (q:Nat):Rnd AA w0 (w.drewN q) a ns F v ids :=
  ⟨S.keep h.aa (fun _ _=>rfl),h.canon,h.row,h.apart,h.own,below_drewN' h.below q⟩
end
def LenW (ns:List Nd) (W4 W5 W3:Nat) (x:Int):Prop:=LenB ns W4 W5 W3 x∧(kd ns x=6→LenB ns W4 W5 W3 (ka ns x))
section
variable {ns:List Nd} {W4 W5 W3:Nat} {x y r:Int}
theorem LenW.upTo {ns':List Nd} (hf:FineN ns) (h:LenW ns W4 W5 W3 x) (hu:UpN ns ns'):LenW ns' W4 W5 W3 x :=
  ⟨h.1.up hf hu,fun k=>by
    rw[kd_upTo h.1.1 hu] at k
    obtain ⟨more,rfl⟩:=hu
    rw[ka_up h.1.1]
    exact (h.2 k).up hf ⟨more,rfl⟩⟩
theorem LenW.mono {V4 V5 V3:Nat} (h:LenW ns W4 W5 W3 x) (h4:W4≤V4) (h5:W5≤V5) (h3:W3≤V3):LenW ns V4 V5 V3 x:=⟨h.1.mono h4 h5 h3,fun k=>(h.2 k).mono h4 h5 h3⟩
end
end Go.Proofs.YtgmpfnfomgadeaaGreat

/- slices.Sort and slices.Clone of whole numbers, each one application of the shelf's contract; rows of the call's own. -/
namespace Go.Proofs.YtgmpfnfomgadeaaGreat
open Go.Shelf
def lib_lays189_ren:Go.Shelf.Ren:=⟨fun | 189=>90 | 125=>96 | 257=>95 | 128=>109 | 129=>110 | 294=>100 | 295=>101 | 296=>102 | 297=>103 | 298=>104 | 299=>105 | 216=>106 | 300=>107 | 301=>108 | 328=>111 | 329=>112 | 330=>113 | 331=>114 | 332=>115 | 215=>116 | 343=>117 | n=>n,fun | 28=>73 | 3=>3 | 46=>66 | 0=>0 | 51=>138 | 53=>22 | 4=>4 | 183=>146 | 182=>145 | 131=>132 | 5=>5 | 9=>9 | 218=>152 | 222=>156 | 228=>158 | 229=>159 | n=>n,fun | n=>n⟩
theorem lib_lays189:Go.Proofs.Lays.n189 Tryz.prog lib_lays189_ren:={
  mixed:=by kernel_rfl
  f125:=Tryz.func96.trans (congrArg some (by kernel_rfl))
  f128:=Tryz.func109.trans (congrArg some (by kernel_rfl))
  f129:=Tryz.func110.trans (congrArg some (by kernel_rfl))
  f189:=Tryz.func90.trans (congrArg some (by kernel_rfl))
  f215:=Tryz.func116.trans (congrArg some (by kernel_rfl))
  f216:=Tryz.func106.trans (congrArg some (by kernel_rfl))
  f257:=Tryz.func95.trans (congrArg some (by kernel_rfl))
  f294:=Tryz.func100.trans (congrArg some (by kernel_rfl))
  f295:=Tryz.func101.trans (congrArg some (by kernel_rfl))
  f296:=Tryz.func102.trans (congrArg some (by kernel_rfl))
  f297:=Tryz.func103.trans (congrArg some (by kernel_rfl))
  f298:=Tryz.func104.trans (congrArg some (by kernel_rfl))
  f299:=Tryz.func105.trans (congrArg some (by kernel_rfl))
  f300:=Tryz.func107.trans (congrArg some (by kernel_rfl))
  f301:=Tryz.func108.trans (congrArg some (by kernel_rfl))
  f328:=Tryz.func111.trans (congrArg some (by kernel_rfl))
  f329:=Tryz.func112.trans (congrArg some (by kernel_rfl))
  f330:=Tryz.func113.trans (congrArg some (by kernel_rfl))
  f331:=Tryz.func114.trans (congrArg some (by kernel_rfl))
  f332:=Tryz.func115.trans (congrArg some (by kernel_rfl))
  f343:=Tryz.func117.trans (congrArg some (by kernel_rfl))
  t0:=Tryz.underlying0
  a0:=Tryz.isAgg0
  z0:=Tryz.sizeOf0
  v0:=Tryz.zeroValue0
  t3:=Tryz.underlying3
  a3:=Tryz.isAgg3
  z3:=Tryz.sizeOf3
  v3:=Tryz.zeroValue3
  t4:=Tryz.underlying4
  a4:=Tryz.isAgg4
  z4:=Tryz.sizeOf4
  v4:=Tryz.zeroValue4
  t5:=Tryz.underlying5
  a5:=Tryz.isAgg5
  z5:=Tryz.sizeOf5
  v5:=Tryz.zeroValue5
  t9:=Tryz.underlying9
  a9:=Tryz.isAgg9
  z9:=Tryz.sizeOf9
  v9:=Tryz.zeroValue9
  t28:=Tryz.underlying73
  a28:=Tryz.isAgg73
  z28:=Tryz.sizeOf73
  v28:=Tryz.zeroValue73
  t46:=Tryz.underlying66
  a46:=Tryz.isAgg66
  z46:=Tryz.sizeOf66
  v46:=Tryz.zeroValue66
  t51:=Tryz.underlying138
  a51:=Tryz.isAgg138
  z51:=Tryz.sizeOf138
  v51:=Tryz.zeroValue138
  t53:=Tryz.underlying22
  a53:=Tryz.isAgg22
  z53:=Tryz.sizeOf22
  v53:=Tryz.zeroValue22
  t131:=Tryz.underlying132
  a131:=Tryz.isAgg132
  z131:=Tryz.sizeOf132
  v131:=Tryz.zeroValue132
  t182:=Tryz.underlying145
  a182:=Tryz.isAgg145
  z182:=Tryz.sizeOf145
  v182:=Tryz.zeroValue145
  t183:=Tryz.underlying146
  a183:=Tryz.isAgg146
  z183:=Tryz.sizeOf146
  v183:=Tryz.zeroValue146
  t218:=Tryz.underlying152
  a218:=Tryz.isAgg152
  z218:=Tryz.sizeOf152
  v218:=Tryz.zeroValue152
  t222:=Tryz.underlying156
  a222:=Tryz.isAgg156
  z222:=Tryz.sizeOf156
  v222:=Tryz.zeroValue156
  t228:=Tryz.underlying158
  a228:=Tryz.isAgg158
  z228:=Tryz.sizeOf158
  v228:=Tryz.zeroValue158
  t229:=Tryz.underlying159
  a229:=Tryz.isAgg159
  z229:=Tryz.sizeOf159
  v229:=Tryz.zeroValue159}
open Go.Sort Go.RowKit in
theorem lib_slices_Sort_int (blk off cap:Nat) (zs:List Int) (w:World) (hH:Holds (Value.int .i64) w blk off zs.toArray) (hblk:blk<w.heap.size) (hsz:zs.length<4611686018427387904) :
    Calls Tryz.prog 90 #[.slice (some ⟨blk,off,none⟩) zs.length cap] w fun e w' =>
      e=.returned (.tuple #[])∧∃n os,w'=grow (putRow (Value.int .i64) (Sort.ahead w n) blk off (zs.mergeSort fun x y=>decide (x≤y)).toArray) os:=Any.slices_Sort_int lib_lays189 blk off cap zs w hH hblk hsz
def lib_laysNm215_ren:Go.Shelf.Ren:=⟨fun | 15=>89 | n=>n,fun | 22=>73 | 3=>3 | 4=>4 | n=>n,fun | n=>n⟩
theorem lib_laysNm215:Go.Proofs.Lays2.n15 Tryz.prog lib_laysNm215_ren:={
  mixed:=by kernel_rfl
  f15:=Tryz.func89.trans (congrArg some (by kernel_rfl))
  t3:=Tryz.underlying3
  a3:=Tryz.isAgg3
  z3:=Tryz.sizeOf3
  v3:=Tryz.zeroValue3
  t4:=Tryz.underlying4
  a4:=Tryz.isAgg4
  z4:=Tryz.sizeOf4
  v4:=Tryz.zeroValue4
  t22:=Tryz.underlying73
  a22:=Tryz.isAgg73
  z22:=Tryz.sizeOf73
  v22:=Tryz.zeroValue73
  i3:=by kernel_rfl}
open Go.RowKit Go.Lib in
theorem lib_slices_Clone_int (b off n c:Nat) (zs:List Int) (w:World) (hz:n≤zs.length) (hbig:n*8≤140737488355328) (hc:∀j,j<zs.length→w.cell? ⟨b,off+j,none⟩=some (.int .i64 (zs.getD j 0))) :
    Calls Tryz.prog 89 #[.slice (some ⟨b,off,none⟩) n c] w fun e w'=>∃v',e=.returned v'∧w'.ownsRow w.heap.size 3 1 v' n ((zs.take n).map (Value.int .i64))∧v'≠.slice none 0 0∧Below w.heap.size w w':=Any.slices_Clone_int lib_laysNm215 b off n c zs w hz hbig hc
open Go.RowKit Go.Lib in
theorem lib_slices_Clone_int_nil (n c:Nat) (w:World) :
    Calls Tryz.prog 89 #[.slice none n c] w fun e w'=>e=.returned (.slice none 0 0)∧w'=w:=Any.slices_Clone_int_nil lib_laysNm215 n c w
open Go.RowKit Go.Lib in
theorem lib_slices_Clone_int_zero (a:Addr) (c:Nat) (w:World) :
    Calls Tryz.prog 89 #[.slice (some a) 0 c] w fun e w'=>∃v',e=.returned v'∧w'.ownsRow w.heap.size 3 1 v' 0 []∧v'≠.slice none 0 0∧Below w.heap.size w w':=Any.slices_Clone_int_zero lib_laysNm215 a c w
open Go.RowKit
theorem IdRow.nil (w:World) (base:Nat):IdRow w base (.slice none 0 0) []:=World.ownsRow_nil _ _ _ _
theorem IdRow.base {w:World} {b b':Nat} {v:Value} {l:List Int} (h:IdRow w b v l) (hb:b'≤b):IdRow w b' v l:=by
  obtain ⟨h1,h2⟩:=h
  refine ⟨h1,?_⟩
  rcases h2 with hn | ⟨g,cap,cur,hv,hbg,rest⟩
  · exact .inl hn
  · exact .inr ⟨g,cap,cur,hv,Nat.le_trans hb hbg,rest⟩
theorem IdRow.next {w w':World} {b:Nat} {v:Value} {l:List Int} (h:IdRow w b v l) (hb:Below w.heap.size w w'):IdRow w' b v l:=by
  obtain ⟨h1,h2⟩:=id h
  refine ⟨h1,?_⟩
  rcases h2 with hn | ⟨g,cap,cur,hv,hbg,hc,rest⟩
  · exact .inl hn
  · refine .inr ⟨g,cap,cur,hv,hbg,?_,rest⟩
    exact (hb.block g (World.ownsRow.lt h g (by rw[hv];rfl)).2).trans hc
theorem IdRow.grown {w w':World} {b:Nat} {v:Value} {l:List Int} {row:Option Nat} (h:IdRow w b v l) (hg:w.grownBy w' row) (hr:∀c,row=some c→v.ownBlock≠some c):IdRow w' b v l:=by
  obtain ⟨h1,h2⟩:=id h
  refine ⟨h1,?_⟩
  rcases h2 with hn | ⟨g,cap,cur,hv,hbg,hc,rest⟩
  · exact .inl hn
  · refine .inr ⟨g,cap,cur,hv,hbg,?_,rest⟩
    exact (hg.block g (World.ownsRow.lt h g (by rw[hv];rfl)).2 (fun e=>hr g e.symm (by rw[hv];rfl))).trans hc
theorem IdRow.lt {w:World} {b:Nat} {v:Value} {l:List Int} (h:IdRow w b v l) {c:Nat} (e:v.ownBlock=some c):b≤c∧c<w.heap.size:=World.ownsRow.lt h c e
theorem IdRow.len {w:World} {b:Nat} {v:Value} {l:List Int} (h:IdRow w b v l):∃A c,v=.slice A l.length c:=by
  obtain ⟨h1,h2⟩:=h
  rcases h2 with ⟨hn,h0⟩ | ⟨g,cap,cur,hv,_⟩
  · exact ⟨none,0,by rw[hn,h0]⟩
  · exact ⟨_,_,hv⟩
theorem IdRow.list {w:World} {b:Nat} {v:Value} {l:List Int} (h:IdRow w b v l):ListAt w v l:=by
  obtain ⟨A,c,e⟩:=h.len
  refine ⟨A,c,e,fun h0=>?_⟩
  obtain ⟨g,cap,hv,hc⟩:=h.form h0
  rw[e] at hv
  injection hv with hv _ _
  refine ⟨g,0,hv,(h.lt (by rw[e,hv];rfl)).2,fun j hj=>?_⟩
  rw[Nat.zero_add]
  exact hc j hj
theorem IdRow.init {w:World} {b g p cap:Nat} {l:List Int} {x:Int} (h:IdRow w b (.slice (some ⟨g,0,none⟩) (p+1) cap) (l++[x])) (hp:l.length=p):IdRow w b (.slice (some ⟨g,0,none⟩) p cap) l:=by
  obtain ⟨h1,h2⟩:=h
  refine ⟨?_,?_⟩
  · unfold idL;simp
  · rcases h2 with ⟨hn,_⟩ | ⟨g',cap',cur,hv,hbg,hc,r1,r2,r3,r4⟩
    · cases hn
    · refine .inr ⟨g',cap',cur,?_,hbg,hc,?_,r2,r3,?_⟩
      · injection hv with e1 e2 e3
        rw[e1,e3,hp]
      · rw[List.length_append] at r1;simp at r1;omega
      · rw[List.length_append] at r4
        simp at r4
        have:=congrArg (List.take (l.length)) r4
        rw[List.take_take] at this
        rw[show min l.length (l.length+1)=l.length by omega] at this
        rw[Nat.mul_one,this]
        unfold idL
        rw[List.map_append,List.take_left' (by simp)]
theorem IdRow.cap {w:World} {b g p cap:Nat} {l:List Int} (h:IdRow w b (.slice (some ⟨g,0,none⟩) p cap) l):p≤cap:=by
  obtain ⟨h1,h2⟩:=h
  rcases h2 with ⟨hn,_⟩ | ⟨g',cap',cur,hv,hbg,hc,r1,r2,r3,r4⟩
  · cases hn
  · injection hv with e1 e2 e3
    rw[e2,e3];exact r1
def lenV:Value→Nat
  | .slice _ n _=>n
  | _=>0
theorem nClone {w:World} {v:Value} {l:List Int} (hv:ListAt w v l) (hl:l.length≤1000000):Calls Tryz.prog 89 #[v] w fun e w'=>∃v',e=.returned v'∧IdRow w' w.heap.size v' l∧Below w.heap.size w w':=by
  obtain ⟨A,c,rfl,h⟩:=hv
  by_cases h0:0<l.length
  · obtain ⟨b,off,rfl,hlt,hc⟩:=h h0
    refine (lib_slices_Clone_int b off l.length c l w (Nat.le_refl _) (by omega) (fun j hj=>by rw[hc j hj];simp[List.getD,List.getElem?_eq_getElem hj])).mono ?_
    rintro e w' ⟨v',rfl,h1,_,h2⟩
    exact ⟨v',rfl,by rw[List.take_length] at h1;exact h1,h2⟩
  · obtain rfl:l=[]:=List.eq_nil_of_length_eq_zero (by omega)
    cases A with
    | none =>
      refine (lib_slices_Clone_int_nil 0 c w).mono ?_
      rintro e w' ⟨rfl,rfl⟩
      exact ⟨_,rfl,IdRow.nil _ _,Below.refl _ _⟩
    | some a =>
      refine (lib_slices_Clone_int_zero a c w).mono ?_
      rintro e w' ⟨v',rfl,h1,_,h2⟩
      exact ⟨v',rfl,h1,h2⟩
theorem nSort {w:World} {b:Nat} {v:Value} {l:List Int} (h:IdRow w b v l) (h0:0<l.length) (hl:l.length≤1000000):Calls Tryz.prog 90 #[v] w fun e w'=>e=.returned (.tuple #[])∧IdRow w' b v (l.mergeSort fun x y=>decide (x≤y))∧w.grownBy w' v.ownBlock:=by
  obtain ⟨h1,h2⟩:=id h
  rcases h2 with ⟨_,hn⟩ | ⟨g,cap,cur,rfl,hbg,hc,r1,r2,r3,r4⟩
  · omega
  · rw[Nat.mul_one] at r4
    have hg:g<w.heap.size:=(Array.getElem?_eq_some_iff.1 hc).1
    refine (lib_slices_Sort_int g 0 cap l w (holds_of_blockI hc r4) hg (by omega)).mono ?_
    rintro e w' ⟨rfl,n,os,rfl⟩
    refine ⟨rfl,?_,grownBy_sortedI _⟩
    have:=ownsRow_sortedI (n:=n) (os:=os) (base:=b) (ss:=l) (ts:=l.mergeSort fun x y=>decide (x≤y)) (by simp) hbg hc r1 r2 r3
    unfold IdRow
    rw[show (l.mergeSort fun x y=>decide (x≤y)).length=l.length by simp]
    exact this
end Go.Proofs.YtgmpfnfomgadeaaGreat
