/- LinearPatterns: for every pattern and every list of bytes the law answers true, and they read as they did. No condition. -/
import Derived.Test.YtdmodhnhldbpnaaGreatRows
import Derived.Test.YtdmodhnhldbpnaaGreatMbb
import Derived.Test.YtdmodhnhldbpnaaGreatMbs
import Derived.Test.YtdmodhnhldbpnaaGreatMai
import Derived.Test.YtdmodhnhldbpnaaGreatMad
import Derived.Test.YtdmodhnhldbpnaaGreatAid
set_option maxRecDepth 100000
namespace Go.Proofs.YtdmodhnhldbpnaaGreat.linearPatterns
open Go.ChangeShapes Go.WideShapes Go.ChangeAt Go.RowKit
theorem lifted (os:Os) (started:os.Started) (H:Type) (enc:TypeId×Value->H) :
  ReturnsInHanded {} Tryz.checked os 4 .any (Rows.linearPatternsSpec.pre6 enc Tryz.prog Tryz.f4 Rows.linearPatternsRow.domain false) (Rows.linearPatternsSpec.post enc Tryz.prog Tryz.f4 false true false false):=by
 refine returnsInHanded_of_change (C:=Tryz.checked) own started (by kernel_rfl) Tryz.func4
  (ChangeSpec.witness6 (enc:=enc) (C:=Tryz.checked) false ⟨#[],#[.agg #[.int .i64 0,.int .u64 0,.int .u64 0,.int .u64 0,.int .u64 0,.slice none 0 0,.int .i64 0,.int .i64 0,.bool false],.slice none 0 0],[]⟩ 600 (by kernel_rfl) (by kernel_rfl) (by kernel_rfl) (by kernel_rfl)) ?_
 intro W base args ds gs before hval0 hW hcnd _
 have hval:∀(j:Nat) t v,Tryz.f4.params[j]?=some t->args[j]?=some v->Value.okWide Tryz.prog W .any base t v:=hval0
 have hW':=hW
 obtain ⟨p,q,hA0,hV,rfl,hfz,hnd⟩:=hW
 have hA:DataW.TrodAll enc Tryz.prog W 0 (fun _=>true) true Tryz.f4.params.toList args.toList ds p:=hA0
 rw[Tryz.params4] at hA hval
 obtain ⟨v0,vs0,d0,ds0,p0,q0,hargs,rfl,rfl,h0,r0⟩:=trodAll_cons hA
 obtain ⟨v1,vs1,d1,ds1,p1,q1,rfl,rfl,rfl,h1,r1⟩:=trodAll_cons r0
 obtain ⟨rfl,rfl,rfl⟩:=trodAll_nil r1
 obtain rfl:args=#[v0,v1]:=by cases args;simp_all
 obtain ⟨rfl,rfl⟩:=trodVars_none hV
 have hzz:∀x∈p0,MemPlace.frozenIn W x=false:=fun x hx=>by
  cases x with
  | map b=>rfl
  | cell b off=>exact hfz b off (jH _ (jH _ hx))
 obtain ⟨k,t,ht,rfl⟩:=zqF (I:=3) (S:=46) (U:=44) (L:=47) (B:=4) Tryz.underlying49 ⟨rfl,rfl⟩ ⟨rfl,rfl⟩ ⟨rfl,rfl⟩ ⟨rfl,rfl⟩ ⟨rfl,rfl⟩ ⟨rfl,rfl⟩ Tryz.underlying46 Tryz.underlying44 Tryz.underlying47 Tryz.underlying3 Tryz.underlying4 (by kernel_rfl) (by kernel_rfl) (by kernel_rfl) (by kernel_rfl) (by kernel_rfl) (by kernel_rfl) (hval 0 49 v0 rfl rfl) h0 hzz
 obtain ⟨aq,nq,cq,q,hq,rfl⟩:=zlx Tryz.underlying23 Tryz.underlying5 (by kernel_rfl) (hval 1 23 v1 rfl rfl) h1
 clear hA0 hval0
 refine (zkd zpo zia ztb k t aq nq cq q W ht hq).mono fun e W' ⟨he,bel⟩=>?_
 subst he
 exact ⟨_,rfl,_,_,_,[],_,[],hW',trodAll_mk1 (shut_bool Tryz.underlying4 _),
  (trodAll_cons_mk (Below.trod zmM (by kernel_rfl) (jB (by kernel_rfl)) h0 bel (zhu h0)) (trodAll_cons_mk (Below.trod zmM (by kernel_rfl) (jB (by kernel_rfl)) h1 bel (zhu h1)) trodAll_mk0)),rfl,bel.frame _,fun h=>by cases h⟩
theorem over:Rows.linearPatternsRow.holds Tryz.pinned (OpenSpec.ofChange Rows.linearPatternsSpec) :=
 OpenClaim.holds_of_wide 4 Tryz.f4 rfl rfl rfl rfl rfl rfl rfl ⟨rfl,rfl,rfl,rfl,rfl⟩ rfl rfl rfl rfl rfl (by kernel_rfl) Tryz.func4 (by kernel_rfl)
  (jB (by kernel_rfl)) (by unfold Func.isWrapper;first | (rw[if_pos (by decide +kernel)];kernel_rfl) | (rw[if_neg (by decide +kernel)];exact ⟨rfl,rfl⟩))
  (fun os started H enc _=>lifted os started H enc)
theorem proved:Rows.LinearPatternsSaid:=over
#print axioms proved
end Go.Proofs.YtdmodhnhldbpnaaGreat.linearPatterns
