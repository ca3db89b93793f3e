/- What the claim needs of the texts HStmt, TRd, TRd2, TFwd, HBack, JSame, HBack2, HLBack. -/
import Derived.Test.YtmclaaonlhnbmaaGreatDoorS1
import Derived.Test.YtmclaaonlhnbmaaGreatDoorS2
import Derived.Test.YtmclaaonlhnbmaaGreatDoorS3
import Derived.Test.YtmclaaonlhnbmaaGreatDoorS4
import Derived.Test.YtmclaaonlhnbmaaGreatDoorS5
import Derived.Test.YtmclaaonlhnbmaaGreatDoorS6
import Derived.Test.YtmclaaonlhnbmaaGreatDoorS7
import Derived.Test.YtmclaaonlhnbmaaGreatDoorS8
import Derived.Test.YtmclaaonlhnbmaaGreatDoorS9
import Derived.Test.YtmclaaonlhnbmaaGreatDoorS10
import Derived.Test.YtmclaaonlhnbmaaGreatDoorS11
import Derived.Test.YtmclaaonlhnbmaaGreatDoorS12
import Derived.Test.YtmclaaonlhnbmaaGreatDoorS13
import Derived.Test.YtmclaaonlhnbmaaGreatDoorS14
import Derived.Test.YtmclaaonlhnbmaaGreatDoorS15
import Derived.Test.YtmclaaonlhnbmaaGreatDoorS16
import Derived.Test.YtmclaaonlhnbmaaGreatDoorS17
import Derived.Test.YtmclaaonlhnbmaaGreatDoorV1
import Derived.Deep.QuietTactic
import Derived.BigQuiet
import Derived.BigRegion
import Derived.Deep.DeepCutAuto
namespace Go.Proofs.YtmclaaonlhnbmaaGreatDoor.H
open Go.Lib Go.Proofs.YtmclaaonlhnbmaaGreatDoor.U Go.Proofs.YtmclaaonlhnbmaaGreatDoor.S Go.Proofs.YtmclaaonlhnbmaaGreatDoor.T Go.Proofs.YtmclaaonlhnbmaaGreatDoor.K
section
variable {L:List TokP}
theorem semi_zero {i:Nat} (h:comesT L 5 i=false):semiN L i=0:=by
 unfold comesT at h;unfold semiN
 cases hd:L.drop i with
 | nil=>rfl
 | cons k s =>
  have hk:L[i]?=some k:=by rw [← List.head?_drop,hd];rfl
  rw [hk] at h
  have h':(k.w==5)=false:=h
  rw [List.takeWhile_cons,h'];rfl
theorem semi_one {i:Nat} {t:By} (h:Wt L i 5 t) (h2:comesT L 5 (i+1)=false):semiN L i=1:=by
 have hz:=semi_zero h2
 unfold semiN at hz ⊢
 obtain ⟨k,hk,hw,_⟩:=h
 cases hd:L.drop i with
 | nil=>rw [← List.head?_drop,hd] at hk;cases hk
 | cons x s =>
  have hx:L[i]?=some x:=by rw [← List.head?_drop,hd];rfl
  rw [hk] at hx;cases hx
  have hs:L.drop (i+1)=s:=by rw [← List.drop_drop,hd];rfl
  rw [hs] at hz
  rw [List.takeWhile_cons,hw]
  simp [hz]
theorem noT_semi {i:Nat} {t:By} (h:Wt L i 5 t):NoT L i:=⟨not_low h (.inr (.inr (.inr rfl))) _,not_low h (.inr (.inr (.inr rfl))) _,not_low h (.inr (.inr (.inr rfl))) _⟩
theorem noT_mark {i:Nat} {w:Int} {t:By} (h:Wt L i w t) (h1:t≠[46]) (h2:t≠[91]) (h3:t≠[40]):NoT L i:=⟨not_text h h1,not_text h h2,not_text h h3⟩
theorem ef_at {ws:List Wd} (h:EF ws) {i:Nat} (ha:At L i ws):comesT L 5 i=false∧∀ x:By,x ∉ [[40],[38],[42],[45],[33]]→isT L x i=false:=by
 obtain ⟨w,t,r,rfl,hw⟩:=h
 obtain ⟨a,_⟩:=at_cons ha
 rcases hw with rfl|rfl|rfl|⟨rfl,hx⟩
 ·exact ⟨by rw [comes_at a];rfl,fun x _=>not_low a (.inl rfl) x⟩
 ·exact ⟨by rw [comes_at a];rfl,fun x _=>not_low a (.inr (.inl rfl)) x⟩
 ·exact ⟨by rw [comes_at a];rfl,fun x _=>not_low a (.inr (.inr (.inl rfl))) x⟩
 ·refine ⟨by rw [comes_at a];rfl,fun x hn=>not_text a fun e=>hn ?_⟩
  rw [← e]
  rcases hx with rfl|hx
  ·simp
  ·exact List.mem_cons_of_mem _ hx
theorem ex_stop {p:Pt} {ws:List Wd} (hp:ExW p) (h:ER p ws) {i n:Nat} (ha:At L i ws) (hn:8*ws.length+2≤n) (hs:strongT L (i+ws.length)=0) (hx:NoT L (i+ws.length)) :
  ∃ q,strip q=strip p∧expr L n 0 i=.ok q (i+ws.length):=by
 obtain ⟨q,m,h1,h2,h3⟩:=h.ee L i n 0 ha hn (Int.le_refl 0) (by have:=ex_lvl hp;omega) (by omega) hx
 exact ⟨q,h1,by rw [h3,exprs_stop (by omega) (by omega)]⟩
end
def SF (ws:List Wd):Prop:=∀ (L:List TokP) (i:Nat),At L i ws→isT L [125] i=false∧comesT L 5 i=false
def SS (p:Pt) (ws:List Wd):Prop:=∀ (L:List TokP) (i n:Nat),At L i ws→8*ws.length+9≤n→Wt L (i+ws.length) 5 []→∃ q,strip q=strip p∧stmt L n i=.ok q (i+ws.length)
def BB (p:Pt) (ws:List Wd):Prop:=(∃ r,ws=(4,[123]) :: r)∧∀ (L:List TokP) (i n:Nat),At L i ws→8*ws.length+8≤n→∃ q,strip q=strip p∧block L n i=.ok q (i+ws.length)
def BR (p:Pt) (ws:List Wd):Prop:=(∃ r,ws=(3,kIf) :: r)∧∀ (L:List TokP) (i n:Nat),At L i ws→8*ws.length+8≤n→Wt L (i+ws.length) 5 []→∃ q,strip q=strip p∧branch L n i=.ok q (i+ws.length)
structure SR (p:Pt) (ws:List Wd):Prop where
 tell:Tell p ws
 first:SF ws
 ss:SS p ws
 bb:kindP p=kBlock→BB p ws
 br:kindP p=kIf→BR p ws
theorem sf_key {t:By} {r:List Wd} (ht:t≠[125]):SF ((3,t) :: r):=fun L i ha=>by
 obtain ⟨a,_⟩:=at_cons ha
 exact ⟨not_text a ht,by rw [comes_at a];rfl⟩
theorem sf_brace {r:List Wd}:SF ((4,[123]) :: r):=fun L i ha=>by
 obtain ⟨a,_⟩:=at_cons ha
 exact ⟨not_text a (by decide),by rw [comes_at a];rfl⟩
theorem sf_ef {ws r:List Wd} (h:EF ws):SF (ws++r):=fun L i ha=>by
 obtain ⟨a,_⟩:=at_app ha
 exact ⟨(ef_at h a).2 _ (by decide),(ef_at h a).1⟩
def rowsX (ind:Nat) (l:List (List Pc)):List Pc:=(l.map fun x=>Pc.sp (10 :: tabs (ind+1)) :: x).flatten
theorem wds_nl (n:Nat) (r:List Pc):wds (.sp (10 :: tabs n) :: r) true=((5,[]) :: (wds r false).1,(wds r false).2):=by
 rw [wds,if_pos ⟨rfl,List.mem_cons_self⟩]
theorem wds_nl0 (n:Nat) (r:List Pc):wds (.sp (10 :: tabs n) :: r) false=wds r false:=by
 rw [wds,if_neg (by rintro ⟨h,_⟩;cases h)]
def RR (S:Nat→Pt→List Pc) (rd:List TokP→Nat→Nat→List Pt→Out (List Pt)) (ks:List Pt) (rw:List Wd):Prop :=
 (∀ ind,wds (rowsX ind (ks.map (S ind))++[.sp (10 :: tabs ind),.wd 4 [125]]) true=((5,[]) :: (rw++[(4,[125])]),true)) ∧
 (∀ ind en,wds (linesP ind (ks.map (S ind))) en=((4,[123]) :: (rw++[(4,[125])]),true)) ∧
 (∀ (L:List TokP) (i:Nat),At L i (rw++[(4,[125])])→comesT L 5 i=false) ∧
 ∀ (L:List TokP) (i n:Nat) (acc:List Pt),At L i (rw++[(4,[125])])→8*rw.length+10≤n→∃ qs,stripL qs=stripL ks∧rd L n i acc=.ok (acc++qs) (i+rw.length)
theorem rr_cons {S:Nat→Pt→List Pc} {rd:List TokP→Nat→Nat→List Pt→Out (List Pt)} {a:Pt} {r:List Pt} {wa rw:List Wd}
  (ht:∀ ind en,wds (S ind a) en=(wa,true)) (hf:SF wa) (hr:RR S rd r rw)
  (hd:∀ (L:List TokP) (i n:Nat) (acc:List Pt),At L i wa→8*wa.length+17≤n→Wt L (i+wa.length) 5 []→comesT L 5 (i+wa.length+1)=false →
   ∃ q,strip q=strip a∧∀ l j,rd L (n - 1) (i+wa.length+1) (acc++[q])=.ok l j→rd L n i acc=.ok l j):RR S rd (a :: r) (wa++(5,[]) :: rw):=by
 obtain ⟨h1,h2,h3,h4⟩:=hr
 refine ⟨fun ind=>?_,fun ind en=>?_,fun L i ha=>?_,fun L i n acc ha hn=>?_⟩
 ·simp only [rowsX,List.map_cons,List.flatten_cons,List.cons_append,List.append_assoc]
  rw [wds_nl,wds_app,ht ind]
  have:=h1 ind
  unfold rowsX at this
  rw [this]
  first|done|simp
 ·unfold linesP
  rw [List.map_cons,if_neg (by simp),wds_wd,List.map_cons,List.flatten_cons,List.cons_append,List.cons_append,show endsP 4 [123]=false from rfl,wds_nl0,List.append_assoc,wds_app,ht ind]
  have:=h1 ind
  unfold rowsX at this
  simp only [List.cons_append,List.nil_append] at this ⊢
  rw [this];simp
 ·rw [List.append_assoc] at ha
  obtain ⟨a1,_⟩:=at_app ha
  exact (hf L i a1).2
 ·rw [List.append_assoc] at ha
  obtain ⟨a1,a2⟩:=at_app ha
  obtain ⟨a3,a4⟩:=at_cons a2
  simp only [List.length_append,List.length_cons] at hn ⊢
  obtain ⟨q,k1,k2⟩:=hd L i n acc a1 (by omega) a3 (h3 L _ a4)
  obtain ⟨qs,k3,k4⟩:=h4 L (i+wa.length+1) (n - 1) (acc++[q]) a4 (by omega)
  refine ⟨q :: qs,by rw [stripL,stripL,k1,k3],?_⟩
  rw [k2 _ _ k4,List.append_assoc,show i+(wa.length+(rw.length+1))=i+wa.length+1+rw.length from by omega];rfl
theorem rr_nil {S:Nat→Pt→List Pc} {rd:List TokP→Nat→Nat→List Pt→Out (List Pt)}
  (hd:∀ (L:List TokP) (i n:Nat) (acc:List Pt),isT L [125] i=true→0<n→rd L n i acc=.ok acc i):RR S rd [] []:=by
 refine ⟨fun ind=>?_,fun ind en=>?_,fun L i ha=>?_,fun L i n acc ha hn=>⟨[],rfl,?_⟩⟩
 ·simp only [rowsX,List.map_nil,List.flatten_nil,List.nil_append]
  rw [wds_nl];rfl
 ·rfl
 ·obtain ⟨a,_⟩:=at_cons ha
  rw [comes_at a];rfl
 ·obtain ⟨a,_⟩:=at_cons ha
  rw [hd L i n acc (is_mark a (.inl rfl)) (by omega),List.append_nil];rfl
theorem stmts_read:∀ (ks:List Pt),(∀ q∈ks,∃ ws,SR q ws)→∃ rw,RR (fun ind=>pcs (ind+1)) (fun L=>stmts L) ks rw
 | [],_=>⟨[],rr_nil fun L i n acc h hn=>by
   obtain ⟨n,rfl⟩:∃ k,n=k+1:=⟨n - 1,by omega⟩
   show stmts L (n+1) i acc=_
   rw [stmts,if_pos h]⟩
 | a :: r,h=>by
  obtain ⟨wa,ha⟩:=h a List.mem_cons_self
  obtain ⟨rw',hr⟩:=stmts_read r fun q hq=>h q (List.mem_cons_of_mem _ hq)
  refine ⟨_,rr_cons (fun ind en=>ha.tell (ind+1) en) ha.first hr fun L i n acc a1 hn a3 h5=>?_⟩
  obtain ⟨n,rfl⟩:∃ k,n=k+1:=⟨n - 1,by omega⟩
  obtain ⟨q,k1,k2⟩:=ha.ss L i n a1 (by omega) a3
  refine ⟨q,k1,fun l j k3=>?_⟩
  show stmts L (n+1) i acc=_
  rw [stmts,(ha.first L i a1).1,k2]
  simp only [Bool.false_eq_true,if_false,Out.next]
  rw [semi_one a3 h5,if_neg (by rintro ⟨h,_⟩;cases h)]
  exact k3
theorem var_read {x:Pt} {t:By} {f e:Int} (_ht:VW 0 t) (hx:TyW x):∃ ws,Tell (.mk kVar t f e [x]) ws∧SF ws∧(∃ r,ws=(3,kVar) :: r) ∧
  ∀ (L:List TokP) (i n:Nat),At L i ws→ws.length≤n→∃ q,strip q=strip (.mk kVar t f e [x])∧variable' L n i=.ok q (i+ws.length):=by
 obtain ⟨wx,t1,t2,t3⟩:=ty_read hx
 refine ⟨(3,kVar) :: (0,t) :: wx,fun ind en=>?_,sf_key (by decide),⟨_,rfl⟩,fun L i n ha hn=>?_⟩
 ·rw [pcs_mk,kdw_var]
  simp only [bodyP,kidAt0,List.cons_append,List.nil_append,wds_wd,wds_sp,t1 ind]
 ·simp only [List.length_cons] at hn ⊢
  obtain ⟨a1,a2⟩:=at_cons ha
  obtain ⟨a3,a4⟩:=at_cons a2
  obtain ⟨q,h1,h2⟩:=t3 L (i+1+1) n a4 (by omega)
  refine ⟨.mk kVar t (fromT L i) (toT L (i+1+1+wx.length)) [q],strip_mk (strip1 h1),?_⟩
  unfold variable'
  rw [must_at a1 (.inr rfl)]
  simp only [Out.next]
  rw [name_at a3]
  simp only []
  rw [h2,show i+(wx.length+1+1)=i+1+1+wx.length from by omega];rfl
theorem sr_of {k t:By} {f e:Int} {ks:List Pt} {ws:List Wd} (hb:k≠kBlock) (hi:k≠kIf) (tell:Tell (.mk k t f e ks) ws) (first:SF ws) (ss:SS (.mk k t f e ks) ws):SR (.mk k t f e ks) ws :=
 ⟨tell,first,ss,fun h=>absurd h hb,fun h=>absurd h hi⟩
theorem ef_stmt {L:List TokP} {ws:List Wd} (h:EF ws) {i:Nat} (ha:At L i ws) (n:Nat):stmt L (n+1) i=(expr L n 0 i).next fun a j =>
      if isT L [61] j then (expr L n 0 (j+1)).next fun b k=>T.part L kAssign [] (fromT L i) [a,b] k
      else if isT L [58,61] j then (expr L n 0 (j+1)).next fun b k=>T.part L kDefine [] (fromT L i) [a,b] k
      else T.part L kExpr [] (fromT L i) [a] j:=by
 have hw:=(ef_at h ha).2
 rw [stmt,hw kVar (by decide),hw kIf (by decide),hw [123] (by decide),hw kFor (by decide),hw kReturn (by decide)]
 rfl
theorem two_read {k m:By} {a b:Pt} {f e:Int} {wa wb:List Wd} (hk:(k=kAssign∧m=[61])∨(k=kDefine∧m=[58,61])) (xa:ExW a) (xb:ExW b) (ha:ER a wa) (hb:ER b wb):SR (.mk k [] f e [a,b]) (wa++(4,m) :: wb):=by
 refine sr_of (by rcases hk with ⟨rfl,_⟩|⟨rfl,_⟩ <;> decide) (by rcases hk with ⟨rfl,_⟩|⟨rfl,_⟩ <;> decide) (fun ind en=>?_) (sf_ef ha.first) fun L i n h1 hn hj=>?_
 ·rcases hk with ⟨rfl,rfl⟩|⟨rfl,rfl⟩
  ·rw [pcs_mk,kdw_assign]
   simp only [bodyP,kidAt0,kidAt1,List.cons_append,List.nil_append,wds_app,wds_wd,wds_sp,ha.tell ind,hb.tell ind]
  ·rw [pcs_mk,kdw_define]
   simp only [bodyP,kidAt0,kidAt1,List.cons_append,List.nil_append,wds_app,wds_wd,wds_sp,ha.tell ind,hb.tell ind]
 ·simp only [List.length_append,List.length_cons] at hn hj ⊢
  obtain ⟨n,rfl⟩:∃ k,n=k+1:=⟨n - 1,by omega⟩
  obtain ⟨a1,a2⟩:=at_app h1
  obtain ⟨a3,a4⟩:=at_cons a2
  have hij:i+(wa.length+(wb.length+1))=i+wa.length+1+wb.length:=by omega
  rw [hij] at hj ⊢
  obtain ⟨q,k1,k2⟩:=ex_stop xa ha a1 (n:=n) (by omega) (by rw [strong_at a3];rcases hk with ⟨_,rfl⟩|⟨_,rfl⟩ <;> rfl) (by rcases hk with ⟨_,rfl⟩|⟨_,rfl⟩ <;> exact noT_mark a3 (by decide) (by decide) (by decide))
  obtain ⟨q2,k3,k4⟩:=ex_stop xb hb a4 (n:=n) (by omega) (strong_low hj (by decide)) (noT_semi hj)
  refine ⟨.mk k [] (fromT L i) (toT L (i+wa.length+1+wb.length)) [q,q2],strip_mk (strip2 k1 k3),?_⟩
  rw [ef_stmt ha.first a1,k2]
  simp only [Out.next]
  rcases hk with ⟨rfl,rfl⟩|⟨rfl,rfl⟩
  ·rw [is_mark a3 (.inl rfl),if_pos rfl,k4];rfl
  ·rw [not_text a3 (by decide),is_mark a3 (.inl rfl),if_neg (by decide),if_pos rfl,k4];rfl
theorem if_of {f e:Int} {ks:List Pt} {ws:List Wd} (tell:Tell (.mk kIf [] f e ks) ws) (h:BR (.mk kIf [] f e ks) ws):SR (.mk kIf [] f e ks) ws:=by
 obtain ⟨⟨r,hr⟩,h2⟩:=h
 refine ⟨tell,by rw [hr];exact sf_key (by decide),fun L i n ha hn hj=>?_,fun h=>absurd h (by decide:kIf≠kBlock),fun _=>⟨⟨r,hr⟩,h2⟩⟩
 obtain ⟨n,rfl⟩:∃ k,n=k+1:=⟨n - 1,by omega⟩
 obtain ⟨q,k1,k2⟩:=h2 L i n ha (by omega) hj
 refine ⟨q,k1,?_⟩
 rw [hr] at ha
 obtain ⟨a1,_⟩:=at_cons ha
 rw [stmt,not_text a1 (x:=kVar) (by decide),is_mark a1 (.inr rfl),if_neg (by decide),if_pos rfl,k2]
theorem st_read {p:Pt} (h:StW p):∃ ws,SR p ws:=by
 induction h with
 | @var x t f e ht hx =>
  obtain ⟨ws,t1,t2,⟨r,t3⟩,t4⟩:=var_read (f:=f) (e:=e) ht hx
  refine ⟨ws,sr_of (by decide) (by decide) t1 t2 fun L i n ha hn hj=>?_⟩
  obtain ⟨n,rfl⟩:∃ k,n=k+1:=⟨n - 1,by omega⟩
  obtain ⟨q,k1,k2⟩:=t4 L i n ha (by omega)
  refine ⟨q,k1,?_⟩
  rw [t3] at ha
  obtain ⟨a1,_⟩:=at_cons ha
  rw [stmt,is_mark a1 (.inr rfl),if_pos rfl,k2]
 | @block ks f e hk ih =>
  obtain ⟨rw',h1,h2,h3,h4⟩:=stmts_read ks ih
  have hb:BB (.mk kBlock [] f e ks) ((4,[123]) :: (rw'++[(4,[125])])):=by
   refine ⟨⟨_,rfl⟩,fun L i n ha hn=>?_⟩
   simp only [List.length_cons,List.length_append,List.length_nil] at hn ⊢
   obtain ⟨n,rfl⟩:∃ k,n=k+1:=⟨n - 1,by omega⟩
   obtain ⟨a1,a2⟩:=at_cons ha
   obtain ⟨qs,k1,k2⟩:=h4 L (i+1) n [] a2 (by omega)
   have k2:stmts L n (i+1) []=.ok ([]++qs) (i+1+rw'.length):=k2
   obtain ⟨a3,a4⟩:=at_app a2
   obtain ⟨a5,_⟩:=at_cons a4
   refine ⟨.mk kBlock [] (fromT L i) (toT L (i+1+rw'.length+1)) qs,strip_mk k1,?_⟩
   rw [block,must_at a1 (.inl rfl)]
   simp only [Out.next]
   rw [semi_zero (h3 L (i+1) a2),Nat.add_zero,k2]
   simp only []
   rw [must_at a5 (.inl rfl),show i+(rw'.length+(0+1)+1)=i+1+rw'.length+1 from by omega]
   rfl
  refine ⟨_,fun ind en=>?_,sf_brace,fun L i n ha hn hj=>?_,fun _=>hb,fun h=>absurd h (by decide:kBlock≠kIf)⟩
  ·rw [pcs_mk,kdw_block];exact h2 ind en
  ·obtain ⟨n,rfl⟩:∃ k,n=k+1:=⟨n - 1,by omega⟩
   obtain ⟨q,k1,k2⟩:=hb.2 L i n ha (by omega)
   obtain ⟨a1,_⟩:=at_cons ha
   refine ⟨q,k1,?_⟩
   rw [stmt,not_text a1 (x:=kVar) (by decide),not_text a1 (x:=kIf) (by decide),is_mark a1 (.inl rfl),if_neg (by decide),if_neg (by decide),if_pos rfl,k2]
 | @ret0 f e =>
  refine ⟨[(3,kReturn)],sr_of (by decide) (by decide) (fun ind en=>?_) (sf_key (by decide)) fun L i n ha hn hj=>?_⟩
  ·rw [pcs_mk,kdw_ret];rfl
  ·simp only [List.length_cons,List.length_nil] at hn hj ⊢
   obtain ⟨n,rfl⟩:∃ k,n=k+1:=⟨n - 1,by omega⟩
   obtain ⟨a1,_⟩:=at_cons ha
   refine ⟨.mk kReturn [] (fromT L i) (toT L (i+1)) [],strip_mk rfl,?_⟩
   rw [stmt,not_text a1 (x:=kVar) (by decide),not_text a1 (x:=kIf) (by decide),not_text a1 (x:=[123]) (by decide),not_text a1 (x:=kFor) (by decide),is_mark a1 (.inr rfl),if_neg (by decide),if_neg (by decide),if_neg (by decide),if_neg (by decide),if_pos rfl,if_pos (.inl (by rw [comes_at hj];rfl))]
   rfl
 | @ret c f e hc =>
  obtain ⟨wc,hr⟩:=ex_read hc
  refine ⟨(3,kReturn) :: wc,sr_of (by decide) (by decide) (fun ind en=>?_) (sf_key (by decide)) fun L i n ha hn hj=>?_⟩
  ·rw [pcs_mk,kdw_ret]
   simp only [bodyP,kidAt0,wds_wd]
   rw [if_neg (by simp),wds_sp,hr.tell ind]
  ·simp only [List.length_cons] at hn hj ⊢
   obtain ⟨n,rfl⟩:∃ k,n=k+1:=⟨n - 1,by omega⟩
   have hij:i+(wc.length+1)=i+1+wc.length:=by omega
   rw [hij] at hj ⊢
   obtain ⟨a1,a2⟩:=at_cons ha
   obtain ⟨q,k1,k2⟩:=ex_stop hc hr a2 (n:=n) (by omega) (strong_low hj (by decide)) (noT_semi hj)
   refine ⟨.mk kReturn [] (fromT L i) (toT L (i+1+wc.length)) [q],strip_mk (strip1 k1),?_⟩
   have hf:=ef_at hr.first a2
   rw [stmt,not_text a1 (x:=kVar) (by decide),not_text a1 (x:=kIf) (by decide),not_text a1 (x:=[123]) (by decide),not_text a1 (x:=kFor) (by decide),is_mark a1 (.inr rfl),if_neg (by decide),if_neg (by decide),if_neg (by decide),if_neg (by decide),if_pos rfl,if_neg (by rw [hf.1,hf.2 [125] (by decide)];decide),k2]
   rfl
 | @assign a b f e ha hb =>
  obtain ⟨wa,ka⟩:=ex_read ha
  obtain ⟨wb,kb⟩:=ex_read hb
  exact ⟨_,two_read (.inl ⟨rfl,rfl⟩) ha hb ka kb⟩
 | @define a b f e ha hb =>
  obtain ⟨wa,ka⟩:=ex_read ha
  obtain ⟨wb,kb⟩:=ex_read hb
  exact ⟨_,two_read (.inr ⟨rfl,rfl⟩) ha hb ka kb⟩
 | @expr a f e ha =>
  obtain ⟨wa,ka⟩:=ex_read ha
  refine ⟨wa,sr_of (by decide) (by decide) (fun ind en=>?_) (by have:=sf_ef ka.first (r:=[]);rwa [List.append_nil] at this) fun L i n h1 hn hj=>?_⟩
  ·rw [pcs_mk,kdw_expr];exact ka.tell ind en
  ·obtain ⟨n,rfl⟩:∃ k,n=k+1:=⟨n - 1,by omega⟩
   obtain ⟨q,k1,k2⟩:=ex_stop ha ka h1 (n:=n) (by omega) (strong_low hj (by decide)) (noT_semi hj)
   refine ⟨.mk kExpr [] (fromT L i) (toT L (i+wa.length)) [q],strip_mk (strip1 k1),?_⟩
   rw [ef_stmt ka.first h1,k2]
   simp only [Out.next]
   rw [not_low hj (.inr (.inr (.inr rfl))),not_low hj (.inr (.inr (.inr rfl)))]
   rfl
 | @for' c b f e hc hb hk ih =>
  obtain ⟨wc,kc⟩:=ex_read hc
  obtain ⟨wb,kb⟩:=ih
  obtain ⟨⟨r,hr⟩,hbb⟩:=kb.bb hk
  refine ⟨(3,kFor) :: (wc++wb),sr_of (by decide) (by decide) (fun ind en=>?_) (sf_key (by decide)) fun L i n ha hn hj=>?_⟩
  ·rw [pcs_mk,kdw_for]
   simp only [bodyP,kidAt0,kidAt1,List.cons_append,List.nil_append,wds_app,wds_wd,wds_sp,kc.tell ind,kb.tell ind]
  ·simp only [List.length_cons,List.length_append] at hn hj ⊢
   obtain ⟨n,rfl⟩:∃ k,n=k+1:=⟨n - 1,by omega⟩
   have hij:i+(wc.length+wb.length+1)=i+1+wc.length+wb.length:=by omega
   rw [hij] at hj ⊢
   obtain ⟨a1,a2⟩:=at_cons ha
   obtain ⟨a3,a4⟩:=at_app a2
   have a5:Wt L (i+1+wc.length) 4 [123]:=by rw [hr] at a4;exact (at_cons a4).1
   obtain ⟨q,k1,k2⟩:=ex_stop hc kc a3 (n:=n) (by omega) (by rw [strong_at a5];rfl) (noT_mark a5 (by decide) (by decide) (by decide))
   obtain ⟨q2,k3,k4⟩:=hbb L _ n a4 (by omega)
   refine ⟨.mk kFor [] (fromT L i) (toT L (i+1+wc.length+wb.length)) [q,q2],strip_mk (strip2 k1 k3),?_⟩
   rw [stmt,not_text a1 (x:=kVar) (by decide),not_text a1 (x:=kIf) (by decide),not_text a1 (x:=[123]) (by decide),is_mark a1 (.inr rfl),if_neg (by decide),if_neg (by decide),if_neg (by decide),if_pos rfl,k2]
   simp only [Out.next]
   rw [k4];rfl
 | @if2 c b f e hc hb hk ih =>
  obtain ⟨wc,kc⟩:=ex_read hc
  obtain ⟨wb,kb⟩:=ih
  obtain ⟨⟨r,hr⟩,hbb⟩:=kb.bb hk
  refine ⟨(3,kIf) :: (wc++wb),if_of (fun ind en=>?_) ⟨⟨_,rfl⟩,fun L i n ha hn hj=>?_⟩⟩
  ·rw [pcs_mk,kdw_if]
   simp only [bodyP,kidAt0,kidAt1]
   rw [if_neg (by simp),List.append_nil]
   simp only [List.cons_append,List.nil_append,wds_app,wds_wd,wds_sp,kc.tell ind,kb.tell ind]
  ·simp only [List.length_cons,List.length_append] at hn hj ⊢
   obtain ⟨n,rfl⟩:∃ k,n=k+1:=⟨n - 1,by omega⟩
   have hij:i+(wc.length+wb.length+1)=i+1+wc.length+wb.length:=by omega
   rw [hij] at hj ⊢
   obtain ⟨a1,a2⟩:=at_cons ha
   obtain ⟨a3,a4⟩:=at_app a2
   have a5:Wt L (i+1+wc.length) 4 [123]:=by rw [hr] at a4;exact (at_cons a4).1
   have hp:=kc.first.pos
   obtain ⟨q,k1,k2⟩:=ex_stop hc kc a3 (n:=n) (by omega) (by rw [strong_at a5];rfl) (noT_mark a5 (by decide) (by decide) (by decide))
   obtain ⟨q2,k3,k4⟩:=hbb L _ n a4 (by omega)
   refine ⟨.mk kIf [] (fromT L i) (toT L (i+1+wc.length+wb.length)) [q,q2],strip_mk (strip2 k1 k3),?_⟩
   rw [branch,must_at a1 (.inr rfl)]
   simp only [Out.next]
   rw [k2]
   simp only []
   rw [k4]
   simp only []
   rw [not_low hj (.inr (.inr (.inr rfl))),if_neg (by decide)]
   rfl
 | @if3 c b o f e hc hb hk ho hk2 ih ih2 =>
  obtain ⟨wc,kc⟩:=ex_read hc
  obtain ⟨wb,kb⟩:=ih
  obtain ⟨wo,ko⟩:=ih2
  obtain ⟨⟨r,hr⟩,hbb⟩:=kb.bb hk
  refine ⟨(3,kIf) :: (wc++(wb++(3,kElse) :: wo)),if_of (fun ind en=>?_) ⟨⟨_,rfl⟩,fun L i n ha hn hj=>?_⟩⟩
  ·rw [pcs_mk,kdw_if]
   simp only [bodyP,kidAt0,kidAt1,kidAt2]
   rw [if_pos (by simp)]
   simp only [List.cons_append,List.nil_append,wds_app,wds_wd,wds_sp,kc.tell ind,kb.tell ind,ko.tell ind]
  ·simp only [List.length_cons,List.length_append] at hn hj ⊢
   obtain ⟨n,rfl⟩:∃ k,n=k+1:=⟨n - 1,by omega⟩
   have hij:i+(wc.length+(wb.length+(wo.length+1))+1)=i+1+wc.length+wb.length+1+wo.length:=by omega
   rw [hij] at hj ⊢
   obtain ⟨a1,a2⟩:=at_cons ha
   obtain ⟨a3,a4⟩:=at_app a2
   obtain ⟨a6,a7⟩:=at_app a4
   obtain ⟨a8,a9⟩:=at_cons a7
   have a5:Wt L (i+1+wc.length) 4 [123]:=by rw [hr] at a6;exact (at_cons a6).1
   have hp:=kc.first.pos
   obtain ⟨q,k1,k2⟩:=ex_stop hc kc a3 (n:=n) (by omega) (by rw [strong_at a5];rfl) (noT_mark a5 (by decide) (by decide) (by decide))
   obtain ⟨q2,k3,k4⟩:=hbb L _ n a6 (by omega)
   have s3:∀ {x y:Pt},strip x=strip y→stripL [q,q2,x]=stripL [c,b,y]:=fun h=>by simp only [stripL,k1,k3,h]
   rw [branch,must_at a1 (.inr rfl)]
   simp only [Out.next]
   rw [k2]
   simp only []
   rw [k4]
   simp only []
   rw [is_mark a8 (.inr rfl),if_pos rfl]
   rcases hk2 with hk2|hk2
   ·obtain ⟨⟨r2,hr2⟩,hbb2⟩:=ko.bb hk2
    obtain ⟨q3,k5,k6⟩:=hbb2 L _ n a9 (by omega)
    refine ⟨.mk kIf [] (fromT L i) (toT L (i+1+wc.length+wb.length+1+wo.length)) [q,q2,q3],strip_mk (s3 k5),?_⟩
    have b1:Wt L (i+1+wc.length+wb.length+1) 4 [123]:=by rw [hr2] at a9;exact (at_cons a9).1
    rw [not_text b1 (by decide),if_neg (by decide),k6];rfl
   ·obtain ⟨⟨r2,hr2⟩,hbb2⟩:=ko.br hk2
    obtain ⟨q3,k5,k6⟩:=hbb2 L _ n a9 (by omega) hj
    refine ⟨.mk kIf [] (fromT L i) (toT L (i+1+wc.length+wb.length+1+wo.length)) [q,q2,q3],strip_mk (s3 k5),?_⟩
    have b1:Wt L (i+1+wc.length+wb.length+1) 3 kIf:=by rw [hr2] at a9;exact (at_cons a9).1
    rw [is_mark b1 (.inr rfl),if_pos rfl,k6];rfl
end Go.Proofs.YtmclaaonlhnbmaaGreatDoor.H
namespace Go.Proofs.YtmclaaonlhnbmaaGreatDoor.T
open Go.RowKit
open Go.Lib hiding intOf
open Go.Proofs.YtmclaaonlhnbmaaGreatDoor.U Go.Proofs.YtmclaaonlhnbmaaGreatDoor.S Go.Proofs.YtmclaaonlhnbmaaGreatDoor.L
structure Mv (B d:Nat) (w w':World):Prop where
 os:w'.os=w.os
 tape:w'.tape=w.tape
 output:w'.output=w.output
 size:w.heap.size≤w'.heap.size
 block:∀ k,k<B→k≠d→w'.heap[k]?=w.heap[k]?
theorem Mv.refl (B d:Nat) (w:World):Mv B d w w:=⟨rfl,rfl,rfl,Nat.le_refl _,fun _ _ _=>rfl⟩
theorem Mv.trans {B d:Nat} {a b c:World} (h:Mv B d a b) (k:Mv B d b c):Mv B d a c :=
 ⟨k.os.trans h.os,k.tape.trans h.tape,k.output.trans h.output,Nat.le_trans h.size k.size,fun i hi hd=>(k.block i hi hd).trans (h.block i hi hd)⟩
theorem Mv.mono {B B' d:Nat} {w w':World} (h:Mv B d w w') (hB:B'≤B):Mv B' d w w':=⟨h.os,h.tape,h.output,h.size,fun k hk=>h.block k (Nat.lt_of_lt_of_le hk hB)⟩
theorem Mv.of_below {B d:Nat} {w w':World} (h:Below B w w'):Mv B d w w':=⟨h.os,h.tape,h.output,h.size,fun k hk _=>h.block k hk⟩
theorem Mv.setCell {B d:Nat} {a w:World} (h:Mv B d a w) (i:Nat) (v:Value):Mv B d a (w.setCell ⟨d,i,none⟩ v):=by
 refine ⟨h.os,h.tape,h.output,by simpa using h.size,fun k hk hd=>?_⟩
 rw [Below.heap_setCell _ _ _ _ hd]
 exact h.block k hk hd
theorem Mv.alloc {B d:Nat} {a w:World} (h:Mv B d a w) (hB:B≤w.heap.size) (o:Obj):Mv B d a (w.alloc o) :=
 h.trans (Mv.of_below ((Below.refl B w).alloc hB o))
theorem Mv.below {B d:Nat} {w w':World} (h:Mv B d w w') (hd:B≤d):Below B w w':=⟨h.os,h.tape,h.output,h.size,fun k hk=>h.block k hk (by omega)⟩
def Rd (d:Nat) (lv:Value) (i:Nat) (b:Bool) (W:World):Prop:=W.heap[d]?=some (.cells #[lv,.int .i64 i,.bool b] 44 (0,0))
def Tk (d:Nat) (L:List TokP) (lv:Value) (W:World):Prop:=∃ la cap,lv=.slice la L.length cap∧(L=[]∨∃ g off,la=some ⟨g,off,none⟩∧g≠d∧g<W.heap.size∧ToksAt W g off L)
section
variable {d:Nat} {lv:Value} {i:Nat} {b:Bool} {w w':World} {L:List TokP}
theorem Rd.c0 (h:Rd d lv i b w):w.cell? ⟨d,0,none⟩=some lv:=by unfold Rd at h;simp [World.cell?,h]
theorem Rd.c1 (h:Rd d lv i b w):w.cell? ⟨d,1,none⟩=some (.int .i64 i):=by unfold Rd at h;simp [World.cell?,h]
theorem Rd.c2 (h:Rd d lv i b w):w.cell? ⟨d,2,none⟩=some (.bool b):=by unfold Rd at h;simp [World.cell?,h]
theorem Rd.f1 (h:Rd d lv i b w):w.frozen? ⟨d,1,none⟩=false:=by unfold Rd at h;simp [World.frozen?,h]
theorem Rd.f2 (h:Rd d lv i b w):w.frozen? ⟨d,2,none⟩=false:=by unfold Rd at h;simp [World.frozen?,h]
theorem Rd.lt (h:Rd d lv i b w):d<w.heap.size:=(Array.getElem?_eq_some_iff.1 h).1
theorem Rd.set2 (h:Rd d lv i b w) (x:Bool):Rd d lv i x (w.setCell ⟨d,2,none⟩ (.bool x)):=Go.Joins.block_setCell h _
theorem Rd.below (h:Rd d lv i b w) (hb:Below w.heap.size w w'):Rd d lv i b w':=(hb.block d h.lt).trans h
end
theorem tk_word {d:Nat} {lv:Value} {w:World} {L:List TokP} {i:Nat} (h:Tk d L lv w) (hi:i<L.length):∃ g off cap,lv=.slice (some ⟨g,off,none⟩) L.length cap∧g≠d ∧
  w.cell? ⟨g,off+i*4,none⟩=some (.int .i64 L[i].w)∧w.cell? ⟨g,off+i*4+1,none⟩=some (.string ⟨L[i].t.toArray⟩)∧w.cell? ⟨g,off+i*4+2,none⟩=some (.int .i64 L[i].f)∧w.cell? ⟨g,off+i*4+3,none⟩=some (.int .i64 L[i].e):=by
 obtain ⟨la,cap,rfl,h2⟩:=h
 obtain ⟨g,off,rfl,h4,h5,h6⟩:=h2.resolve_left (fun e=>by rw [e] at hi;exact Nat.not_lt_zero _ hi)
 obtain ⟨c0,c1,c2,c3⟩:=tok_at i h6 hi
 exact ⟨g,off,cap,rfl,h4,c0,c1,c2,c3⟩
def Idle (R:Value) (w:World) (e:Ending) (w':World):Prop:=e=.returned R∧∃ k,w'=w.drewN k
theorem isT_out {L:List TokP} (x:By) {i:Nat} (h:¬ i<L.length):isT L x i=false:=by
 unfold isT;rw [List.getElem?_eq_none (by omega)]
theorem isT_in {L:List TokP} (x:By) {i:Nat} (h:i<L.length):isT L x i=(L[i].t==x&&(L[i].w==4||L[i].w==3)):=by
 unfold isT;rw [List.getElem?_eq_getElem h]
theorem comesT_out {L:List TokP} (x:Int) {i:Nat} (h:¬ i<L.length):comesT L x i=false:=by
 unfold comesT;rw [List.getElem?_eq_none (by omega)]
set_option maxHeartbeats 8000000 in
set_option maxRecDepth 20000 in
theorem is_any (d:Nat) (L:List TokP) (lv:Value) (i:Nat) (b:Bool) (x:By) (w:World) (hR:Rd d lv i b w) (hT:Tk d L lv w) :
  Calls Tryz.prog 21 #[.pointer (some ⟨d,0,none⟩),.string (bstr x)] w (Idle (.bool (!b&&isT L x i)) w):=by
 have c0:=hR.c0
 have c1:=hR.c1
 have c2:=hR.c2
 obtain ⟨R,hR2⟩:∃ R,(!b&&isT L x i)=R:=⟨_,rfl⟩
 rw [hR2]
 cases b
 ·by_cases hi:i<L.length
  ·obtain ⟨g,off,cap,rfl,hgd,k0,k1,_,_⟩:=tk_word hT hi
   rw [isT_in x hi,Bool.not_false,Bool.true_and] at hR2
   generalize L[i]=t at k0 k1 hR2
   obtain ⟨tw,tt,tf,te⟩:=t
   dsimp only at k0 k1 hR2
   obtain ⟨y,hy⟩:∃ y:ByteArray,(⟨tt.toArray⟩:ByteArray)=y:=⟨_,rfl⟩
   obtain ⟨z,hz⟩:∃ y:ByteArray,bstr x=y:=⟨_,rfl⟩
   have hyl:tt=y.toList:=by rw [← hy,ByteArray.toList_eq]
   have hzl:x=z.toList:=by rw [← hz,ByteArray.toList_eq];rfl
   rw [hy] at k1
   rw [hz]
   rw [hyl,hzl] at hR2
   obtain ⟨n,hn⟩:∃ n,L.length=n:=⟨_,rfl⟩
   rw [hn] at hi c0
   clear hR hT hy hz hyl hzl hn
   obtain ⟨e1,he1⟩:∃ e,(y.toList==z.toList)=e:=⟨_,rfl⟩
   obtain ⟨e2,he2⟩:∃ e,(tw==4)=e:=⟨_,rfl⟩
   obtain ⟨e3,he3⟩:∃ e,(tw==3)=e:=⟨_,rfl⟩
   rw [he1,he2,he3] at hR2
   cases e1
   ·have HF:=Lib.hid (show R=false by rw [← hR2];rfl)
    clear hR2
    go_enter Tryz.func21,Tryz.ntmps21
    go_upto_region 1 with fail
    go_quiet (fail)
    go_wp2_with fail
    go_ret
    exact ⟨by rw [HF.out];rfl,_,rfl⟩
   ·cases e2
    ·cases e3
     ·have HF:=Lib.hid (show R=false by rw [← hR2];rfl)
      clear hR2
      go_enter Tryz.func21,Tryz.ntmps21
      go_upto_region 1 with fail
      go_quiet (fail)
      go_wp2_with fail
      go_ret
      exact ⟨by rw [HF.out];rfl,_,rfl⟩
     ·have HF:=Lib.hid (show R=true by rw [← hR2];rfl)
      clear hR2
      go_enter Tryz.func21,Tryz.ntmps21
      go_upto_region 1 with fail
      go_quiet (fail)
      go_wp2_with fail
      go_ret
      exact ⟨by rw [HF.out];rfl,_,rfl⟩
    ·have HF:=Lib.hid (show R=true by rw [← hR2];rfl)
     clear hR2
     go_enter Tryz.func21,Tryz.ntmps21
     go_upto_region 1 with fail
     go_quiet (fail)
     go_wp2_with fail
     go_ret
     exact ⟨by rw [HF.out];rfl,_,rfl⟩
  ·obtain ⟨la,cap,rfl,_⟩:=hT
   have HF:=Lib.hid (show R=false by rw [← hR2,isT_out x hi];rfl)
   obtain ⟨n,hn⟩:∃ n,L.length=n:=⟨_,rfl⟩
   rw [hn] at hi c0
   clear hR2 hR hn
   go_enter Tryz.func21,Tryz.ntmps21
   go_upto_region 1 with fail
   go_quiet (fail)
   go_wp2_with fail
   go_ret
   exact ⟨by rw [HF.out];rfl,_,rfl⟩
 ·have HF:=Lib.hid (show R=false by rw [← hR2];rfl)
  clear hR2 hR hT
  go_enter Tryz.func21,Tryz.ntmps21
  go_upto_region 1 with fail
  go_quiet (fail)
  go_wp2_with fail
  go_ret
  exact ⟨by rw [HF.out];rfl,_,rfl⟩
end Go.Proofs.YtmclaaonlhnbmaaGreatDoor.T
namespace Go.Proofs.YtmclaaonlhnbmaaGreatDoor.T
open Go.RowKit
open Go.Lib hiding intOf
open Go.Proofs.YtmclaaonlhnbmaaGreatDoor.U Go.Proofs.YtmclaaonlhnbmaaGreatDoor.S Go.Proofs.YtmclaaonlhnbmaaGreatDoor.L
def Out.at {α:Type}:Out α→Nat
 | .ok _ i=>i
 | .bad i=>i
def Out.isBad {α:Type}:Out α→Bool
 | .ok _ _=>false
 | .bad _=>true
def start {α:Type} (b:Bool) (i:Nat) (o:Out α):Out α:=if b then .bad i else o
end Go.Proofs.YtmclaaonlhnbmaaGreatDoor.T
namespace Go.Proofs.YtmclaaonlhnbmaaGreatDoor.T
open Go.Lib hiding intOf
open Go.Proofs.YtmclaaonlhnbmaaGreatDoor.U Go.Proofs.YtmclaaonlhnbmaaGreatDoor.S
structure Fw (L:List TokP) (i:Nat) {α:Type} (o:Out α):Prop where
 ge:i≤o.at
 le:o.at≤L.length
structure Fwd (L:List TokP) (i:Nat) {α:Type} (o:Out α):Prop extends Fw L i o where
 gt:o.isBad=false→i<o.at
section
variable {L:List TokP} {i j:Nat} {α β:Type}
theorem Fwd.bad (hi:i≤L.length):Fwd L i (.bad i:Out α):=⟨⟨Nat.le_refl _,hi⟩,fun h=>by cases h⟩
theorem Fw.ok (hij:i≤j) (hj:j≤L.length) (a:α):Fw L i (.ok a j):=⟨hij,hj⟩
theorem Fwd.ok (hij:i<j) (hj:j≤L.length) (a:α):Fwd L i (.ok a j):=⟨⟨Nat.le_of_lt hij,hj⟩,fun _=>hij⟩
theorem Fw.mono {o:Out α} (h:Fw L j o) (hij:i≤j):Fw L i o:=⟨Nat.le_trans hij h.ge,h.le⟩
theorem Fwd.mono {o:Out α} (h:Fwd L j o) (hij:i≤j):Fwd L i o:=⟨h.toFw.mono hij,fun hb=>Nat.lt_of_le_of_lt hij (h.gt hb)⟩
theorem Fw.strict {o:Out α} (h:Fw L j o) (hij:i<j):Fwd L i o:=⟨h.mono (Nat.le_of_lt hij),fun _=>Nat.lt_of_lt_of_le hij h.ge⟩
theorem Fwd.next {o:Out α} {f:α→Nat→Out β} (h:Fwd L i o) (hf:∀ a j,o=.ok a j→i<j→j≤L.length→Fw L j (f a j)):Fwd L i (o.next f):=by
 cases o with
 | ok a j=>exact (hf a j rfl (h.gt rfl) h.le).strict (h.gt rfl)
 | bad j=>exact ⟨⟨h.ge,h.le⟩,fun hb=>by cases hb⟩
theorem Fw.next {o:Out α} {f:α→Nat→Out β} (h:Fw L i o) (hf:∀ a j,o=.ok a j→i≤j→j≤L.length→Fw L j (f a j)):Fw L i (o.next f):=by
 cases o with
 | ok a j=>exact (hf a j rfl h.ge h.le).mono h.ge
 | bad j=>exact ⟨h.ge,h.le⟩
theorem isT_lt {x:By} (h:isT L x i=true):i<L.length:=by
 by_cases h1:i<L.length
 ·exact h1
 ·rw [isT_out x h1] at h;cases h
theorem comesT_lt {x:Int} (h:comesT L x i=true):i<L.length:=by
 by_cases h1:i<L.length
 ·exact h1
 ·rw [comesT_out x h1] at h;cases h
theorem mustT_fwd (x:By) (hi:i≤L.length):Fwd L i (mustT L x i):=by
 unfold mustT
 by_cases h:isT L x i=true
 ·rw [if_pos h];exact .ok (Nat.lt_succ_self _) (isT_lt h) _
 ·rw [if_neg h];exact .bad hi
theorem nameT_fwd (hi:i≤L.length):Fwd L i (nameT L i):=by
 unfold nameT
 by_cases h:comesT L 0 i=true
 ·rw [if_pos h];exact .ok (Nat.lt_succ_self _) (comesT_lt h) _
 ·rw [if_neg h];exact .bad hi
theorem part_fw (k t:By) (f:Int) (ks:List Pt) (hi:i≤L.length):Fw L i (part L k t f ks i):=.ok (Nat.le_refl _) hi _
theorem typed_succ (L:List TokP) (n i:Nat):typed L (n+1) i=if isT L [42] i then (typed L n (i+1)).next fun x j=>part L kStar [] (fromT L i) [x] j
  else if isT L [91] i then (mustT L [93] (i+1)).next fun _ j=>(typed L n j).next fun x k=>part L kSlice [] (fromT L i) [x] k
  else (nameT L i).next fun s j=>part L kName s (fromT L i) [] j:=rfl
theorem typed_fwd:∀ (n i:Nat),i≤L.length→Fwd L i (typed L n i)
 | 0,_,hi=>.bad hi
 | n+1,i,hi=>by
  rw [typed_succ]
  by_cases h:isT L [42] i=true
  ·rw [if_pos h]
   exact ((typed_fwd n (i+1) (isT_lt h)).next fun a j _ _ hj=>part_fw _ _ _ _ hj).mono (Nat.le_succ _)
  ·rw [if_neg h]
   by_cases h1:isT L [91] i=true
   ·rw [if_pos h1]
    exact ((mustT_fwd [93] (isT_lt h1)).next fun a j _ _ hj=>((typed_fwd n j hj).next fun a k _ _ hk=>part_fw _ _ _ _ hk).toFw).mono (Nat.le_succ _)
   ·rw [if_neg h1]
    exact (nameT_fwd hi).next fun a j _ _ hj=>part_fw _ _ _ _ hj
theorem variable_fwd (n:Nat) (hi:i≤L.length):Fwd L i (variable' L n i) :=
 (mustT_fwd _ hi).next fun _ _ _ _ hj=>((nameT_fwd hj).next fun _ k _ _ hk=>((typed_fwd n k hk).next fun _ _ _ _ hm=>part_fw _ _ _ _ hm).toFw).toFw
end
end Go.Proofs.YtmclaaonlhnbmaaGreatDoor.T
namespace Go.Proofs.YtmclaaonlhnbmaaGreatDoor.H
open Go.Lib Go.Proofs.YtmclaaonlhnbmaaGreatDoor.U Go.Proofs.YtmclaaonlhnbmaaGreatDoor.S Go.Proofs.YtmclaaonlhnbmaaGreatDoor.T Go.Proofs.YtmclaaonlhnbmaaGreatDoor.K
theorem strip_all (k:By) (l:List Pt):strip (allP k l)=.mk k [] 0 0 (stripL l):=by
 cases l with
 | nil=>rfl
 | cons p r=>obtain ⟨kk,t,f,e,ks⟩:=p;simp only [allP];rw [strip]
theorem pa_read {k:By} {q:Pt} (h:PaW k q):∃ t wx,(kd k=.param→∀ ind en,wds (pcs ind q) en=((0,t) :: wx,true))∧(k=kField→∀ en,wds (declared pcs q) en=((0,t) :: wx,true)) ∧
  ∀ (L:List TokP) (i m:Nat),At L i ((0,t) :: wx)→wx.length≤m→∃ q',strip q'=strip q∧param L m k i=.ok q' (i+wx.length+1):=by
 cases h with
 | @mk x t f e ht hx =>
  obtain ⟨wx,t1,t2,t3⟩:=ty_read hx
  refine ⟨t,wx,fun hk ind en=>?_,fun hk en=>?_,fun L i m ha hm=>?_⟩
  ·rw [pcs_mk,hk]
   simp only [bodyP,kidAt0,List.cons_append,List.nil_append,wds_wd,wds_sp,t1 ind]
  ·subst hk
   unfold declared
   rw [if_pos (show kindP (.mk kField t f e [x])=kField from rfl)]
   show wds (.wd 0 t :: .sp [32] :: pcs 1 x) en=_
   simp only [wds_wd,wds_sp,t1 1]
  ·obtain ⟨a1,a2⟩:=at_cons ha
   obtain ⟨q,h1,h2⟩:=t3 L (i+1) m a2 hm
   refine ⟨.mk k t (fromT L i) (toT L (i+1+wx.length)) [q],strip_mk (strip1 h1),?_⟩
   unfold param
   rw [name_at a1]
   simp only [Out.next]
   rw [h2,show i+wx.length+1=i+1+wx.length from by omega];rfl
def PR (ks:List Pt) (ws:List Wd):Prop:=(∀ en,wds (commas (ks.map (pcs 0))) en=(ws,true))∧(∃ t r,ws=(0,t) :: r) ∧
 ∀ (L:List TokP) (i m n:Nat) (acc:List Pt),At L i (ws++[(4,[41])])→ws.length≤m→ws.length≤n→∃ qs,stripL qs=stripL ks∧params L m n i acc=.ok (acc++qs) (i+ws.length+1)
theorem params_read:∀ (ks:List Pt),ks≠[]→(∀ q∈ks,PaW kParam q)→∃ ws,PR ks ws
 | [],h,_=>absurd rfl h
 | [a],_,hk=>by
  obtain ⟨t,wx,h1,_,h3⟩:=pa_read (hk a List.mem_cons_self)
  refine ⟨(0,t) :: wx,fun en=>?_,⟨t,wx,rfl⟩,fun L i m n acc ha hm hn=>?_⟩
  ·simp only [List.map_cons,List.map_nil,commas,List.flatten_nil,List.append_nil];exact h1 kdw_param 0 en
  ·simp only [List.length_cons] at hm hn ⊢
   obtain ⟨n,rfl⟩:∃ k,n=k+1:=⟨n - 1,by omega⟩
   obtain ⟨a1,a2⟩:=at_app ha
   obtain ⟨a3,_⟩:=at_cons a2
   rw [List.length_cons] at a3
   obtain ⟨q,k1,k2⟩:=h3 L i m a1 (by omega)
   refine ⟨[q],strip1 k1,?_⟩
   rw [params,k2]
   simp only [Out.next]
   rw [show i+wx.length+1=i+(wx.length+1) from by omega,is_mark a3 (.inl rfl),if_pos rfl]
 | a :: b :: r,_,hk=>by
  obtain ⟨t,wx,h1,_,h3⟩:=pa_read (hk a List.mem_cons_self)
  obtain ⟨wr,h4,h5,h6⟩:=params_read (b :: r) (by simp) (fun q hq=>hk q (List.mem_cons_of_mem _ hq))
  refine ⟨(0,t) :: (wx++(4,[44]) :: wr),fun en=>?_,⟨t,_,rfl⟩,fun L i m n acc ha hm hn=>?_⟩
  ·simp only [List.map_cons,commas_two,wds_app,h1 kdw_param 0,wds_wd,wds_sp]
   have:=h4 (endsP 4 [44])
   rw [List.map_cons] at this
   rw [this];rfl
  ·simp only [List.length_append,List.length_cons] at hm hn ⊢
   obtain ⟨n,rfl⟩:∃ k,n=k+1:=⟨n - 1,by omega⟩
   obtain ⟨a1,a2⟩:=at_app (show At L i (((0,t) :: wx)++((4,[44]) :: (wr++[(4,[41])]))) from by simpa using ha)
   obtain ⟨a3,a4⟩:=at_cons a2
   rw [List.length_cons] at a3 a4
   obtain ⟨q,k1,k2⟩:=h3 L i m a1 (by omega)
   obtain ⟨qs,k3,k4⟩:=h6 L (i+(wx.length+1)+1) m n (acc++[q]) a4 (by omega) (by omega)
   refine ⟨q :: qs,by rw [stripL,stripL,k1,k3],?_⟩
   rw [params,k2]
   simp only [Out.next]
   rw [show i+wx.length+1=i+(wx.length+1) from by omega,not_text a3 (by decide),if_neg (by decide),must_at a3 (.inl rfl)]
   simp only []
   rw [k4,List.append_assoc,show i+(wx.length+(wr.length+1)+1)+1=i+(wx.length+1)+1+wr.length+1 from by omega];rfl
theorem fields_read:∀ (ks:List Pt),(∀ q∈ks,PaW kField q)→∃ rw,∀ m,rw.length≤m→RR (fun _=>declared pcs) (fun L=>fields L m) ks rw
 | [],_=>⟨[],fun m _=>rr_nil fun L i n acc h hn=>by
   obtain ⟨n,rfl⟩:∃ k,n=k+1:=⟨n - 1,by omega⟩
   show fields L m (n+1) i acc=_
   rw [fields,if_pos h]⟩
 | a :: r,h=>by
  obtain ⟨t,wx,_,h2,h3⟩:=pa_read (h a List.mem_cons_self)
  obtain ⟨rw',hr⟩:=fields_read r fun q hq=>h q (List.mem_cons_of_mem _ hq)
  refine ⟨((0,t) :: wx)++(5,[]) :: rw',fun m hm=>?_⟩
  simp only [List.length_append,List.length_cons] at hm
  have hf:SF ((0,t) :: wx):=fun L i ha=>by
   obtain ⟨a1,_⟩:=at_cons ha
   exact ⟨not_low a1 (.inl rfl) _,by rw [comes_at a1];rfl⟩
  refine rr_cons (fun _ en=>h2 rfl en) hf (hr m (by omega)) fun L i n acc a1 hn a3 h5=>?_
  obtain ⟨n,rfl⟩:∃ k,n=k+1:=⟨n - 1,by omega⟩
  obtain ⟨q,k1,k2⟩:=h3 L i m a1 (by omega)
  rw [List.length_cons] at a3 h5 ⊢
  refine ⟨q,k1,fun l j k3=>?_⟩
  show fields L m (n+1) i acc=_
  rw [fields,(hf L i a1).1,k2]
  simp only [Bool.false_eq_true,if_false,Out.next]
  rw [show i+wx.length+1=i+(wx.length+1) from by omega,semi_one a3 h5,if_neg (by rintro ⟨h,_⟩;cases h)]
  exact k3
def DR (p:Pt) (ws:List Wd):Prop:=wds (pcs 0 p) false=(ws,true)∧∀ (L:List TokP) (n:Nat),At L 0 ws→8*ws.length+18≤n→Wt L ws.length 5 []→∃ q,strip q=strip p∧decl L n=.ok q ws.length
theorem brackets_read (ps:List Pt) (h:∀ q∈ps,PaW kParam q):∃ wp,(∀ r en,en=false→wds (commas (ps.map (pcs 0))++(.wd 4 [41] :: r)) en=(wp++(4,[41]) :: (wds r true).1,(wds r true).2)) ∧
  ∀ (L:List TokP) (i m:Nat),At L i (wp++[(4,[41])])→wp.length≤m→∃ qs,stripL qs=stripL ps∧(if isT L [41] i then Out.ok [] (i+1) else params L m m i [])=.ok qs (i+wp.length+1):=by
 cases ps with
 | nil =>
  refine ⟨[],fun r en he=>?_,fun L i m ha hm=>⟨[],rfl,?_⟩⟩
  ·rw [he];rfl
  ·obtain ⟨a1,_⟩:=at_cons ha
   rw [is_mark a1 (.inl rfl)];rfl
 | cons b l =>
  obtain ⟨wp,h1,⟨t,x,h2⟩,h3⟩:=params_read (b :: l) (by simp) h
  refine ⟨wp,fun r en _=>?_,fun L i m ha hm=>?_⟩
  ·rw [wds_app,h1];rfl
  ·obtain ⟨qs,k1,k2⟩:=h3 L i m m [] ha hm hm
   refine ⟨qs,k1,?_⟩
   obtain ⟨a1,_⟩:=at_app ha
   rw [h2] at a1
   rw [not_low (at_cons a1).1 (.inl rfl),if_neg (by decide),k2];rfl
theorem result_read (rs:List Pt) (h:rs=[]∨∃ x,rs=[x]∧TyW x) {b:Pt} {wb:List Wd} (hb:Tell b wb):∃ wr,(∀ en,wds ((if rs=[] then [] else pcs 0 (kidAt rs 0)++[.sp [32]])++pcs 0 b) en=(wr++wb,true)) ∧
  ∀ (L:List TokP) (i m:Nat),At L i wr→wr.length≤m→Wt L (i+wr.length) 4 [123]→∃ qs,stripL qs=stripL rs∧(if isT L [123] i then Out.ok [] i else (typed L m i).next fun x q=>.ok [x] q)=.ok qs (i+wr.length):=by
 rcases h with rfl|⟨x,rfl,hx⟩
 ·refine ⟨[],fun en=>?_,fun L i m ha hm hj=>⟨[],rfl,?_⟩⟩
  ·rw [if_pos rfl,List.nil_append,hb 0];rfl
  ·simp only [List.length_nil,Nat.add_zero] at hj ⊢
   rw [is_mark hj (.inl rfl)];rfl
 ·obtain ⟨wx,t1,t2,t3⟩:=ty_read hx
  refine ⟨wx,fun en=>?_,fun L i m ha hm hj=>?_⟩
  ·rw [if_neg (by simp),kidAt0,List.append_assoc,wds_app,t1 0]
   simp only [List.cons_append,List.nil_append,wds_sp,hb 0]
  ·obtain ⟨q,k1,k2⟩:=t3 L i m ha hm
   refine ⟨[q],strip1 k1,?_⟩
   obtain ⟨w,t,r,hr,hw⟩:=t2
   rw [hr] at ha
   obtain ⟨a1,_⟩:=at_cons ha
   have h0:isT L [123] i=false:=by
    rcases hw with rfl|⟨rfl,rfl|rfl⟩
    ·exact not_low a1 (.inl rfl) _
    ·exact not_text a1 (by decide)
    ·exact not_text a1 (by decide)
   rw [h0,if_neg (by decide),k2];rfl
theorem decl_read {p:Pt} (h:DcW p):∃ ws,DR p ws:=by
 cases h with
 | @func ps rs b t f e ht hp hr hb hk =>
  obtain ⟨wb,kb⟩:=st_read hb
  obtain ⟨⟨rb,hrb⟩,hbb⟩:=kb.bb hk
  obtain ⟨wp,p1,p2⟩:=brackets_read ps hp
  obtain ⟨wr,r1,r2⟩:=result_read rs hr kb.tell
  refine ⟨(3,kFunc) :: (0,t) :: (4,[40]) :: (wp++(4,[41]) :: (wr++wb)),?_,fun L n ha hn hj=>?_⟩
  ·rw [pcs_mk,kdw_func]
   simp only [bodyP,kidAt0,kidAt1,kidAt2,ks_all,List.cons_append,List.nil_append,wds_wd,wds_sp]
   rw [show endsP 4 [40]=false from rfl,p1 _ _ rfl,wds_sp,r1]
  ·simp only [List.length_cons,List.length_append] at hn ⊢
   obtain ⟨a1,a2⟩:=at_cons ha
   obtain ⟨a3,a4⟩:=at_cons a2
   obtain ⟨a5,a6⟩:=at_cons a4
   obtain ⟨a7,a8⟩:=at_app (show At L (0+1+1+1) ((wp++[(4,[41])])++(wr++wb)) from by simpa using a6)
   obtain ⟨a9,b1⟩:=at_app a8
   rw [List.length_append,List.length_cons,List.length_nil] at a9 b1
   have b2:Wt L (0+1+1+1+wp.length+1+wr.length) 4 [123]:=by rw [hrb] at b1;have:=(at_cons b1).1;rwa [show 0+1+1+1+(wp.length+(0+1))+wr.length=0+1+1+1+wp.length+1+wr.length from by omega] at this
   obtain ⟨qs,k1,k2⟩:=p2 L (0+1+1+1) n a7 (by omega)
   obtain ⟨rq,k3,k4⟩:=r2 L (0+1+1+1+wp.length+1) n (by rwa [show 0+1+1+1+(wp.length+(0+1))=0+1+1+1+wp.length+1 from by omega] at a9) (by omega) b2
   obtain ⟨q,k5,k6⟩:=hbb L (0+1+1+1+wp.length+1+wr.length) n (by rwa [show 0+1+1+1+(wp.length+(0+1))+wr.length=0+1+1+1+wp.length+1+wr.length from by omega] at b1) (by omega)
   refine ⟨.mk kFunc t (fromT L 0) (toT L (0+1+1+1+wp.length+1+wr.length+wb.length)) [allP kParams qs,allP kResult rq,q],strip_mk (by simp only [stripL,strip_all,k1,k3,k5]),?_⟩
   unfold decl
   rw [is_mark a1 (.inr rfl),if_pos rfl]
   unfold func'
   rw [must_at a1 (.inr rfl)]
   simp only [Out.next]
   rw [name_at a3]
   simp only []
   rw [must_at a5 (.inl rfl)]
   simp only []
   rw [k2]
   simp only []
   have k4':=k4
   simp only [Out.next] at k4'
   rw [k4']
   simp only []
   rw [k6,show wp.length+(wr.length+wb.length+1)+1+1+1=0+1+1+1+wp.length+1+wr.length+wb.length from by omega]
   rfl
 | @var x t f e ht hx =>
  obtain ⟨ws,t1,t2,⟨r,t3⟩,t4⟩:=var_read (f:=f) (e:=e) ht hx
  refine ⟨ws,t1 0 false,fun L n ha hn hj=>?_⟩
  obtain ⟨q,k1,k2⟩:=t4 L 0 n ha (by omega)
  refine ⟨q,k1,?_⟩
  rw [t3] at ha
  obtain ⟨a1,_⟩:=at_cons ha
  unfold decl
  rw [not_text a1 (by decide),is_mark a1 (.inr rfl),if_neg (by decide),if_pos rfl,k2,Nat.zero_add]
 | @typ ks t f e ht hp =>
  obtain ⟨rw',hrr⟩:=fields_read ks hp
  refine ⟨(3,kType) :: (0,t) :: (3,kStruct) :: (4,[123]) :: (rw'++[(4,[125])]),?_,fun L n ha hn hj=>?_⟩
  ·obtain ⟨_,h2,_,_⟩:=hrr rw'.length (Nat.le_refl _)
   rw [pcs_mk,kdw_typ]
   simp only [bodyP,List.cons_append,List.nil_append,wds_wd,wds_sp]
   have:=h2 0 (endsP 3 kStruct)
   rw [this]
  ·simp only [List.length_cons,List.length_append,List.length_nil] at hn ⊢
   obtain ⟨_,_,h3,h4⟩:=hrr n (by omega)
   obtain ⟨a1,a2⟩:=at_cons ha
   obtain ⟨a3,a4⟩:=at_cons a2
   obtain ⟨a5,a6⟩:=at_cons a4
   obtain ⟨a7,a8⟩:=at_cons a6
   obtain ⟨_,b1⟩:=at_app a8
   obtain ⟨b2,_⟩:=at_cons b1
   obtain ⟨qs,k1,k2⟩:=h4 L (0+1+1+1+1) n [] a8 (by omega)
   have k2:fields L n n (0+1+1+1+1) []=.ok ([]++qs) (0+1+1+1+1+rw'.length):=k2
   refine ⟨.mk kType t (fromT L 0) (toT L (0+1+1+1+1+rw'.length+1)) qs,strip_mk k1,?_⟩
   unfold decl
   rw [not_text a1 (x:=kFunc) (by decide),not_text a1 (x:=kVar) (by decide),is_mark a1 (.inr rfl),if_neg (by decide),if_neg (by decide),if_pos rfl]
   unfold record
   rw [must_at a1 (.inr rfl)]
   simp only [Out.next]
   rw [name_at a3]
   simp only []
   rw [must_at a5 (.inr rfl)]
   simp only []
   rw [must_at a7 (.inl rfl)]
   simp only []
   rw [semi_zero (h3 L _ a8),Nat.add_zero,k2]
   simp only []
   rw [must_at b2 (.inl rfl),show rw'.length+(0+1)+1+1+1+1=0+1+1+1+1+rw'.length+1 from by omega]
   rfl
theorem wds_cnt:∀ (ps:List Pc) (en:Bool),(wds ps en).1.length≤cnt ps
 | [],_=>Nat.le_refl _
 | .wd w t :: r,en=>by rw [wds_wd,cnt_wd,List.length_cons];exact Nat.succ_le_succ (wds_cnt r _)
 | .sp l :: r,en=>by
  rw [wds,cnt]
  split
  ·rename_i h
   rw [one10,if_pos h.2,List.length_cons];exact Nat.succ_le_succ (wds_cnt r _)
  ·exact Nat.le_trans (wds_cnt r _) (Nat.le_add_right _ _)
theorem block_le {L:List TokP}:∀ {n i:Nat} {p:Pt} {j:Nat},block L n i=.ok p j→j≤L.length
 | 0,_,_,_,h=>by simp only [block] at h;cases h
 | n+1,i,p,j,h=>by
  rw [block] at h
  obtain ⟨u,k,h2,h3⟩:=next_ok.1 h
  obtain ⟨l,m,h4,h5⟩:=next_ok.1 h3
  obtain ⟨u2,o,h6,h7⟩:=next_ok.1 h5
  obtain ⟨rfl,h8⟩:=must_ok h6
  obtain ⟨_,rfl⟩:=part_eq h7
  exact T.isT_lt h8
theorem decl_le {L:List TokP} {n j:Nat} {p:Pt} (h:decl L n=.ok p j):j≤L.length:=by
 unfold decl at h
 split at h
 ·unfold func' at h
  obtain ⟨u,k,h2,h3⟩:=next_ok.1 h
  obtain ⟨s,m,h4,h5⟩:=next_ok.1 h3
  obtain ⟨u2,o,h6,h7⟩:=next_ok.1 h5
  obtain ⟨ps,q,h8,h9⟩:=next_ok.1 h7
  obtain ⟨rs,v,h10,h11⟩:=next_ok.1 h9
  obtain ⟨b,w,h12,h13⟩:=next_ok.1 h11
  obtain ⟨_,rfl⟩:=part_eq h13
  exact block_le h12
 ·split at h
  ·have:=(variable_fwd (L:=L) n (Nat.zero_le _)).le
   rw [h] at this;exact this
  ·split at h
   ·unfold record at h
    obtain ⟨u,k,h2,h3⟩:=next_ok.1 h
    obtain ⟨s,m,h4,h5⟩:=next_ok.1 h3
    obtain ⟨u2,o,h6,h7⟩:=next_ok.1 h5
    obtain ⟨u3,q,h8,h9⟩:=next_ok.1 h7
    obtain ⟨l,v,h10,h11⟩:=next_ok.1 h9
    obtain ⟨u4,w,h12,h13⟩:=next_ok.1 h11
    obtain ⟨rfl,h14⟩:=must_ok h12
    obtain ⟨_,rfl⟩:=part_eq h13
    exact T.isT_lt h14
   ·cases h
theorem shown_fate {r r2:Bool} {s:By} {p:Pt} (h:fate (scanB r s)=.part p) :
  (∃ q,strip q=strip p∧fate (scanB r2 (showP 0 p))=.part q)∧(scanB r2 (showP 0 p)).length≤4*(scanB r s).length:=by
 have hd:∃ j,decl (scanB r s) (8*(scanB r s).length+10)=.ok p j∧j≤(scanB r s).length:=by
  unfold fate at h
  split at h
  ·rename_i q j h1
   split at h
   ·cases h
   ·cases h
    exact ⟨j,h1,decl_le h1⟩
  ·cases h
 obtain ⟨j,hj,hjl⟩:=hd
 obtain ⟨hw,hc⟩:=decl_wf (wl_scan r s) hj
 obtain ⟨ws,h1,h2⟩:=decl_read hw
 have hs:(scanB r2 (showP 0 p)).map wt=ws++[(5,[])]:=by
  unfold scanB showP
  rw [scan_pcs r2 (pcs 0 p) _ 0 false (gd_good _ (dc_gd hw)) (Nat.lt_succ_self _),h1]
  rfl
 have hl:(scanB r2 (showP 0 p)).length=ws.length+1:=by
  have:=congrArg List.length hs
  simpa using this
 generalize hL:scanB r2 (showP 0 p)=L at hs hl ⊢
 have ha:At L 0 (ws++[(5,[])]):=⟨[],by rw [List.drop_zero,hs,List.append_nil]⟩
 obtain ⟨a1,a2⟩:=at_app ha
 rw [Nat.zero_add] at a2
 obtain ⟨a3,_⟩:=at_cons a2
 obtain ⟨q,k1,k2⟩:=h2 L (8*L.length+10) a1 (by omega) a3
 have hn:comesT L 5 (ws.length+1)=false:=by
  unfold comesT;rw [List.getElem?_eq_none (by omega)]
 refine ⟨⟨q,k1,?_⟩,?_⟩
 ·unfold fate
  rw [k2]
  simp only [semi_one a3 hn]
  rw [if_neg (by omega)]
 ·have hcw:ws.length≤cnt (pcs 0 p):=by have:=wds_cnt (pcs 0 p) false;rwa [h1] at this
  omega
end Go.Proofs.YtmclaaonlhnbmaaGreatDoor.H
namespace Go.Proofs.YtmclaaonlhnbmaaGreatDoor.J
open Go.RowKit
open Go.Lib hiding intOf
open Go.Proofs.YtmclaaonlhnbmaaGreatDoor.U Go.Proofs.YtmclaaonlhnbmaaGreatDoor.S Go.Proofs.YtmclaaonlhnbmaaGreatDoor.T
theorem bstr_list (a:By):(bstr a).toList=a:=by rw [ByteArray.toList_eq];simp [bstr]
end Go.Proofs.YtmclaaonlhnbmaaGreatDoor.J
namespace Go.Proofs.YtmclaaonlhnbmaaGreatDoor.H
open Go.RowKit
open Go.Lib hiding intOf
open Go.Proofs.YtmclaaonlhnbmaaGreatDoor.U Go.Proofs.YtmclaaonlhnbmaaGreatDoor.S Go.Proofs.YtmclaaonlhnbmaaGreatDoor.T Go.Proofs.YtmclaaonlhnbmaaGreatDoor.K
open Go.Proofs.YtmclaaonlhnbmaaGreatDoor.J (arg wtP wtL)
mutual
theorem wtS_strip:∀ p,wtP (strip p)=wtP p
 | .mk k t f e ks=>by rw [strip,wtP,wtP,wtS_stripL ks]
theorem wtS_stripL:∀ l,wtL (stripL l)=wtL l
 | []=>rfl
 | p :: r=>by rw [stripL,wtL,wtL,wtS_strip p,wtS_stripL r]
end
structure Told (p:Pt) (t:ByteArray):Prop where
 eq:bstr (showP 0 p)=t
 len:(showP 0 p).length≤1000000000000
 deep:T.deep p≤40
 size:t.size≤1000000000000
 words:(scanB (okB t) t.toList).length≤1660
 wf:∀ q,fate (scanB (okB t) t.toList)=.part q→wtP q≤100000000
 back:∀ q a e,declP (scanB (okB t) t.toList) t.size=(q,a,e)→e=0∧strip q=strip p
theorem told_back {s:ByteArray} {p:Pt} {at':Int} (hs:s.size≤400) (h:declP (scanB (okB s) s.toList) s.size=(p,at',0)) (hw:wtP p≤100000000):∃ t,Told p t:=by
 have hf:fate (scanB (okB s) s.toList)=.part p∧T.deep p≤40:=by
  unfold declP at h
  split at h
  ·cases h
  ·rename_i p0 h0
   split at h
   ·cases h
   ·rename_i hd
    cases h
    exact ⟨h0,by omega⟩
 obtain ⟨hf,hd⟩:=hf
 have hz:(bstr (showP 0 p)).size=(showP 0 p).length:=by show (showP 0 p).toArray.size=_;simp
 have ht:(bstr (showP 0 p)).toList=showP 0 p:=J.bstr_list _
 have hlen:(showP 0 p).length≤1000000000000:=by
  have h:=short_any (K:=40) (C:=144) (Nat.le_refl _) _ p (Nat.le_refl _) 0 (by omega)
  unfold ln at h
  unfold showP
  omega
 refine ⟨_,rfl,?_,hd,?_,?_,?_,?_⟩
 ·exact hlen
 ·rw [hz];exact hlen
 ·rw [ht]
  have h1:=(shown_fate (r2:=okB (bstr (showP 0 p))) hf).2
  have h2:=scan_len' (okB s) s.toList
  have h3:=tl_len s
  omega
 ·intro q hq
  rw [ht] at hq
  obtain ⟨⟨q',k1,k2⟩,_⟩:=shown_fate (r2:=okB (bstr (showP 0 p))) hf
  rw [k2] at hq;cases hq
  rw [← wtS_strip,k1,wtS_strip];exact hw
 ·intro q a e hq
  rw [ht] at hq
  obtain ⟨⟨q',k1,k2⟩,_⟩:=shown_fate (r2:=okB (bstr (showP 0 p))) hf
  unfold declP at hq
  rw [k2] at hq
  simp only at hq
  have hdd:T.deep q'=T.deep p:=alike_deep ((alike_iff _ _).2 k1)
  rw [if_neg (by omega)] at hq
  cases hq
  exact ⟨rfl,k1⟩
end Go.Proofs.YtmclaaonlhnbmaaGreatDoor.H
namespace Go.Proofs.YtmclaaonlhnbmaaGreatDoor.H
open Go.RowKit
open Go.Lib hiding intOf
open Go.Proofs.YtmclaaonlhnbmaaGreatDoor.U Go.Proofs.YtmclaaonlhnbmaaGreatDoor.S Go.Proofs.YtmclaaonlhnbmaaGreatDoor.T Go.Proofs.YtmclaaonlhnbmaaGreatDoor.K
open Go.Proofs.YtmclaaonlhnbmaaGreatDoor.J (arg wtP wtL kids_row kid_at KidAt new_block kids_below)
set_option maxHeartbeats 8000000 in
set_option maxRecDepth 20000 in
theorem back_law (s:ByteArray) (w:World) (hT:Tabs w) (hG:MTab w):Calls Tryz.prog 4 #[.string s] w fun e w'=>e=.returned (.bool true)∧Below w.heap.size w w':=by
 have HA:=Lib.hid (fun X (hX:Below w.heap.size w X)=>alive_any X (hT.later hX) (hG.later hX))
 obtain ⟨sz,hsz⟩:∃ z,s.size=z:=⟨_,rfl⟩
 by_cases hl:400<sz
 ·clear hT hG
  go_enter Tryz.func4,Tryz.ntmps4
  go_wp2_with fail
  refine (HA.out w (Below.refl _ _)).mono ?_
  rintro e w1 ⟨rfl,hb1⟩
  have HB:=Lib.hid hb1
  clear hb1
  go_wp2_with fail
  go_ret
  exact ⟨rfl,HB.out⟩
 have HT:=Lib.hid hT
 have HG:=Lib.hid hG
 have c1:=decl_any s w (by omega) hT hG
 have HSZ:=Lib.hid (show s.size≤400 by omega)
 clear hT hG
 go_enter Tryz.func4,Tryz.ntmps4
 go_wp2_with fail
 refine c1.mono ?_
 rintro e' w1 ⟨p,at1,er,lv1,hd1,rfl,hp1,hb1,hw1⟩
 have HD1:=Lib.hid hd1
 have HB1:=Lib.hid hb1
 have HP1:=Lib.hid hp1
 have HW1:=Lib.hid hw1
 obtain ⟨kp,tp,f,e,ks⟩:=p
 obtain ⟨a,c,rfl⟩:=J.kids_form hp1
 rw [show arg (.mk kp tp f e ks) (.slice a ks.length c)=.agg #[.string (bstr kp),.string (bstr tp),.int .i64 f,.int .i64 e,.slice a ks.length c] from rfl]
 obtain ⟨kb,hkb⟩:∃ x,bstr kp=x:=⟨_,rfl⟩
 obtain ⟨tb,htb⟩:∃ x,bstr tp=x:=⟨_,rfl⟩
 obtain ⟨n,hn⟩:∃ n,ks.length=n:=⟨_,rfl⟩
 have HCP:=Lib.hid (show Value.agg #[.string kb,.string tb,.int .i64 f,.int .i64 e,.slice a n c]=arg (.mk kp tp f e ks) (.slice a ks.length c) by rw [← hkb,← htb,← hn];rfl)
 rw [hkb,htb,hn]
 clear c1 hd1 hb1 hp1 hw1 hkb htb hn hsz hl
 go_upto_region 4 with fail
 obtain ⟨w2,hw2,hq2,hb2,hz2⟩:=new_block w1 (.cells #[.string kb,.string tb,.int .i64 f,.int .i64 e,.slice a n c] 25)
 rw [hw2]
 obtain ⟨bp,hbp⟩:∃ z,w1.heap.size=z:=⟨_,rfl⟩
 have HB2:=Lib.hid (HB1.out.trans (hb2.mono HB1.out.size))
 have HK2:=Lib.hid (kids_below HP1.out hb2)
 rw [hbp] at hq2 hz2 ⊢
 have HQ2:=Lib.hid (fun X (hX:Below w2.heap.size w2 X)=>(hX.block _ hz2).trans hq2)
 have HZ2:=Lib.hid hz2
 clear hw2 hq2 hb2 hz2 hbp HB1 HP1
 by_cases he:er=0
 case neg =>
  go_wp2_with fail
  refine (HA.out w2 HB2.out).mono ?_
  rintro e' w3 ⟨rfl,hb3⟩
  have HB:=Lib.hid (HB2.out.trans (hb3.mono HB2.out.size))
  clear hb3
  go_wp2_with fail
  go_ret
  exact ⟨rfl,HB.out⟩
 subst he
 obtain ⟨t,htold⟩:=told_back HSZ.out HD1.out HW1.out
 have HTD:=Lib.hid htold
 have hdp:=htold.deep
 have hln:=htold.len
 have hwp:=HW1.out
 have cS:=show_any (.mk kp tp f e ks) _ #[.string kb,.string tb,.int .i64 f,.int .i64 e,.slice a n c] (fun _=>True) w2 HCP.out HK2.out (by omega) (by omega) (by omega)
 rw [htold.eq] at cS
 obtain ⟨⟨p0,p1,p2,p3,p4⟩,pf⟩:=J.cells_five (HQ2.out w2 (Below.refl _ _))
 have HDP:=Lib.hid hdp
 clear htold hdp hln hwp HD1
 go_wp2_with fail
 refine cS.mono ?_
 rintro e' w3 ⟨rfl,hb3⟩
 have HB23:=Lib.hid hb3
 have HB3:=Lib.hid (HB2.out.trans (hb3.mono HB2.out.size))
 have cD:=decl_big t w3 HTD.out.size HTD.out.words HTD.out.wf (HT.out.later HB3.out) (HG.out.later HB3.out)
 clear cS hb3 p0 p1 p2 p3 p4 pf
 go_wp2_with fail
 refine cD.mono ?_
 rintro e' w4 ⟨q,at2,er2,lv2,hd2,rfl,hp2,hb4,hw4⟩
 obtain ⟨rfl,hst⟩:=HTD.out.back _ _ _ hd2
 have HB24:=Lib.hid (HB23.out.trans (hb4.mono HB23.out.size))
 have HB4:=Lib.hid (HB3.out.trans (hb4.mono HB3.out.size))
 have HW4:=Lib.hid hw4
 have HST:=Lib.hid hst
 have HP4:=Lib.hid hp2
 obtain ⟨kq,tq,f2,e2,ks2⟩:=q
 obtain ⟨a2,c2,rfl⟩:=J.kids_form hp2
 rw [show arg (.mk kq tq f2 e2 ks2) (.slice a2 ks2.length c2)=.agg #[.string (bstr kq),.string (bstr tq),.int .i64 f2,.int .i64 e2,.slice a2 ks2.length c2] from rfl]
 obtain ⟨kb2,hkb2⟩:∃ x,bstr kq=x:=⟨_,rfl⟩
 obtain ⟨tb2,htb2⟩:∃ x,bstr tq=x:=⟨_,rfl⟩
 obtain ⟨n2,hn2⟩:∃ n,ks2.length=n:=⟨_,rfl⟩
 have HCQ:=Lib.hid (show Value.agg #[.string kb2,.string tb2,.int .i64 f2,.int .i64 e2,.slice a2 n2 c2]=arg (.mk kq tq f2 e2 ks2) (.slice a2 ks2.length c2) by rw [← hkb2,← htb2,← hn2];rfl)
 rw [hkb2,htb2,hn2]
 clear cD hd2 hst hp2 hb4 hw4 hkb2 htb2 hn2
 go_upto_region 8 with fail
 obtain ⟨w5,hw5,hq5,hb5,hz5⟩:=new_block w4 (.cells #[.string kb2,.string tb2,.int .i64 f2,.int .i64 e2,.slice a2 n2 c2] 25)
 rw [hw5]
 have HB5:=Lib.hid (HB4.out.trans (hb5.mono HB4.out.size))
 have HB25:=Lib.hid (HB24.out.trans (hb5.mono HB24.out.size))
 have HKP:=Lib.hid (fun X (hX:Below w5.heap.size w5 X)=>kids_below HK2.out (HB25.out.trans (hX.mono HB25.out.size)))
 have HKQ:=Lib.hid (fun X (hX:Below w5.heap.size w5 X)=>kids_below HP4.out (hb5.trans (hX.mono hb5.size)))
 have HX:=Lib.hid (fun X (hX:Below w5.heap.size w5 X)=>And.intro (HQ2.out X (HB25.out.trans (hX.mono HB25.out.size))) ((hX.block _ hz5).trans hq5))
 have HW:=Lib.hid (fun X (hX:Below w5.heap.size w5 X)=>HB5.out.trans (hX.mono HB5.out.size))
 obtain ⟨bq,hbq⟩:∃ z,w4.heap.size=z:=⟨_,rfl⟩
 rw [hbq] at HX ⊢
 clear hw5 hq5 hb5 hz5 hbq
 obtain ⟨P,hP⟩:∃ x,Pt.mk kp tp f e ks=x:=⟨_,rfl⟩
 obtain ⟨Q,hQ⟩:∃ x,Pt.mk kq tq f2 e2 ks2=x:=⟨_,rfl⟩
 obtain ⟨lp,hlp⟩:∃ x,Value.slice a ks.length c=x:=⟨_,rfl⟩
 obtain ⟨lq,hlq⟩:∃ x,Value.slice a2 ks2.length c2=x:=⟨_,rfl⟩
 rw [hP] at HCP HKP HW1 HST HTD HDP
 rw [hQ] at HCQ HKQ HW4 HST
 rw [hlp] at HCP HKP
 rw [hlq] at HCQ HKQ
 have hqp:alikeP Q P=true:=(alike_iff _ _).2 HST.out
 have hpq:alikeP P Q=true:=by rw [alike_comm];exact hqp
 have hdp:=HDP.out
 have hdq:=alike_deep hpq
 have hwp:=HW1.out
 have hwq:=HW4.out
 have hsp:=shape_wt P
 have hsq:=shape_wt Q
 have hln:=HTD.out.len
 have hsh:=alike_show hqp 0
 have hshp:=alike_shape hqp
 have cA:=fun X (hX:Below w5.heap.size w5 X)=>alike_part P Q lp lq #[.string kb,.string tb,.int .i64 f,.int .i64 e,.slice a n c] #[.string kb2,.string tb2,.int .i64 f2,.int .i64 e2,.slice a2 n2 c2] _ _ X HCP.out HCQ.out (HKP.out X hX) (HKQ.out X hX) (by omega) (by omega)
 have cB:=fun X (hX:Below w5.heap.size w5 X)=>alike_part Q P lq lp #[.string kb2,.string tb2,.int .i64 f2,.int .i64 e2,.slice a2 n2 c2] #[.string kb,.string tb,.int .i64 f,.int .i64 e,.slice a n c] _ _ X HCQ.out HCP.out (HKQ.out X hX) (HKP.out X hX) (by omega) (by omega)
 have cQ:=fun X (hX:Below w5.heap.size w5 X)=>show_any Q lq #[.string kb2,.string tb2,.int .i64 f2,.int .i64 e2,.slice a2 n2 c2] _ X HCQ.out (HKQ.out X hX) (by omega) (by omega) (by rw [hsh];omega)
 have cH:=fun X (hX:Below w5.heap.size w5 X)=>shape_any P lp #[.string kb,.string tb,.int .i64 f,.int .i64 e,.slice a n c] _ X HCP.out (HKP.out X hX) (by omega) (by omega)
 have cJ:=fun X (hX:Below w5.heap.size w5 X)=>shape_any Q lq #[.string kb2,.string tb2,.int .i64 f2,.int .i64 e2,.slice a2 n2 c2] _ X HCQ.out (HKQ.out X hX) (by omega) (by omega)
 rw [hpq] at cA
 rw [hqp] at cB
 rw [hsh,HTD.out.eq] at cQ
 rw [hshp] at cJ
 obtain ⟨y,hy⟩:∃ x,bstr (shapeP P)=x:=⟨_,rfl⟩
 rw [hy] at cH cJ
 have HCA:=Lib.hid cA
 have HCB:=Lib.hid cB
 have HCS:=Lib.hid cQ
 have HCH:=Lib.hid cH
 have HCJ:=Lib.hid cJ
 have HAL:=Lib.hid (fun X (hX:Below w5.heap.size w5 X)=>HA.out X (HW.out X hX))
 clear cA cB cQ cH cJ hy hshp hsh hln hsq hsp hwq hwp hdq hdp hpq hqp hlp hlq hP hQ HCP HCQ HKP HKQ HW1 HW4 HST HTD HDP HB25 HB24 HB23 HB2 HB3 HB4 HP4 HK2 HQ2 HZ2 HA
 have HB:=Lib.hid (Below.refl w5.heap.size w5).drew
 refine wp_region_held_drew (S:=fun X:World=>X.heap[bp]?=some (.cells #[.string kb,.string tb,.int .i64 f,.int .i64 e,.slice a n c] 25 (0,0))∧X.heap[bq]?=some (.cells #[.string kb2,.string tb2,.int .i64 f2,.int .i64 e2,.slice a2 n2 c2] 25 (0,0))) (by kernel_rfl) (HX.out _ HB.out) (fun hHeld=>?_)
 have hxx:(t.toList==t.toList)=true:=by simp
 have hyy:(y.toList==y.toList)=true:=by simp
 refine wpAnyH_ready (rs:=[0]) (by kernel_rfl) (by simp) ?_
 refine (AllReadyH.cons (o:=({ dst:=some 31,op:=Op.call { callee:=Callee.value (Operand.func 11),args:=#[],argTypes:=#[] },type:=4,pos := "law.go:43",after:=#[],guard:=none }:Oper)) rfl (fun K hK=>?_) AllReadyH.nil)
 refine wanted_step (by kernel_rfl) ?_
 go_simp
 go_at_call 11
 refine (HAL.out _ HB.out).mono ?_
 rintro e9 w8 ⟨rfl,hb⟩
 dsimp only
 replace HB:=Lib.hid (HB.out.trans (hb.mono HB.out.size))
 clear hb
 refine hK.out _ _ (HX.out _ HB.out) (fun hHeld=>?_)
 (try simp only [Act.put,List.setIfInBounds_toArray,List.set_cons_zero,List.set_cons_succ])
 clear hK K
 refine wpAnyH_take (i:=1) (oi:=({ dst:=some 32,op:=Op.move (Operand.tmp 31),type:=4,pos := "law.go:43",after:=#[{ on:=0,ground:=Ground.data },{ on:=0,ground:=Ground.chain }],guard:=none }:Oper)) (v:=.bool true) rfl (by kernel_rfl) (by kernel_rfl) (by kernel_rfl) (fun _ _ _ h=>h) (Or.inl ⟨by rfl,fun X hX=>rfl⟩) hHeld ?_
 (try simp only [Act.put,List.setIfInBounds_toArray,List.set_cons_zero,List.set_cons_succ])
 refine wpAnyH_take (i:=2) (oi:=({ dst:=some 33,op:=Op.move (Operand.tmp 9),type:=26,pos := "law.go:43",after:=#[{ on:=1,ground:=Ground.guard }],guard:=some (1,true) }:Oper)) (v:=.int .i64 0) rfl (by kernel_rfl) (by kernel_rfl) (by kernel_rfl) (fun _ _ _ h=>h) (Or.inl ⟨by rfl,fun X hX=>rfl⟩) hHeld ?_
 (try simp only [Act.put,List.setIfInBounds_toArray,List.set_cons_zero,List.set_cons_succ])
 refine wpAnyH_take (i:=3) (oi:=({ dst:=some 34,op:=Op.binOp BinOp.eql 26 (Operand.tmp 33) (Operand.const (Value.int IntKind.i64 0)) 26,type:=4,pos := "law.go:43",after:=#[{ on:=2,ground:=Ground.data },{ on:=1,ground:=Ground.guard }],guard:=some (1,true) }:Oper)) (v:=.bool true) rfl (by kernel_rfl) (by kernel_rfl) (by kernel_rfl) (fun _ _ _ h=>h) (Or.inl ⟨by rfl,fun X hX=>rfl⟩) hHeld ?_
 (try simp only [Act.put,List.setIfInBounds_toArray,List.set_cons_zero,List.set_cons_succ])
 refine wpAnyH_take (i:=4) (oi:=({ dst:=some 35,op:=Op.pick (Operand.tmp 32) (Operand.tmp 34) (Operand.const (Value.bool false)),type:=4,pos := "law.go:43",after:=#[{ on:=1,ground:=Ground.data },{ on:=3,ground:=Ground.data }],guard:=none }:Oper)) (v:=.bool true) rfl (by kernel_rfl) (by kernel_rfl) (by kernel_rfl) (fun _ _ _ h=>h) (Or.inl ⟨by rfl,fun X hX=>rfl⟩) hHeld ?_
 (try simp only [Act.put,List.setIfInBounds_toArray,List.set_cons_zero,List.set_cons_succ])
 refine wpAnyH_take (i:=5) (oi:=({ dst:=some 36,op:=Op.move (Operand.tmp 35),type:=4,pos := "law.go:43",after:=#[{ on:=4,ground:=Ground.data },{ on:=1,ground:=Ground.chain }],guard:=none }:Oper)) (v:=.bool true) rfl (by kernel_rfl) (by kernel_rfl) (by kernel_rfl) (fun _ _ _ h=>h) (Or.inl ⟨by rfl,fun X hX=>rfl⟩) hHeld ?_
 (try simp only [Act.put,List.setIfInBounds_toArray,List.set_cons_zero,List.set_cons_succ])
 refine wpAnyH_take (i:=6) (oi:=({ dst:=some 37,op:=Op.load 25 (Operand.tmp 3),type:=25,pos := "law.go:43",after:=#[{ on:=5,ground:=Ground.guard }],guard:=some (5,true) }:Oper)) (v:=(.agg #[.string kb,.string tb,.int .i64 f,.int .i64 e,.slice a n c])) rfl (by kernel_rfl) (by kernel_rfl) (by kernel_rfl) (fun _ _ _ h=>h) (yields_load 25 (.tmp 3) rfl (by rfl) (fun X hX=>load_five hX.1)) hHeld ?_
 (try simp only [Act.put,List.setIfInBounds_toArray,List.set_cons_zero,List.set_cons_succ])
 refine wpAnyH_take (i:=7) (oi:=({ dst:=some 38,op:=Op.load 25 (Operand.tmp 7),type:=25,pos := "law.go:43",after:=#[{ on:=5,ground:=Ground.guard }],guard:=some (5,true) }:Oper)) (v:=(.agg #[.string kb2,.string tb2,.int .i64 f2,.int .i64 e2,.slice a2 n2 c2])) rfl (by kernel_rfl) (by kernel_rfl) (by kernel_rfl) (fun _ _ _ h=>h) (yields_load 25 (.tmp 7) rfl (by rfl) (fun X hX=>load_five hX.2)) hHeld ?_
 (try simp only [Act.put,List.setIfInBounds_toArray,List.set_cons_zero,List.set_cons_succ])
 refine wpAnyH_ready (rs:=[8]) (by kernel_rfl) (by simp) ?_
 refine (AllReadyH.cons (o:=({ dst:=some 39,op:=Op.call { callee:=Callee.value (Operand.func 13),args:=#[Operand.tmp 37,Operand.tmp 38],argTypes:=#[25,25] },type:=4,pos := "law.go:43",after:=#[{ on:=6,ground:=Ground.data },{ on:=7,ground:=Ground.data },{ on:=5,ground:=Ground.chain },{ on:=5,ground:=Ground.guard }],guard:=some (5,true) }:Oper)) rfl (fun K hK=>?_) AllReadyH.nil)
 refine wanted_step (by kernel_rfl) ?_
 go_simp
 go_at_call 13
 refine (HCA.out _ HB.out).mono ?_
 rintro e9 w9 ⟨rfl,hb⟩
 dsimp only
 replace HB:=Lib.hid (HB.out.trans (hb.mono HB.out.size))
 clear hb
 refine hK.out _ _ (HX.out _ HB.out) (fun hHeld=>?_)
 (try simp only [Act.put,List.setIfInBounds_toArray,List.set_cons_zero,List.set_cons_succ])
 clear hK K
 refine wpAnyH_take (i:=9) (oi:=({ dst:=some 40,op:=Op.pick (Operand.tmp 36) (Operand.tmp 39) (Operand.const (Value.bool false)),type:=4,pos := "law.go:43",after:=#[{ on:=5,ground:=Ground.data },{ on:=8,ground:=Ground.data }],guard:=none }:Oper)) (v:=.bool true) rfl (by kernel_rfl) (by kernel_rfl) (by kernel_rfl) (fun _ _ _ h=>h) (Or.inl ⟨by rfl,fun X hX=>rfl⟩) hHeld ?_
 (try simp only [Act.put,List.setIfInBounds_toArray,List.set_cons_zero,List.set_cons_succ])
 refine wpAnyH_take (i:=10) (oi:=({ dst:=some 41,op:=Op.move (Operand.tmp 40),type:=4,pos := "law.go:43",after:=#[{ on:=9,ground:=Ground.data },{ on:=8,ground:=Ground.chain }],guard:=none }:Oper)) (v:=.bool true) rfl (by kernel_rfl) (by kernel_rfl) (by kernel_rfl) (fun _ _ _ h=>h) (Or.inl ⟨by rfl,fun X hX=>rfl⟩) hHeld ?_
 (try simp only [Act.put,List.setIfInBounds_toArray,List.set_cons_zero,List.set_cons_succ])
 refine wpAnyH_take (i:=11) (oi:=({ dst:=some 42,op:=Op.load 25 (Operand.tmp 7),type:=25,pos := "law.go:43",after:=#[{ on:=10,ground:=Ground.guard }],guard:=some (10,true) }:Oper)) (v:=(.agg #[.string kb2,.string tb2,.int .i64 f2,.int .i64 e2,.slice a2 n2 c2])) rfl (by kernel_rfl) (by kernel_rfl) (by kernel_rfl) (fun _ _ _ h=>h) (yields_load 25 (.tmp 7) rfl (by rfl) (fun X hX=>load_five hX.2)) hHeld ?_
 (try simp only [Act.put,List.setIfInBounds_toArray,List.set_cons_zero,List.set_cons_succ])
 refine wpAnyH_take (i:=12) (oi:=({ dst:=some 43,op:=Op.load 25 (Operand.tmp 3),type:=25,pos := "law.go:43",after:=#[{ on:=10,ground:=Ground.guard }],guard:=some (10,true) }:Oper)) (v:=(.agg #[.string kb,.string tb,.int .i64 f,.int .i64 e,.slice a n c])) rfl (by kernel_rfl) (by kernel_rfl) (by kernel_rfl) (fun _ _ _ h=>h) (yields_load 25 (.tmp 3) rfl (by rfl) (fun X hX=>load_five hX.1)) hHeld ?_
 (try simp only [Act.put,List.setIfInBounds_toArray,List.set_cons_zero,List.set_cons_succ])
 refine wpAnyH_ready (rs:=[13]) (by kernel_rfl) (by simp) ?_
 refine (AllReadyH.cons (o:=({ dst:=some 44,op:=Op.call { callee:=Callee.value (Operand.func 13),args:=#[Operand.tmp 42,Operand.tmp 43],argTypes:=#[25,25] },type:=4,pos := "law.go:43",after:=#[{ on:=11,ground:=Ground.data },{ on:=12,ground:=Ground.data },{ on:=10,ground:=Ground.chain },{ on:=10,ground:=Ground.guard }],guard:=some (10,true) }:Oper)) rfl (fun K hK=>?_) AllReadyH.nil)
 refine wanted_step (by kernel_rfl) ?_
 go_simp
 go_at_call 13
 refine (HCB.out _ HB.out).mono ?_
 rintro e9 w10 ⟨rfl,hb⟩
 dsimp only
 replace HB:=Lib.hid (HB.out.trans (hb.mono HB.out.size))
 clear hb
 refine hK.out _ _ (HX.out _ HB.out) (fun hHeld=>?_)
 (try simp only [Act.put,List.setIfInBounds_toArray,List.set_cons_zero,List.set_cons_succ])
 clear hK K
 refine wpAnyH_take (i:=14) (oi:=({ dst:=some 45,op:=Op.pick (Operand.tmp 41) (Operand.tmp 44) (Operand.const (Value.bool false)),type:=4,pos := "law.go:43",after:=#[{ on:=10,ground:=Ground.data },{ on:=13,ground:=Ground.data }],guard:=none }:Oper)) (v:=.bool true) rfl (by kernel_rfl) (by kernel_rfl) (by kernel_rfl) (fun _ _ _ h=>h) (Or.inl ⟨by rfl,fun X hX=>rfl⟩) hHeld ?_
 (try simp only [Act.put,List.setIfInBounds_toArray,List.set_cons_zero,List.set_cons_succ])
 refine wpAnyH_take (i:=15) (oi:=({ dst:=some 46,op:=Op.move (Operand.tmp 45),type:=4,pos := "law.go:43",after:=#[{ on:=14,ground:=Ground.data },{ on:=13,ground:=Ground.chain }],guard:=none }:Oper)) (v:=.bool true) rfl (by kernel_rfl) (by kernel_rfl) (by kernel_rfl) (fun _ _ _ h=>h) (Or.inl ⟨by rfl,fun X hX=>rfl⟩) hHeld ?_
 (try simp only [Act.put,List.setIfInBounds_toArray,List.set_cons_zero,List.set_cons_succ])
 refine wpAnyH_take (i:=16) (oi:=({ dst:=some 47,op:=Op.load 25 (Operand.tmp 7),type:=25,pos := "law.go:43",after:=#[{ on:=15,ground:=Ground.guard }],guard:=some (15,true) }:Oper)) (v:=(.agg #[.string kb2,.string tb2,.int .i64 f2,.int .i64 e2,.slice a2 n2 c2])) rfl (by kernel_rfl) (by kernel_rfl) (by kernel_rfl) (fun _ _ _ h=>h) (yields_load 25 (.tmp 7) rfl (by rfl) (fun X hX=>load_five hX.2)) hHeld ?_
 (try simp only [Act.put,List.setIfInBounds_toArray,List.set_cons_zero,List.set_cons_succ])
 refine wpAnyH_take (i:=18) (oi:=({ dst:=some 49,op:=Op.move (Operand.tmp 6),type:=9,pos := "law.go:43",after:=#[{ on:=15,ground:=Ground.guard }],guard:=some (15,true) }:Oper)) (v:=.string t) rfl (by kernel_rfl) (by kernel_rfl) (by kernel_rfl) (fun _ _ _ h=>h) (Or.inl ⟨by rfl,fun X hX=>rfl⟩) hHeld ?_
 (try simp only [Act.put,List.setIfInBounds_toArray,List.set_cons_zero,List.set_cons_succ])
 refine wpAnyH_ready (rs:=[17]) (by kernel_rfl) (by simp) ?_
 refine (AllReadyH.cons (o:=({ dst:=some 48,op:=Op.call { callee:=Callee.value (Operand.func 12),args:=#[Operand.tmp 47],argTypes:=#[25] },type:=9,pos := "law.go:43",after:=#[{ on:=16,ground:=Ground.data },{ on:=15,ground:=Ground.chain },{ on:=15,ground:=Ground.guard }],guard:=some (15,true) }:Oper)) rfl (fun K hK=>?_) AllReadyH.nil)
 refine wanted_step (by kernel_rfl) ?_
 go_simp
 go_at_call 12
 refine (HCS.out _ HB.out).mono ?_
 rintro e9 w11 ⟨rfl,hb⟩
 dsimp only
 replace HB:=Lib.hid (HB.out.trans (hb.mono HB.out.size))
 clear hb
 refine hK.out _ _ (HX.out _ HB.out) (fun hHeld=>?_)
 (try simp only [Act.put,List.setIfInBounds_toArray,List.set_cons_zero,List.set_cons_succ])
 clear hK K
 refine wpAnyH_take (i:=19) (oi:=({ dst:=some 50,op:=Op.binOp BinOp.eql 9 (Operand.tmp 48) (Operand.tmp 49) 9,type:=4,pos := "law.go:43",after:=#[{ on:=17,ground:=Ground.data },{ on:=18,ground:=Ground.data },{ on:=15,ground:=Ground.guard }],guard:=some (15,true) }:Oper)) (v:=.bool true) rfl (by kernel_rfl) (by kernel_rfl) (by kernel_rfl) (fun _ _ _ h=>h) (yields_eql (Operand.tmp 48) (Operand.tmp 49) rfl (by rfl) rfl rfl hxx) hHeld ?_
 (try simp only [Act.put,List.setIfInBounds_toArray,List.set_cons_zero,List.set_cons_succ])
 refine wpAnyH_take (i:=20) (oi:=({ dst:=some 51,op:=Op.pick (Operand.tmp 46) (Operand.tmp 50) (Operand.const (Value.bool false)),type:=4,pos := "law.go:43",after:=#[{ on:=15,ground:=Ground.data },{ on:=19,ground:=Ground.data }],guard:=none }:Oper)) (v:=.bool true) rfl (by kernel_rfl) (by kernel_rfl) (by kernel_rfl) (fun _ _ _ h=>h) (Or.inl ⟨by rfl,fun X hX=>rfl⟩) hHeld ?_
 (try simp only [Act.put,List.setIfInBounds_toArray,List.set_cons_zero,List.set_cons_succ])
 refine wpAnyH_take (i:=21) (oi:=({ dst:=some 52,op:=Op.move (Operand.tmp 51),type:=4,pos := "law.go:43",after:=#[{ on:=20,ground:=Ground.data },{ on:=17,ground:=Ground.chain }],guard:=none }:Oper)) (v:=.bool true) rfl (by kernel_rfl) (by kernel_rfl) (by kernel_rfl) (fun _ _ _ h=>h) (Or.inl ⟨by rfl,fun X hX=>rfl⟩) hHeld ?_
 (try simp only [Act.put,List.setIfInBounds_toArray,List.set_cons_zero,List.set_cons_succ])
 refine wpAnyH_take (i:=22) (oi:=({ dst:=some 53,op:=Op.load 25 (Operand.tmp 3),type:=25,pos := "law.go:43",after:=#[{ on:=21,ground:=Ground.guard }],guard:=some (21,true) }:Oper)) (v:=(.agg #[.string kb,.string tb,.int .i64 f,.int .i64 e,.slice a n c])) rfl (by kernel_rfl) (by kernel_rfl) (by kernel_rfl) (fun _ _ _ h=>h) (yields_load 25 (.tmp 3) rfl (by rfl) (fun X hX=>load_five hX.1)) hHeld ?_
 (try simp only [Act.put,List.setIfInBounds_toArray,List.set_cons_zero,List.set_cons_succ])
 refine wpAnyH_take (i:=24) (oi:=({ dst:=some 55,op:=Op.load 25 (Operand.tmp 7),type:=25,pos := "law.go:43",after:=#[{ on:=21,ground:=Ground.guard }],guard:=some (21,true) }:Oper)) (v:=(.agg #[.string kb2,.string tb2,.int .i64 f2,.int .i64 e2,.slice a2 n2 c2])) rfl (by kernel_rfl) (by kernel_rfl) (by kernel_rfl) (fun _ _ _ h=>h) (yields_load 25 (.tmp 7) rfl (by rfl) (fun X hX=>load_five hX.2)) hHeld ?_
 (try simp only [Act.put,List.setIfInBounds_toArray,List.set_cons_zero,List.set_cons_succ])
 refine wpAnyH_ready (rs:=[23]) (by kernel_rfl) (by simp) ?_
 refine (AllReadyH.cons (o:=({ dst:=some 54,op:=Op.call { callee:=Callee.value (Operand.func 14),args:=#[Operand.tmp 53],argTypes:=#[25] },type:=9,pos := "law.go:43",after:=#[{ on:=22,ground:=Ground.data },{ on:=21,ground:=Ground.chain },{ on:=21,ground:=Ground.guard }],guard:=some (21,true) }:Oper)) rfl (fun K hK=>?_) AllReadyH.nil)
 refine wanted_step (by kernel_rfl) ?_
 go_simp
 go_at_call 14
 refine (HCH.out _ HB.out).mono ?_
 rintro e9 w12 ⟨rfl,hb⟩
 dsimp only
 replace HB:=Lib.hid (HB.out.trans (hb.mono HB.out.size))
 clear hb
 refine hK.out _ _ (HX.out _ HB.out) (fun hHeld=>?_)
 (try simp only [Act.put,List.setIfInBounds_toArray,List.set_cons_zero,List.set_cons_succ])
 clear hK K
 refine wpAnyH_ready (rs:=[25]) (by kernel_rfl) (by simp) ?_
 refine (AllReadyH.cons (o:=({ dst:=some 56,op:=Op.call { callee:=Callee.value (Operand.func 14),args:=#[Operand.tmp 55],argTypes:=#[25] },type:=9,pos := "law.go:43",after:=#[{ on:=24,ground:=Ground.data },{ on:=23,ground:=Ground.chain },{ on:=21,ground:=Ground.guard }],guard:=some (21,true) }:Oper)) rfl (fun K hK=>?_) AllReadyH.nil)
 refine wanted_step (by kernel_rfl) ?_
 go_simp
 go_at_call 14
 refine (HCJ.out _ HB.out).mono ?_
 rintro e9 w13 ⟨rfl,hb⟩
 dsimp only
 replace HB:=Lib.hid (HB.out.trans (hb.mono HB.out.size))
 clear hb
 refine hK.out _ _ (HX.out _ HB.out) (fun hHeld=>?_)
 (try simp only [Act.put,List.setIfInBounds_toArray,List.set_cons_zero,List.set_cons_succ])
 clear hK K
 refine wpAnyH_take (i:=26) (oi:=({ dst:=some 57,op:=Op.binOp BinOp.eql 9 (Operand.tmp 54) (Operand.tmp 56) 9,type:=4,pos := "law.go:43",after:=#[{ on:=23,ground:=Ground.data },{ on:=25,ground:=Ground.data },{ on:=21,ground:=Ground.guard }],guard:=some (21,true) }:Oper)) (v:=.bool true) rfl (by kernel_rfl) (by kernel_rfl) (by kernel_rfl) (fun _ _ _ h=>h) (yields_eql (Operand.tmp 54) (Operand.tmp 56) rfl (by rfl) rfl rfl hyy) hHeld ?_
 (try simp only [Act.put,List.setIfInBounds_toArray,List.set_cons_zero,List.set_cons_succ])
 refine wpAnyH_take (i:=27) (oi:=({ dst:=some 58,op:=Op.pick (Operand.tmp 52) (Operand.tmp 57) (Operand.const (Value.bool false)),type:=4,pos := "law.go:43",after:=#[{ on:=21,ground:=Ground.data },{ on:=26,ground:=Ground.data }],guard:=none }:Oper)) (v:=.bool true) rfl (by kernel_rfl) (by kernel_rfl) (by kernel_rfl) (fun _ _ _ h=>h) (Or.inl ⟨by rfl,fun X hX=>rfl⟩) hHeld ?_
 (try simp only [Act.put,List.setIfInBounds_toArray,List.set_cons_zero,List.set_cons_succ])
 refine wpAnyH_take (i:=28) (oi:=({ dst:=some 2,op:=Op.assign (Operand.tmp 58),type:=4,pos := "law.go:43",after:=#[{ on:=27,ground:=Ground.data },{ on:=25,ground:=Ground.chain },{ on:=0,ground:=Ground.phase },{ on:=1,ground:=Ground.phase },{ on:=2,ground:=Ground.phase },{ on:=3,ground:=Ground.phase },{ on:=4,ground:=Ground.phase },{ on:=5,ground:=Ground.phase },{ on:=6,ground:=Ground.phase },{ on:=7,ground:=Ground.phase },{ on:=8,ground:=Ground.phase },{ on:=9,ground:=Ground.phase },{ on:=10,ground:=Ground.phase },{ on:=11,ground:=Ground.phase },{ on:=12,ground:=Ground.phase },{ on:=13,ground:=Ground.phase },{ on:=14,ground:=Ground.phase },{ on:=15,ground:=Ground.phase },{ on:=16,ground:=Ground.phase },{ on:=17,ground:=Ground.phase },{ on:=18,ground:=Ground.phase },{ on:=19,ground:=Ground.phase },{ on:=20,ground:=Ground.phase },{ on:=21,ground:=Ground.phase },{ on:=22,ground:=Ground.phase },{ on:=23,ground:=Ground.phase },{ on:=24,ground:=Ground.phase },{ on:=25,ground:=Ground.phase },{ on:=26,ground:=Ground.phase },{ on:=27,ground:=Ground.phase }],guard:=none }:Oper)) (v:=.bool true) rfl (by kernel_rfl) (by kernel_rfl) (by kernel_rfl) (fun _ _ _ h=>h) (Or.inl ⟨by rfl,fun X hX=>rfl⟩) hHeld ?_
 (try simp only [Act.put,List.setIfInBounds_toArray,List.set_cons_zero,List.set_cons_succ])
 refine wpAnyH_done (by kernel_rfl) ?_ _
 clear hHeld
 (try go_wp2_with fail)
 go_ret
 exact ⟨rfl,HW.out _ HB.out⟩
end Go.Proofs.YtmclaaonlhnbmaaGreatDoor.H
