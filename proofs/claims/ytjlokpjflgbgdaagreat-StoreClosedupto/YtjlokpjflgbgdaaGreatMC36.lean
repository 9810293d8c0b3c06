/-
  slices.pdqsortOrdered at numbers of the kind uint64, by a contract: it does what the plain function does.
-/
import Derived.Test.YtjlokpjflgbgdaaGreatMC35
set_option maxHeartbeats 6400000
set_option maxRecDepth 100000
namespace Go.Proofs.YtjlokpjflgbgdaaGreat
open Go.RowKit
open Go.Sort hiding Below
theorem pdq_any:∀ (N:Nat) (w:World) (g n c a b lim:Nat) (d:Array UInt64),b - a<N->SR w g d->d.size=n->a<=b->b<=n->n<=1000000000000->lim<=1000->Go.Sort.Below ltU a b d->∀ D,pdq ltU d a b lim true true=D ->
  Calls Tryz.prog 158 #[.slice (some ⟨g,0,none⟩) n c,.int .i64 (a:Int),.int .i64 (b:Int),.int .i64 (lim:Int)] w λ e w'=>e=.returned (.tuple #[])/\Hid (SR w' g D/\Turned (λ k=>k=g) w w'):=by
 intro N
 induction N with
 | zero=>intro _ _ _ _ _ _ _ _ h; exact absurd h (Nat.not_lt_zero _)
 | succ N ih =>
  intro w g n c a b lim d hN hSR hsz hab hb hn hlim hBel D hD
  have H0:Hid (d.size=n/\Go.Sort.Below ltU a b d/\SR w g d/\Turned (λ k=>k=g) w w/\pdq ltU d a b lim true true=D):=⟨hsz,hBel,hSR,Turned.refl _ _,hD⟩
  clear hSR hsz hBel hD;go_enter Tryz.func158,Tryz.ntmps158;go_wp2_with fail;go_loopg [1,2,3,8,9] (b - a) (λ k s1 s2 s3 s8 s9 wr=>∃ (a' b' l':Nat) (wb wp:Bool),s1=.int .i64 (a':Int)/\s2=.int .i64 (b':Int)/\s3=.int .i64 (l':Int)/\s8=.bool wb/\s9=.bool wp/\a'<=b'/\b'<=n/\b' - a'<=k/\k<=b - a/\l'<=1000/\Hid (∃ E:Array UInt64,E.size=n/\Go.Sort.Below ltU a' b' E/\SR wr g E/\Turned (λ k=>k=g) w wr/\pdq ltU E a' b' l' wb wp=D))
  case atStart=>exact ⟨a,b,lim,true,true,rfl,rfl,rfl,rfl,rfl,hab,hb,Nat.le_refl _,Nat.le_refl _,hlim,d,H0.out⟩
  case round =>
   obtain ⟨a',b',l',wb,wp,rfl,rfl,rfl,rfl,rfl,hab',hb',hk,hkN,hl',HX⟩:=hrel;obtain ⟨E,e1,e2,e3,e4,e5⟩:=HX.out;clear H0
   obtain ⟨ll,hll⟩:∃ ll,b' - a'=ll:=⟨_,rfl⟩
   have n1:(b':Int) - (a':Int)=(ll:Int):=by omega
   have n1w:IntKind.i64.wrap (ll:Int)=(ll:Int):=by rw [IntKind.wrap_i64]; omega
   by_cases h12:ll<=12
   ·have z12:(ll:Int)<=12:=by omega
    have hc:=ins_any (c:=c) (a:=a') (b:=b') e3 e1 hab' hb' (by omega);rw [<- pdq_small (limit:=l') (wb:=wb) (wp:=wp) (show b' - a'<=12 by omega),e5] at hc;have H1:Hid (Turned (λ k=>k=g) w wr):=e4;clear e1 e2 e3 e4 e5 HX;go_wp2_with fail;refine hc.mono ?_;rintro e w1 ⟨rfl,H11⟩;clear hc;go_wp2
    (try simp only [Exit.inBlock,Exit.then])
    refine bodyPost_ret (v:=.tuple #[]) (results_none rfl _ _ _) rfl ?_;exact ⟨rfl,H11.out.1,H1.out.trans H11.out.2 (λ _ _ q=>q)⟩
   ·have z12:¬ (ll:Int)<=12:=by omega
    by_cases hl0:l'=0
    ·have hc:=heap_any (c:=c) (a:=a') (b:=b') e3 e1 (by omega) hb' hn;rw [<- pdq_heap (limit:=l') (wb:=wb) (wp:=wp) (show ¬ b' - a'<=12 by omega) hl0,e5] at hc;have H1:Hid (Turned (λ k=>k=g) w wr):=e4;clear e1 e2 e3 e4 e5 HX;subst hl0;go_wp2_with fail;refine hc.mono ?_;rintro e w1 ⟨rfl,H11⟩;clear hc;go_wp2
     (try simp only [Exit.inBlock,Exit.then])
     refine bodyPost_ret (v:=.tuple #[]) (results_none rfl _ _ _) rfl ?_;exact ⟨rfl,H11.out.1,H1.out.trans H11.out.2 (λ _ _ q=>q)⟩
    ·have zl0:¬ (l':Int)=0:=by omega
     obtain ⟨d1,l1,cp,ch,d2,pv,ht,p1,p2,hRN⟩:=rnd E a' b' l' wb wp (by omega) hl0 (by omega) e2;have RN:=shid hRN
     have hsz1:d1.size=n:=by rw [hRN.s1]; exact e1
     have hsz2:d2.size=n:=by rw [hRN.s2]; exact e1
     have hsz3:p1.size=n:=by rw [hRN.s3]; exact e1
     have hcp:=hRN.cpr;have hpv:=hRN.pvr;have hll1:=hRN.llim;have HE:Hid (pdq ltU E a' b' l' wb wp=D):=e5;have HS:Hid (E.size=n):=e1
     have H1:Hid (SR wr g E/\Turned (λ k=>k=g) w wr):=⟨e3,e4⟩
     clear hRN e1 e2 e3 e4 e5 HX
     go_upto_if 35 with fail
     go_cut [3] from 19 to 133 (λ s3 u=>∃ v,v=u/\s3=.int .i64 (l1:Int)/\Hid (SR v g d1/\Turned (λ k=>k=g) w v))
     case first =>
      cases wb with
      | false =>
       have hwb:=RN.out.wbf rfl;have hc:=brk_any (c:=c) (a:=a') (b:=b') H1.out.1 HS.out (by omega) (by omega) hn;rw [hwb.1] at hc;have hl1:=hwb.2
       have r1:(l':Int) - 1=(l1:Int):=by omega
       have r1w:IntKind.i64.wrap (l1:Int)=(l1:Int):=by rw [IntKind.wrap_i64]; omega
       clear hwb RN hl1;go_wp2_with fail;refine hc.mono ?_;rintro e w1 ⟨rfl,H11⟩;clear hc;go_wp2_with fail;go_meet;exact ⟨_,rfl,rfl,H11.out.1,H1.out.2.trans H11.out.2 (λ _ _ q=>q)⟩
      | true =>
       have hwb:=shid (RN.out.wbt rfl);clear RN;go_wp2_with fail;go_meet;exact ⟨_,rfl,by rw [hwb.out.2],by rw [<- hwb.out.1]; exact H1.out.1,H1.out.2⟩
     case rest =>
      obtain ⟨v,rfl,rfl,H2⟩:=hcut;have hc:=pick_any (c:=c) H2.out.1 hsz1 (by omega) (by omega) hn (cp,ch) RN.out.piv;simp only at hc
      obtain ⟨hv,hhv⟩:∃ hv,hintV ch=hv:=⟨_,rfl⟩
      obtain ⟨hz,hhz⟩:∃ hz,hintV ht=hz:=⟨_,rfl⟩
      rw [hhv] at hc;have HV:Hid (hintV ch=hv):=hhv;have HZ:Hid (hintV ht=hz):=hhz;clear hhv hhz;go_wp2_with fail;refine hc.mono ?_;rintro e w2 ⟨rfl,HB2⟩
      have H3:Hid (SR w2 g d1/\Turned (λ k=>k=g) w w2):=⟨H2.out.1.below HB2.out,H2.out.2.trans (Turned.ofBelow (S:=λ _=>False) HB2.out) (λ _ _ q=>q.elim)⟩
      clear hc HB2
      go_upto_if 50 with fail
      go_cut [11,12] from 19 to 133 (λ s11 s12 u=>∃ v,v=u/\s11=.int .i64 (pv:Int)/\s12=.int .i64 hz/\Hid (SR v g d2/\Turned (λ k=>k=g) w v))
      case first =>
       by_cases hh:ch=.decreasing
       ·have hdc:=RN.out.dec hh
        have e1:hv=2:=by rw [<- HV.out,hh]; rfl
        have e2:Hid (hz=1):=by show _=_; rw [<- HZ.out,hdc.2.2]; rfl
        have hcr:=rev_any (c:=c) (a:=a') (b:=b') H3.out.1 hsz1 (by omega) (by omega) (by omega);rw [hdc.1] at hcr
        obtain ⟨bb,hbb⟩:∃ bb,b' - 1=bb:=⟨_,rfl⟩
        obtain ⟨mm,hmm⟩:∃ mm,cp - a'=mm:=⟨_,rfl⟩
        have hpq:=hdc.2.1
        have r1:(b':Int) - 1=(bb:Int):=by omega
        have r1w:IntKind.i64.wrap (bb:Int)=(bb:Int):=by rw [IntKind.wrap_i64]; omega
        have r2:(cp:Int) - (a':Int)=(mm:Int):=by omega
        have r2w:IntKind.i64.wrap (mm:Int)=(mm:Int):=by rw [IntKind.wrap_i64]; omega
        have r3:(bb:Int) - (mm:Int)=(pv:Int):=by omega
        have r3w:IntKind.i64.wrap (pv:Int)=(pv:Int):=by rw [IntKind.wrap_i64]; omega
        clear hdc HV hh RN hbb hmm hpq;subst e1;go_wp2_with fail;refine hcr.mono ?_;rintro e w3 ⟨rfl,H31⟩;clear hcr;go_wp2_with fail;go_meet;exact ⟨_,rfl,rfl,by rw [e2.out],H31.out.1,H3.out.2.trans H31.out.2 (λ _ _ q=>q)⟩
       ·have hdc:=RN.out.inc hh
        have e1:¬ hv=2:=λ e=>hh (by have:=HV.out; rw [e] at this; cases ch <;> simp [hintV] at this ⊢)
        have e2:Hid (hv=hz/\d1=d2/\cp=pv):=⟨by rw [<- HV.out,<- HZ.out,hdc.2.2],hdc.1,hdc.2.1⟩
        clear hdc HV hh RN;go_wp2_with fail;go_meet;exact ⟨_,rfl,by rw [e2.out.2.2],by rw [e2.out.1],by rw [<- e2.out.2.1]; exact H3.out.1,H3.out.2⟩
      case rest =>
       obtain ⟨v,rfl,rfl,rfl,H4⟩:=hcut;clear H3 H2
       go_upto_region 15 with fail
       go_cut [68] from 19 to 133 (λ s68 u=>∃ v f,v=u/\s68=.bool f/\Hid ((wb&&wp&&decide (ht=.increasing))=f/\SR v g d2/\Turned (λ k=>k=g) w v))
       case first =>
        by_cases h1:ht=.increasing
        ·have e1:hz=1:=by rw [<- HZ.out,h1]; rfl
         have e2:decide (ht=.increasing)=true:=by simpa using h1
         have KE:Hid ((wb&&wp&&decide (ht=.increasing))=(wb&&wp)):=by show _=_; rw [e2,Bool.and_true]
         clear h1 e2 RN HZ;subst e1
         cases wb <;> cases wp <;>
          (go_wp2_with fail
           go_meet
           exact ⟨_,_,rfl,rfl,KE.out,H4.out⟩)
        ·have e1:¬ hz=1:=λ e=>h1 (by have:=HZ.out; rw [e] at this; cases ht <;> simp [hintV] at this ⊢)
         have e2:decide (ht=.increasing)=false:=by simpa using h1
         have KE:Hid ((wb&&wp&&decide (ht=.increasing))=false):=by show _=_; rw [e2,Bool.and_false]
         clear h1 e2 RN HZ
         cases wb <;> cases wp <;>
          (go_wp2_with fail
           go_meet
           exact ⟨_,_,rfl,rfl,(by first | exact KE.out | (rw [KE.out]; exact (beq_eq_false_iff_ne.2 e1).symm)),H4.out⟩)
       case rest =>
        obtain ⟨v,f,rfl,rfl,H5⟩:=hcut;clear H4
        go_upto_if 68 with fail
        go_cut [] from 19 to 133 (λ u=>∃ v,v=u/\Hid (p2=false/\SR v g p1/\Turned (λ k=>k=g) w v))
        case first =>
         cases f with
         | false =>
          have hno:=RN.out.no H5.out.1
          have FIN:Hid (p2=false/\d2=p1):=⟨hno.2,hno.1⟩
          clear hno;go_wp2_with fail;go_meet;exact ⟨_,rfl,FIN.out.1,by rw [<- FIN.out.2]; exact H5.out.2.1,H5.out.2.2⟩
         | true =>
          have hc:=pins_any (c:=c) H5.out.2.1 hsz2 (by omega) (by omega) hn (p1,p2) (RN.out.yes H5.out.1);simp only at hc
          have DN:Hid (p2=true->D=p1):=λ e=>by rw [<- HE.out]; exact RN.out.done e
          clear RN
          cases p2 with
          | true =>
           go_wp2_with fail;refine hc.mono ?_;rintro e w6 ⟨rfl,H6⟩;clear hc;go_wp2
           (try simp only [Exit.inBlock,Exit.then])
           refine bodyPost_ret (v:=.tuple #[]) (results_none rfl _ _ _) rfl ?_;rw [DN.out (by first | rfl | trivial)];exact ⟨rfl,H6.out.1,H5.out.2.2.trans H6.out.2 (λ _ _ q=>q)⟩
          | false =>
           go_wp2_with fail;refine hc.mono ?_;rintro e w6 ⟨rfl,H6⟩;clear hc;go_wp2_with fail;go_meet;exact ⟨_,rfl,(by first | rfl | trivial),H6.out.1,H5.out.2.2.trans H6.out.2 (λ _ _ q=>q)⟩
        case rest =>
         obtain ⟨v,rfl,H7⟩:=hcut;clear H5;have P2:Hid (p2=false):=H7.out.1
         obtain ⟨wx,hwx⟩:∃ wx,wx=v:=⟨_,rfl⟩
         subst hwx
         go_upto_region 17 with fail
         go_cut [87] from 19 to 133 (λ tv u=>∃ v f,v=u/\tv=.bool f/\Hid ((decide (a'>0)&&!ltU p1[a' - 1]! p1[pv]!)=f/\SR v g p1/\Turned (λ k=>k=g) w v))
         case first =>
          by_cases ha0:0<a'
          ·obtain ⟨aa,haa⟩:∃ aa,a' - 1=aa:=⟨_,rfl⟩
           obtain ⟨x,hx⟩:∃ x,p1[aa]! = x:=⟨_,rfl⟩
           obtain ⟨y,hy⟩:∃ y,p1[pv]! = y:=⟨_,rfl⟩
           obtain ⟨f0,hf⟩:∃ f0,ltU x y=f0:=⟨_,rfl⟩
           have q0:∀ u:SW (Grew wx),u.w.cell? ⟨g,aa,none⟩=some (uv x):=λ u=>by rw [<- hx]; exact (H7.out.2.1.below u.ok).cell (by omega)
           have q1:∀ u:SW (Grew wx),u.w.cell? ⟨g,pv,none⟩=some (uv y):=λ u=>by rw [<- hy]; exact (H7.out.2.1.below u.ok).cell (by omega)
           have hL:=λ u=>less_cls (wr:=wx) x y f0 hf u
           have NE:Nonempty (SW (Grew wx)):=⟨⟨wx,Go.RowKit.Below.refl _ wx⟩⟩
           have j1:(0:Int)<(a':Int):=by omega
           have j2:decide ((0:Int)<(a':Int))=true:=by simpa using j1
           have j3:decide (0<a')=true:=by simpa using ha0
           have j4:(aa:Int)<(n:Int):=by omega
           have j5:(pv:Int)<(n:Int):=by omega
           have j6:(0:Int)<=(aa:Int):=by omega
           have j7:(0:Int)<=(pv:Int):=by omega
           have j8:(a':Int) - 1=(aa:Int):=by omega
           have j9:IntKind.i64.wrap (aa:Int)=(aa:Int):=by rw [IntKind.wrap_i64]; omega
           have KE:Hid ((decide (a'>0)&&!ltU p1[a' - 1]! p1[pv]!)=(!f0)):=by
            show _=_;have j3':decide (a'>0)=true:=j3;rw [haa,hx,hy,hf,j3',Bool.true_and]
           clear hx hy hf haa
           cases f0 with
           | true =>
            refine wp_region_class (S:=Grew wx) (by kernel_rfl) (by kernel_rfl) (Go.RowKit.Below.refl _ wx).drew ?_
            repeat (go_big_quiet_step (with_reducible exact hL _))
            refine wpQuiet_nil ?_;intro _ hw';obtain ⟨u,hw''⟩:=hw';subst hw'';go_wp2_with fail;go_meet;exact ⟨_,_,rfl,rfl,KE.out,H7.out.2.1.below u.ok,H7.out.2.2.trans (Turned.ofBelow u.ok) (λ _ _ q=>q)⟩
           | false =>
            refine wp_region_class (S:=Grew wx) (by kernel_rfl) (by kernel_rfl) (Go.RowKit.Below.refl _ wx).drew ?_
            repeat (go_big_quiet_step (with_reducible exact hL _))
            refine wpQuiet_nil ?_;intro _ hw';obtain ⟨u,hw''⟩:=hw';subst hw'';go_wp2_with fail;go_meet;exact ⟨_,_,rfl,rfl,KE.out,H7.out.2.1.below u.ok,H7.out.2.2.trans (Turned.ofBelow u.ok) (λ _ _ q=>q)⟩
          ·have j1:¬ (0:Int)<(a':Int):=by omega
           have j2:decide ((0:Int)<(a':Int))=false:=by simpa using j1
           have j3:decide (0<a')=false:=by simpa using ha0
           have KE:Hid ((decide (a'>0)&&!ltU p1[a' - 1]! p1[pv]!)=false):=by
            show _=_;have j3':decide (a'>0)=false:=j3;rw [j3',Bool.false_and]
           go_quiet (fail);go_wp2_with fail;go_meet;have hq:=bdrewN wx nq;exact ⟨_,false,rfl,rfl,KE.out,H7.out.2.1.below hq,H7.out.2.2.trans (Turned.ofBelow (S:=λ _=>False) hq) (λ _ _ q=>q.elim)⟩
         case rest =>
          obtain ⟨v,f,rfl,rfl,H9⟩:=hcut;clear H7
          cases f with
          | true =>
           obtain ⟨mid,d4,hx⟩:∃ mid d4,partitionEqual ltU p1 a' b' pv=(mid,d4):=⟨_,_,rfl⟩
           have hq4:=RN.out.eql P2.out H9.out.1 mid d4 hx;have hc:=partEq_any (c:=c) H9.out.2.1 hsz3 hpv.1 hpv.2 (by omega) hn (mid,d4) hx;simp only at hc
           have FIN:Hid (d4.size=n/\Go.Sort.Below ltU mid b' d4/\pdq ltU d4 mid b' l1 wb wp=D):=⟨by rw [hq4.2.2.1]; exact HS.out,hq4.2.2.2.1,by rw [<- HE.out]; exact hq4.2.2.2.2.symm⟩
           have hml:a'<mid/\mid<=b':=⟨hq4.1,hq4.2.1⟩
           clear hq4 hx;go_wp2_with fail;refine hc.mono ?_;rintro e w7 ⟨rfl,H10⟩;clear hc;go_wp2;go_roundg (b' - mid)
           case measure=>omega
           case rel=>exact ⟨mid,b',l1,wb,wp,rfl,rfl,rfl,rfl,rfl,by omega,by omega,by omega,by omega,by omega,d4,FIN.out.1,FIN.out.2.1,H10.out.1,H9.out.2.2.trans H10.out.2 (λ _ _ q=>q),FIN.out.2.2⟩
          | false =>
           obtain ⟨mid,ap,d4,hx⟩:∃ mid ap d4,partition ltU p1 a' b' pv=(mid,ap,d4):=⟨_,_,_,rfl⟩
           have hq4:=RN.out.prt P2.out H9.out.1 mid ap d4 hx;have hc:=part_any (c:=c) H9.out.2.1 hsz3 hpv.1 hpv.2 (by omega) hn (mid,ap,d4) hx;simp only at hc;clear hx
           have hml:a'<=mid/\mid<b':=⟨hq4.1,hq4.2.1⟩
           have hd4:d4.size=n:=by rw [hq4.2.2.1]; exact HS.out
           obtain ⟨lm,hlm⟩:∃ lm,mid - a'=lm:=⟨_,rfl⟩
           obtain ⟨rm,hrm⟩:∃ rm,b' - mid=rm:=⟨_,rfl⟩
           obtain ⟨e8,he8⟩:∃ e8,ll / 8=e8:=⟨_,rfl⟩
           obtain ⟨m1,hm1⟩:∃ m1,mid+1=m1:=⟨_,rfl⟩
           have k1:(mid:Int) - (a':Int)=(lm:Int):=by omega
           have k1w:IntKind.i64.wrap (lm:Int)=(lm:Int):=by rw [IntKind.wrap_i64]; omega
           have k2:(b':Int) - (mid:Int)=(rm:Int):=by omega
           have k2w:IntKind.i64.wrap (rm:Int)=(rm:Int):=by rw [IntKind.wrap_i64]; omega
           have k4:(mid:Int)+1=(m1:Int):=by omega
           have k4w:IntKind.i64.wrap (m1:Int)=(m1:Int):=by rw [IntKind.wrap_i64]; omega
           have k3:(ll:Int).tdiv 8=(e8:Int):=by rw [<- he8]; rfl
           have k3w:IntKind.i64.wrap (e8:Int)=(e8:Int):=by rw [IntKind.wrap_i64]; omega
           by_cases hlt:mid - a'<b' - mid
           ·have hq5:=hq4.2.2.2.2.2.1 hlt
            obtain ⟨D4,hD4⟩:∃ D4,pdq ltU d4 a' mid l1 true true=D4:=⟨_,rfl⟩
            rw [hD4] at hq5
            have hc2:=λ (u:World) (hu:SR u g d4)=>ih u g n c a' mid l1 d4 (by omega) hu (by omega) hq4.1 (by omega) hn (by omega) hq4.2.2.2.1 D4 hD4
            have FIN:Hid (D4.size=n/\Go.Sort.Below ltU m1 b' D4/\pdq ltU D4 m1 b' l1 (decide (mid - a'≥(b' - a') / 8)) ap=D):=⟨by rw [hq5.1]; exact HS.out,by rw [<- hm1]; exact hq5.2.1,by rw [<- HE.out,<- hm1]; exact hq5.2.2.symm⟩
            have c5:(lm:Int)<(rm:Int):=by omega
            obtain ⟨bal,hbal⟩:∃ bal,decide ((e8:Int)<=(lm:Int))=bal:=⟨_,rfl⟩
            have BE:Hid (decide (e8<=lm)=bal):=by
             show _=bal;rw [<- hbal];exact decide_eq_decide.2 ⟨λ h=>by omega,λ h=>by omega⟩
            have BAL:Hid (decide (mid - a'≥(b' - a') / 8)=bal):=by
             show _=bal;rw [<- hbal];exact decide_eq_decide.2 ⟨λ h=>by omega,λ h=>by omega⟩
            clear hq4 hq5 hD4 hbal;go_wp2_with fail;refine hc.mono ?_;rintro e w7 ⟨rfl,H10⟩;have hc2':=hc2 w7 H10.out.1;clear hc hc2;go_wp2_with fail;refine hc2'.mono ?_;rintro e w8 ⟨rfl,H11⟩;clear hc2';go_wp2;go_roundg (b' - m1)
            case measure=>omega
            case rel=>exact ⟨m1,b',l1,bal,ap,by go_num,rfl,rfl,(by first | rfl | exact congrArg Value.bool BE.out),rfl,by omega,by omega,by omega,by omega,by omega,D4,FIN.out.1,FIN.out.2.1,H11.out.1,(H9.out.2.2.trans H10.out.2 (λ _ _ q=>q)).trans H11.out.2 (λ _ _ q=>q),by rw [<- BAL.out]; exact FIN.out.2.2⟩
           ·have hq5:=hq4.2.2.2.2.2.2 hlt
            obtain ⟨D4,hD4⟩:∃ D4,pdq ltU d4 m1 b' l1 true true=D4:=⟨_,rfl⟩
            rw [hm1,hD4] at hq5
            have hc2:=λ (u:World) (hu:SR u g d4)=>ih u g n c m1 b' l1 d4 (by omega) hu (by omega) (by omega) (by omega) hn (by omega) (by rw [<- hm1]; exact hq4.2.2.2.2.1) D4 hD4
            have FIN:Hid (D4.size=n/\Go.Sort.Below ltU a' mid D4/\pdq ltU D4 a' mid l1 (decide (b' - mid≥(b' - a') / 8)) ap=D):=⟨by rw [hq5.1]; exact HS.out,hq5.2.1,by rw [<- HE.out]; exact hq5.2.2.symm⟩
            have c5:¬ (lm:Int)<(rm:Int):=by omega
            obtain ⟨bal,hbal⟩:∃ bal,decide ((e8:Int)<=(rm:Int))=bal:=⟨_,rfl⟩
            have BE:Hid (decide (e8<=rm)=bal):=by
             show _=bal;rw [<- hbal];exact decide_eq_decide.2 ⟨λ h=>by omega,λ h=>by omega⟩
            have BAL:Hid (decide (b' - mid≥(b' - a') / 8)=bal):=by
             show _=bal;rw [<- hbal];exact decide_eq_decide.2 ⟨λ h=>by omega,λ h=>by omega⟩
            clear hq4 hq5 hD4 hbal;go_wp2_with fail;refine hc.mono ?_;rintro e w7 ⟨rfl,H10⟩;have hc2':=hc2 w7 H10.out.1;clear hc hc2;go_wp2_with fail;refine hc2'.mono ?_;rintro e w8 ⟨rfl,H11⟩;clear hc2';go_wp2;go_roundg (mid - a')
            case measure=>omega
            case rel=>exact ⟨a',mid,l1,bal,ap,rfl,rfl,rfl,(by first | rfl | exact congrArg Value.bool BE.out),rfl,by omega,by omega,by omega,by omega,by omega,D4,FIN.out.1,FIN.out.2.1,H11.out.1,(H9.out.2.2.trans H10.out.2 (λ _ _ q=>q)).trans H11.out.2 (λ _ _ q=>q),by rw [<- BAL.out]; exact FIN.out.2.2⟩
end Go.Proofs.YtjlokpjflgbgdaaGreat
