/-
  Several texts, laid together.
-/
import Derived.Test.YtjlokpjflgbgdaaGreatMC13
set_option maxHeartbeats 6400000
set_option maxRecDepth 100000
namespace Go.Proofs.YtjlokpjflgbgdaaGreat
open Go.RowKit
theorem close_one {w w3:World} {b2:Nat} (hb:Below w.heap.size w w3) (h2:w.heap.size<=b2) (v0 v1 v2 v3 v4 v5:Value) :
  Below w.heap.size w ((((((w3.setCell ⟨b2,0,none⟩ v0).setCell ⟨b2,1,none⟩ v1).setCell ⟨b2,2,none⟩ v2).setCell ⟨b2,3,none⟩ v3).setCell ⟨b2,4,none⟩ v4).setCell ⟨b2,5,none⟩ v5):=by
 have t:Turned (λ i=>i=b2) w3 ((((((w3.setCell ⟨b2,0,none⟩ v0).setCell ⟨b2,1,none⟩ v1).setCell ⟨b2,2,none⟩ v2).setCell ⟨b2,3,none⟩ v3).setCell ⟨b2,4,none⟩ v4).setCell ⟨b2,5,none⟩ v5) :=
  (((((((Turned.refl (λ i=>i=b2) w3).setCell (p:=⟨b2,0,none⟩) (.inl rfl) v0).setCell (p:=⟨b2,1,none⟩) (.inl rfl) v1).setCell (p:=⟨b2,2,none⟩) (.inl rfl) v2).setCell (p:=⟨b2,3,none⟩) (.inl rfl) v3).setCell (p:=⟨b2,4,none⟩) (.inl rfl) v4).setCell (p:=⟨b2,5,none⟩) (.inl rfl) v5)
 exact hb.trans (t.below hb.size (λ i hi q=>by omega))
theorem RVS.below {S:Nat->Prop} {w w':World} {v:Value} {d:Dk} (h:RVS S w v d) (hb:Below w.heap.size w w'):RVS S w' v d:=by
 obtain ⟨ao,L,c,e,h1,h2,h3,h4⟩:=h;exact ⟨ao,L,c,e,h1,h2,h3.below hb,h4⟩
section
variable {S:Nat->Prop} {ao:Option Addr} {L c:Nat} {d:Dk} {w:World}
theorem rlay_bad (n own more:Bs) (hn:isName n=false) (hnl:n.length<=140737488355328) :
  Calls Tryz.prog 135 #[rv ao L c d,tx n,tx own,tx more] w λ e w'=>e=.returned (.tuple #[rv ao L c d,.int .i64 2])/\Below w.heap.size w w':=by
 have hnm:=λ W=>rname_any ⟨n.toArray⟩ (by rw [str_size]; omega) W
 rw [show (⟨n.toArray⟩:ByteArray).data.toList=n from rfl,hn] at hnm;unfold rv;go_enter Tryz.func135,Tryz.ntmps135;go_wp2_with fail;refine (hnm _).mono ?_;rintro e w1 ⟨rfl,hw1⟩;rw [hw1];clear hw1 w1 hnm;go_wp2;refine bodyPost_ret (v:=.tuple #[.agg #[.slice ao L c,.int .i64 (d.writes:Int),.bool d.armed,.bool d.dead,.int .i64 (d.after:Int),.int .i64 (d.keep:Int)],.int .i64 2]) ?_ rfl ⟨rfl,bz2 _ _ _⟩;simp [results,Tryz.f135];go_simp
theorem rlay_over (n own more:Bs) (hn:isName n=true) (hnl:n.length<=140737488355328) (ho:own.length<=262144) (hm:more.length<=140737488355328) (hsum:262144<own.length+more.length) :
  Calls Tryz.prog 135 #[rv ao L c d,tx n,tx own,tx more] w λ e w'=>e=.returned (.tuple #[rv ao L c d,.int .i64 7])/\Below w.heap.size w w':=by
 have hnm:=λ W=>rname_any ⟨n.toArray⟩ (by rw [str_size]; omega) W
 rw [show (⟨n.toArray⟩:ByteArray).data.toList=n from rfl,hn] at hnm
 have p1:decide ((262144:Int)<((own.length:Nat):Int)+((more.length:Nat):Int))=true:=by rw [decide_eq_true_eq]; omega
 unfold rv;go_enter Tryz.func135,Tryz.ntmps135;go_wp2_with fail;refine (hnm _).mono ?_;rintro e w1 ⟨rfl,hw1⟩;rw [hw1];clear hw1 w1 hnm;go_wp2;refine bodyPost_ret (v:=.tuple #[.agg #[.slice ao L c,.int .i64 (d.writes:Int),.bool d.armed,.bool d.dead,.int .i64 (d.after:Int),.int .i64 (d.keep:Int)],.int .i64 7]) ?_ rfl ⟨rfl,bz2 _ _ _⟩;simp [results,Tryz.f135];go_simp
theorem two_blocks (w:World) (a0 a1 a2 a3 a4 a5 b0 b1 b2 b3 b4 b5:Value):Six ((w.alloc (.cells #[a0,a1,a2,a3,a4,a5] 28)).alloc (.cells #[b0,b1,b2,b3,b4,b5] 28)) w.heap.size a0 a1 a2 a3 a4 a5/\Six ((w.alloc (.cells #[a0,a1,a2,a3,a4,a5] 28)).alloc (.cells #[b0,b1,b2,b3,b4,b5] 28)) (w.heap.size+1) b0 b1 b2 b3 b4 b5:=by
 refine ⟨(Six.new w _ _ _ _ _ _).below (bz1 _ _),?_⟩;have:=Six.new (w.alloc (.cells #[a0,a1,a2,a3,a4,a5] 28)) b0 b1 b2 b3 b4 b5;rw [show (w.alloc (.cells #[a0,a1,a2,a3,a4,a5] 28)).heap.size=w.heap.size+1 by simp] at this;exact this
theorem rlay_many (hR:RdG encF w ao d.files) (hL:d.files.length=L) (hl:L<=1000) (n own more:Bs) (hn:isName n=true) (hnl:n.length<=140737488355328) (hsum:own.length+more.length<=262144) (hf:fget d.files n=none) (h32:32<=L) :
  Calls Tryz.prog 135 #[rv ao L c d,tx n,tx own,tx more] w λ e w'=>e=.returned (.tuple #[rv ao L c d,.int .i64 7])/\Below w.heap.size w w':=by
 have hnm:=λ W=>rname_any ⟨n.toArray⟩ (by rw [str_size]; omega) W
 rw [show (⟨n.toArray⟩:ByteArray).data.toList=n from rfl,hn] at hnm
 have p1:decide ((262144:Int)<((own.length:Nat):Int)+((more.length:Nat):Int))=false:=by rw [decide_eq_false_iff_not]; omega
 have p2:decide ((32:Int)<=(L:Int))=true:=by rw [decide_eq_true_eq]; omega
 have ol:own.length<=262144:=by omega
 have ml:more.length<=262144:=by omega
 obtain ⟨W,hW⟩:∃ W,(w.alloc (.cells #[.slice ao L c,.int .i64 (d.writes:Int),.bool d.armed,.bool d.dead,.int .i64 (d.after:Int),.int .i64 (d.keep:Int)] 28)).alloc (.cells #[.slice none 0 0,.int .i64 0,.bool false,.bool false,.int .i64 0,.int .i64 0] 28)=W:=⟨_,rfl⟩
 have T:=two_blocks w (.slice ao L c) (.int .i64 (d.writes:Int)) (.bool d.armed) (.bool d.dead) (.int .i64 (d.after:Int)) (.int .i64 (d.keep:Int)) (.slice none 0 0) (.int .i64 0) (.bool false) (.bool false) (.int .i64 0) (.int .i64 0);rw [hW] at T
 have B0:Below w.heap.size w W:=by rw [<- hW]; exact bz2 _ _ _
 have hat:=at_none (c:=c) d n W (hR.below B0) hL hl hf
 obtain ⟨x0,x1,x2,x3,x4,x5⟩:=T.1.cells
 have H:Hid (Below w.heap.size w W/\Six W w.heap.size (.slice ao L c) (.int .i64 (d.writes:Int)) (.bool d.armed) (.bool d.dead) (.int .i64 (d.after:Int)) (.int .i64 (d.keep:Int))/\Six W (w.heap.size+1) (.slice none 0 0) (.int .i64 0) (.bool false) (.bool false) (.int .i64 0) (.int .i64 0)):=⟨B0,T.1,T.2⟩
 clear hR hL hf T B0;go_enter Tryz.func135,Tryz.ntmps135;go_wp2_with fail;refine (hnm _).mono ?_;rintro e w1 ⟨rfl,hw1⟩;rw [hw1];clear hw1 w1 hnm;go_wp2_with fail;refine hat.mono ?_;rintro e w1 ⟨rfl,B1⟩;clear x0 x1 x2 x3 x4 x5;obtain ⟨x0,x1,x2,x3,x4,x5⟩:=(H.out.2.1.below B1).cells;obtain ⟨y0,y1,y2,y3,y4,y5⟩:=(H.out.2.2.below B1).cells;obtain ⟨f0,f1,f2,f3,f4,f5⟩:=(H.out.2.2.below B1).thaw;have BB:Hid (Below w.heap.size w w1):=H.out.1.trans (B1.mono H.out.1.size);clear B1 hat;go_wp2;refine bodyPost_ret (v:=.tuple #[rv ao L c d,.int .i64 7]) ?_ rfl ⟨rfl,close_one BB.out (by omega) _ _ _ _ _ _⟩;simp [results,Tryz.f135];go_simp
theorem rlay_dead (hR:RdG encF w ao d.files) (hL:d.files.length=L) (hl:L<=1000) (n own more:Bs) (hn:isName n=true) (hnl:n.length<=140737488355328) (hsum:own.length+more.length<=262144) (hroom:fget d.files n≠none∨L<32) (hd:d.dead=true) :
  Calls Tryz.prog 135 #[rv ao L c d,tx n,tx own,tx more] w λ e w'=>e=.returned (.tuple #[rv ao L c d,.int .i64 8])/\Below w.heap.size w w':=by
 have hnm:=λ W=>rname_any ⟨n.toArray⟩ (by rw [str_size]; omega) W
 rw [show (⟨n.toArray⟩:ByteArray).data.toList=n from rfl,hn] at hnm
 have p1:decide ((262144:Int)<((own.length:Nat):Int)+((more.length:Nat):Int))=false:=by rw [decide_eq_false_iff_not]; omega
 have ol:own.length<=262144:=by omega
 have ml:more.length<=262144:=by omega
 obtain ⟨W,hW⟩:∃ W,(w.alloc (.cells #[.slice ao L c,.int .i64 (d.writes:Int),.bool d.armed,.bool d.dead,.int .i64 (d.after:Int),.int .i64 (d.keep:Int)] 28)).alloc (.cells #[.slice none 0 0,.int .i64 0,.bool false,.bool false,.int .i64 0,.int .i64 0] 28)=W:=⟨_,rfl⟩
 have T:=two_blocks w (.slice ao L c) (.int .i64 (d.writes:Int)) (.bool d.armed) (.bool d.dead) (.int .i64 (d.after:Int)) (.int .i64 (d.keep:Int)) (.slice none 0 0) (.int .i64 0) (.bool false) (.bool false) (.int .i64 0) (.int .i64 0);rw [hW] at T
 have B0:Below w.heap.size w W:=by rw [<- hW]; exact bz2 _ _ _
 have hat:Calls Tryz.prog 176 #[rv ao L c d,tx n] W λ e w'=>∃ r,e=.returned (.int .i64 r)/\((0<=r/\r<1000)∨(r = -1/\L<32))/\Below W.heap.size W w':=by
  cases e:fget d.files n with
  | none =>
   refine (at_none (c:=c) d n W (hR.below B0) hL hl e).mono ?_;rintro _ w' ⟨rfl,hb⟩;exact ⟨-1,rfl,.inr ⟨rfl,hroom.elim (λ q=>absurd e q) id⟩,hb⟩
  | some v =>
   refine (at_some (c:=c) d n W (hR.below B0) hL hl e).mono ?_;rintro _ w' ⟨i,rfl,hi,_,hb⟩;exact ⟨i,rfl,.inl ⟨by omega,by omega⟩,hb⟩
 obtain ⟨x0,x1,x2,x3,x4,x5⟩:=T.1.cells
 have H:Hid (Below w.heap.size w W/\Six W w.heap.size (.slice ao L c) (.int .i64 (d.writes:Int)) (.bool d.armed) (.bool d.dead) (.int .i64 (d.after:Int)) (.int .i64 (d.keep:Int))/\Six W (w.heap.size+1) (.slice none 0 0) (.int .i64 0) (.bool false) (.bool false) (.int .i64 0) (.int .i64 0)):=⟨B0,T.1,T.2⟩
 have hnx:=λ w1=>rnext_dead (ao:=ao) (L:=L) (c:=c) (w:=w1) hd
 have HD:Hid (d.dead=true):=hd;clear hR hL hroom T B0 hd;go_enter Tryz.func135,Tryz.ntmps135;go_wp2_with fail;refine (hnm _).mono ?_;rintro e w1 ⟨rfl,hw1⟩;rw [hw1];clear hw1 w1 hnm;go_wp2_with fail;refine hat.mono ?_;rintro e w1 ⟨r,rfl,hr,B1⟩;clear x0 x1 x2 x3 x4 x5;obtain ⟨x0,x1,x2,x3,x4,x5⟩:=(H.out.2.1.below B1).cells;have HB1:Hid (Below W.heap.size W w1):=B1;clear B1 hat
 rcases hr with ⟨r0,r1⟩ | ⟨rfl,rL⟩
 all_goals
  first
   | have p2:decide (r<0)=false:=by rw [decide_eq_false_iff_not]; omega
   | have p2:decide ((32:Int)<=(L:Int))=false:=by rw [decide_eq_false_iff_not]; omega
  go_wp2_with fail;refine (hnx w1).mono ?_;rintro e w2 ⟨rfl,B2⟩;have Y:=(H.out.2.2.below HB1.out).below B2;obtain ⟨y0,y1,y2,y3,y4,y5⟩:=Y.cells;obtain ⟨f0,f1,f2,f3,f4,f5⟩:=Y.thaw;have s2:w.heap.size+1<w2.heap.size:=((H.out.2.2.below HB1.out).below B2).lt
  have ne:w2.heap.size≠w.heap.size+1:=by omega
  have ne':w.heap.size+1≠w2.heap.size:=by omega
  have BB:Hid (Below w.heap.size w w2):=by
   have b1:=H.out.1.trans (HB1.out.mono H.out.1.size);exact b1.trans (B2.mono b1.size)
  clear B2 Y;go_wp2;have CL:=close_one BB.out (b2:=w.heap.size+1) (by omega) (.slice ao L c) (.int .i64 (d.writes:Int)) (.bool d.armed) (.bool d.dead) (.int .i64 (d.after:Int)) (.int .i64 (d.keep:Int));refine bodyPost_ret (v:=.tuple #[rv ao L c d,.int .i64 8]) ?_ rfl ⟨rfl,CL.trans ((bz1 _ _).mono CL.size)⟩;simp [results,Tryz.f135];go_simp
theorem rlay_any (hS:∀ i,S i->i<w.heap.size) {v:Value} (h:RVS S w v d) (hk:d.ok) (hw:d.writes<4611686018427387904) (n own more:Bs) (hnl:n.length<=140737488355328) (ho:own.length<=262144) (hm:more.length<=140737488355328) :
  Calls Tryz.prog 135 #[v,tx n,tx own,tx more] w λ e w'=>∃ v',e=.returned (.tuple #[v',.int .i64 (dlay d n own more).2])/\RVS S w' v' (dlay d n own more).1/\Below w.heap.size w w':=by
 obtain ⟨ao,L,c,rfl,hL,hc,hR,hF⟩:=h
 have same:∀ {w':World},Below w.heap.size w w'->RVS S w' (rv ao L c d) d:=λ hb=>⟨ao,L,c,rfl,hL,hc,hR.below hb,hF⟩
 have hl:L<=1000:=by have:=hk.few; omega
 unfold dlay;by_cases hn:isName n=false
 ·rw [if_pos hn];refine (rlay_bad n own more hn hnl).mono ?_;rintro e w' ⟨rfl,hb⟩;exact ⟨_,rfl,same hb,hb⟩
 ·rw [if_neg hn]
  have hn:isName n=true:=by simpa using hn
  by_cases hfull:262144<own.length+more.length∨(fget d.files n=none/\32<=d.files.length)
  ·rw [if_pos hfull];by_cases h1:262144<own.length+more.length
   ·refine (rlay_over n own more hn hnl ho hm h1).mono ?_;rintro e w' ⟨rfl,hb⟩;exact ⟨_,rfl,same hb,hb⟩
   ·obtain ⟨q1,q2⟩:=hfull.elim (λ q=>absurd q h1) id;refine (rlay_many hR hL hl n own more hn hnl (by omega) q1 (by omega)).mono ?_;rintro e w' ⟨rfl,hb⟩;exact ⟨_,rfl,same hb,hb⟩
  ·rw [if_neg hfull]
   have hsum:own.length+more.length<=262144:=by omega
   have hroom:fget d.files n≠none∨L<32:=by
    by_cases q:fget d.files n=none
    ·exact .inr (by have:¬ 32<=d.files.length:=λ r=>hfull (.inr ⟨q,r⟩); omega)
    ·exact .inl q
   by_cases hd:d.dead=true
   ·rw [dnext_dead hd];refine (rlay_dead hR hL hl n own more hn hnl hsum hroom hd).mono ?_;rintro e w' ⟨rfl,hb⟩;exact ⟨_,rfl,same hb,hb⟩
   ·have hd:d.dead=false:=by simpa using hd
    by_cases hto:d.armed=true/\d.after=0
    ·have e:=dnext_torn hd hto.1 hto.2
     have e1:(dnext d).2.1=false:=by rw [e]
     have e2:(dnext d).2.2=true:=by rw [e]
     rw [if_neg (by rw [e1]; simp),if_pos e2];by_cases hkm:d.keep<more.length
     ·exact rlay_torn1 hS hR hL hk hw n own more hn hnl hsum hroom e1 e2 hkm
     ·exact rlay_torn2 hS hR hL hk hw n own more hn hnl hsum hroom e1 e2 (by omega)
    ·have hdo:(dnext d).2.1=true/\(dnext d).2.2=false:=by
      by_cases ha:d.armed=true
      ·rw [dnext_armed hd ha (λ q=>hto ⟨ha,q⟩)]; exact ⟨rfl,rfl⟩
      ·rw [dnext_plain hd (by simpa using ha)]; exact ⟨rfl,rfl⟩
     rw [if_pos hdo.1];exact rlay_done hS hR hL hk hw n own more hn hnl hsum hroom hdo.1 hdo.2
end
end Go.Proofs.YtjlokpjflgbgdaaGreat

namespace Go.Proofs.YtjlokpjflgbgdaaGreat
open Go.RowKit
theorem RVS.laid {S:Nat->Prop} {w1:World} {ao:Option Addr} {L c:Nat} {d:Dk} (h:RVS S w1 (rv ao L c d) d) (b:Nat) (hF:RdG encF w1 ao d.files->0<L->∀ p,ao=some p->p.block≠b) (v0 v1 v2 v3 v4 v5:Value) :
  RVS S ((((((w1.setCell ⟨b,0,none⟩ v0).setCell ⟨b,1,none⟩ v1).setCell ⟨b,2,none⟩ v2).setCell ⟨b,3,none⟩ v3).setCell ⟨b,4,none⟩ v4).setCell ⟨b,5,none⟩ v5) (rv ao L c d) d:=by
 have t:Turned (λ i=>i=b) w1 ((((((w1.setCell ⟨b,0,none⟩ v0).setCell ⟨b,1,none⟩ v1).setCell ⟨b,2,none⟩ v2).setCell ⟨b,3,none⟩ v3).setCell ⟨b,4,none⟩ v4).setCell ⟨b,5,none⟩ v5) :=
  (((((((Turned.refl (λ i=>i=b) w1).setCell (p:=⟨b,0,none⟩) (.inl rfl) v0).setCell (p:=⟨b,1,none⟩) (.inl rfl) v1).setCell (p:=⟨b,2,none⟩) (.inl rfl) v2).setCell (p:=⟨b,3,none⟩) (.inl rfl) v3).setCell (p:=⟨b,4,none⟩) (.inl rfl) v4).setCell (p:=⟨b,5,none⟩) (.inl rfl) v5)
 obtain ⟨a',L',c',e,h1,h2,h3,h4⟩:=h
 obtain ⟨rfl,rfl,rfl⟩:ao=a'/\L=L'/\c=c':=by simpa [rv] using e
 exact ⟨ao,L,c,rfl,h1,h2,h3.turned t (λ h0 p hp q=>hF h3 (by omega) p hp q),h4⟩
theorem Six.not_files {w:World} {B:Nat} {a0 a1 a2 a3 a4 a5:Value} (h:Six w B a0 a1 a2 a3 a4 a5) (h1:∀ n,a1≠tx n) (h0:∀ n,a0≠tx n) (h2:∀ n,a2≠tx n) (h3:∀ n,a3≠tx n) (h4:∀ n,a4≠tx n) (h5:∀ n,a5≠tx n) {ao:Option Addr} {fs:Fs} (hR:RdG encF w ao fs) (hl:0<fs.length):∀ p,ao=some p->p.block≠B:=by
 intro p hp e;obtain ⟨b,off,rfl,hlt,hc⟩:=hR hl;cases hp;have c0:=hc 0 fs[0] (List.getElem?_eq_getElem hl) 0 (tx fs[0].1) rfl;have e':b=B:=e;subst e';unfold Six at h;simp [World.cell?,h] at c0
 have:off+(0*encF.size+0)=off:=by omega
 rcases off with _ | _ | _ | _ | _ | _ | off
 ·exact h0 _ (by simpa using c0)
 ·exact h1 _ (by simpa using c0)
 ·exact h2 _ (by simpa using c0)
 ·exact h3 _ (by simpa using c0)
 ·exact h4 _ (by simpa using c0)
 ·exact h5 _ (by simpa using c0)
 ·simp at c0
section
variable {S:Nat->Prop} {d:Dk} {w:World}
theorem rapp_any (hS:∀ i,S i->i<w.heap.size) {v:Value} (h:RVS S w v d) (hk:d.ok) (hw:d.writes<4611686018427387904) (n more:Bs) (hnl:n.length<=140737488355328) (hm:more.length<=140737488355328) :
  Calls Tryz.prog 64 #[v,tx n,tx more] w λ e w'=>∃ v',e=.returned (.tuple #[v',.int .i64 (dapp d n more).2])/\RVS S w' v' (dapp d n more).1/\Below w.heap.size w w':=by
 have h':=h;obtain ⟨ao,L,c,rfl,hL,hc,hR,hF⟩:=h
 obtain ⟨W,hW⟩:∃ W,(w.alloc (.cells #[.slice ao L c,.int .i64 (d.writes:Int),.bool d.armed,.bool d.dead,.int .i64 (d.after:Int),.int .i64 (d.keep:Int)] 28)).alloc (.cells #[.slice none 0 0,.int .i64 0,.bool false,.bool false,.int .i64 0,.int .i64 0] 28)=W:=⟨_,rfl⟩
 have T:=two_blocks w (.slice ao L c) (.int .i64 (d.writes:Int)) (.bool d.armed) (.bool d.dead) (.int .i64 (d.after:Int)) (.int .i64 (d.keep:Int)) (.slice none 0 0) (.int .i64 0) (.bool false) (.bool false) (.int .i64 0) (.int .i64 0);rw [hW] at T
 have B0:Below w.heap.size w W:=by rw [<- hW]; exact bz2 _ _ _
 obtain ⟨own,hown⟩:∃ own,(fget d.files n).getD []=own:=⟨_,rfl⟩
 have hol:own.length<=262144:=by
  rw [<- hown]
  cases e:fget d.files n with
  | none=>simp
  | some b=>exact hk.get e
 have hl:L<=1000:=by have:=hk.few; omega
 have hdata:∀ W',Below W.heap.size W W'->Calls Tryz.prog 117 #[rv ao L c d,tx n] W' λ e w'=>e=.returned (tx own)/\Below W'.heap.size W' w':=by
  intro W' hB
  cases e:fget d.files n with
  | none=>rw [e] at hown; cases hown; exact data_none d n W' ((hR.below B0).below hB) hL hl e
  | some b=>rw [e] at hown; cases hown; exact data_some d n W' ((hR.below B0).below hB) hL hl e
 have hlay:∀ W',Below W.heap.size W W'->Calls Tryz.prog 135 #[rv ao L c d,tx n,tx own,tx more] W' λ e w'=>∃ v',e=.returned (.tuple #[v',.int .i64 (dapp d n more).2])/\RVS S w' v' (dapp d n more).1/\Below W'.heap.size W' w':=by
  intro W' hB;have:=rlay_any (w:=W') (λ i hi=>Nat.lt_of_lt_of_le (hS i hi) (Nat.le_trans B0.size hB.size)) (RVS.below (RVS.below h' B0) hB) hk hw n own more hnl hol hm;rw [<- hown] at this ⊢;exact this
 have HC:Hid (_/\_):=And.intro hdata hlay
 obtain ⟨P,hP⟩:∃ P,dapp d n more=P:=⟨_,rfl⟩
 have H:Hid (Below w.heap.size w W/\Six W w.heap.size (.slice ao L c) (.int .i64 (d.writes:Int)) (.bool d.armed) (.bool d.dead) (.int .i64 (d.after:Int)) (.int .i64 (d.keep:Int))/\Six W (w.heap.size+1) (.slice none 0 0) (.int .i64 0) (.bool false) (.bool false) (.int .i64 0) (.int .i64 0)):=⟨B0,T.1,T.2⟩
 rw [hP] at HC ⊢;obtain ⟨x0,x1,x2,x3,x4,x5⟩:=T.1.cells;clear hR hL hF T B0 h' hS hP hdata hlay hown;go_enter Tryz.func64,Tryz.ntmps64;go_wp2_with fail
 go_region_held3 (λ u=>u.cell? ⟨w.heap.size,0,none⟩=some (.slice ao L c)/\u.cell? ⟨w.heap.size,1,none⟩=some (.int .i64 (d.writes:Int))/\u.cell? ⟨w.heap.size,2,none⟩=some (.bool d.armed)/\u.cell? ⟨w.heap.size,3,none⟩=some (.bool d.dead)/\u.cell? ⟨w.heap.size,4,none⟩=some (.int .i64 (d.after:Int))/\u.cell? ⟨w.heap.size,5,none⟩=some (.int .i64 (d.keep:Int))) (go_keep)
  (first
   | (go_at_call 135; refine (HC.out.2 _ K1.out).mono ?_; rintro e w2 ⟨v',rfl,R2,B2⟩; have R2':Hid (RVS S w2 v' P.1):=R2; obtain ⟨a1,L1,c1,rfl,e1,e2,e3,e4⟩:=R2; have Y:=(H.out.2.2.below K1.out).below B2; obtain ⟨y0,y1,y2,y3,y4,y5⟩:=Y.cells; obtain ⟨f0,f1,f2,f3,f4,f5⟩:=Y.thaw; have xx2:=((H.out.2.1.below K1.out).below B2).cells; have K2:Hid (Below w1.heap.size w1 w2):=B2; clear B2 Y e3 e4)
   | (go_at_call 117; refine (HC.out.1 W.drew ⟨rfl,rfl,rfl,Nat.le_refl _,λ _ _=>rfl⟩).mono ?_; rintro e w1 ⟨rfl,B1⟩; have K1:Hid (Below W.heap.size W w1):=⟨B1.os,B1.tape,B1.output,B1.size,B1.block⟩; have xx1:=(H.out.2.1.below K1.out).cells; clear B1))
 have BB:Below w.heap.size w w2:=by
  have b1:=H.out.1.trans (K1.out.mono H.out.1.size);exact b1.trans (K2.out.mono b1.size)
 have CL:=close_one BB (b2:=w.heap.size+1) (by omega) (.slice a1 L1 c1) (.int .i64 (P.1.writes:Int)) (.bool P.1.armed) (.bool P.1.dead) (.int .i64 (P.1.after:Int)) (.int .i64 (P.1.keep:Int));have RR:=RVS.laid R2'.out (w.heap.size+1) (λ q h0=>((H.out.2.2.below K1.out).below K2.out).not_files (λ _ q=>by cases q) (λ _ q=>by cases q) (λ _ q=>by cases q) (λ _ q=>by cases q) (λ _ q=>by cases q) (λ _ q=>by cases q) q (by omega)) (.slice a1 L1 c1) (.int .i64 (P.1.writes:Int)) (.bool P.1.armed) (.bool P.1.dead) (.int .i64 (P.1.after:Int)) (.int .i64 (P.1.keep:Int));have C:Hid _:=And.intro RR CL;clear BB CL RR;go_wp2;refine bodyPost_ret (v:=.tuple #[rv a1 L1 c1 P.1,.int .i64 P.2]) ?_ rfl ⟨_,rfl,C.out.1,C.out.2⟩;simp [results,Tryz.f64];go_simp
end
end Go.Proofs.YtjlokpjflgbgdaaGreat

namespace Go.Proofs.YtjlokpjflgbgdaaGreat
open Go.RowKit
section
variable {S:Nat->Prop} {ao:Option Addr} {L c:Nat} {d:Dk} {w:World}
end
end Go.Proofs.YtjlokpjflgbgdaaGreat

namespace Go.Proofs.YtjlokpjflgbgdaaGreat
open Go.RowKit
section
variable {S:Nat->Prop} {ao:Option Addr} {L c:Nat} {d:Dk} {w:World}
end
end Go.Proofs.YtjlokpjflgbgdaaGreat

namespace Go.Proofs.YtjlokpjflgbgdaaGreat
open Go.RowKit
section
variable {S:Nat->Prop} {ao:Option Addr} {L c:Nat} {d:Dk} {w:World}
end
end Go.Proofs.YtjlokpjflgbgdaaGreat
