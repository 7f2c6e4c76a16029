import PyProof.Rows.All
import Wide.All
import OpenK.AllK
import Wide.FinOn
import HandS.WordsList
import HandS.Exc
import HandS.ExcInit
import KE.KExcIs
import HandS.ForMost
import HandS.ForExc
import HandS.IsInst
import HandS.Wide
import HandS.EndBits
import KE.GoesEnum
import HandS.TryOnly
import HandS.Iter
import HandS.Property
import HandS.Deep
import HandS.ExcField
import HandS.ExcCtx
import HandS.HotCalls
import HandS.ExcInitHot
import PySem.Challenge.RW_methodworlds_k00_errors
import HandS.ExcIs
set_option Elab.async false
set_option linter.all false
set_option maxRecDepth 100000
set_option maxHeartbeats 4000000
/-! Own exception classes over Exception whose __init__ stores fields: made, stored to, asked by isinstance. -/
namespace Mw
open PySem PySem.Spec PyProof.Rows L2
open PySem.Builtin PySem.Builtin.ObjectAttr
abbrev St := L2.St
abbrev tlEx : List Value := [.type "Exception", .type "BaseException", .type "object"]
theorem tl_pass (self : Value) : ∀ cs : List Addr, refuseLoop self "__setattr__" (cs.map Value.ref ++ tlEx) = pure ()
  | [] => F.store_Exception.passes self
  | c :: cs => (refuseLoop_ref ..).trans (tl_pass self cs)
theorem tl_has (X : String) : ∀ cs : List Addr, (cs.map Value.ref ++ tlEx).contains (.type X) = tlEx.contains (.type X)
  | [] => rfl
  | c :: cs => by
    show ((Value.ref c) :: (cs.map Value.ref ++ tlEx)).contains (.type X) = _
    rw [List.contains_cons, tl_has X cs]; rfl
theorem tl_ne : ∀ cs : List Addr, (cs.map Value.ref ++ tlEx).isEmpty = false
  | [] => rfl
  | _ :: _ => rfl
section
variable {prog : Program} {w : World} {A : Around} {R : Result → Shared → Prop} {hp : Heap} {g : Array GenState} {d : Drawn} {t : Nat} {os : OsState}
theorem ex_osa {K : W.Frag} {fld : Str} {tk : Tok} {u : Value} {x C : Addr} {fv : Array Value} {cd : ClassData} {cs : List Addr}
    (KX : K.In hp) (hx : hp.get? x = some { cls := .ref C, data := .fields fv }) (hcd : W.clsIn K C = some cd) (hm : cd.mro = cs.map Value.ref ++ tlEx) (hh : cd.hasDict = true) (hno : W.findIn K (.ref C) fld = some none)
    (hq : ∀ h' tk' dx, (∀ b o, b ≠ x → hp.get? b = some o → h'.get? b = some o) → hp.objs.size ≤ dx → dx ≠ x → h'.get? x = some { cls := .ref C, dict := some dx, data := .fields fv } →
      h'.Ns1 dx (fun y => if y = fld then some u else none) → R (.ok (.ret .none)) ⟨h', g, d, tk', os⟩) :
    codeAny (model prog w) A (.call (.builtin "object.__setattr__") ⟨[.ref x, .str fld tk, u], []⟩) R ⟨hp, g, d, t, os⟩ := by
  have I0 : W.InstAt hp x { cls := .ref C, data := .fields fv } C none := ⟨hx, rfl, rfl, trivial⟩
  have S0 := F.store_object
  have hne : cd.mro.isEmpty = false := by rw [hm]; exact tl_ne cs
  have hob0 : cd.mro.contains (.type "object") = true := by rw [hm, tl_has]; decide +kernel
  have xne : x ≠ hp.objs.size := Nat.ne_of_lt (Heap.lt_size hx)
  have sub0 : W.Looks (model prog w) hp (isInstance (.ref x) (.type "object")) true := I0.type.andThen (W.looks_mroIn KX (by unfold W.mroIn; rw [hcd, Option.bind_some, if_neg (by rw [hne]; decide), hob0]))
  refine codeAny_call_builtin S0.slot.plain S0.entry (@W.check_slot (model prog w) _ _ ⟨hp, g, d, t, os⟩ "object.__setattr__" "object" "__setattr__" (.ref x) [.str fld tk, u] [] _ S0.kind S0.split sub0 (S0.args (.ref x) (.str fld tk) u) ?_)
  have mr0 : W.Looks (model prog w) hp (mroOf (.ref C)) cd.mro := (W.looks_clsIn KX hcd).andThen .now
  have st0 : W.Looks (model prog w) hp (storeTaker? none) none := .now
  have cl0 : W.Looks (model prog w) hp (classData C) cd := W.looks_clsIn KX hcd
  rw [W.osa_eq, refuse_eq]
  refine wpAny_bind (wpAny_bind (I0.type.at (wpAny_bind (mr0.at ?_))))
  rw [hm, tl_pass _ cs]
  refine wpAny_pure (wpAny_bind (I0.type.at (wpAny_bind ((W.looks_findIn KX hno).at (wpAny_bind (st0.at ?_))))))
  show wpAny _ _ (storeInOwnDict (.ref x) (.ref C) (.str fld tk) fld u false) _ _ _
  obtain ⟨c1, c2, c3, c4, c5, c6, c7, c8, c9, c10, c11⟩ := cd
  dsimp only at hh
  subst hh
  unfold storeInOwnDict ownDictForStores
  repeat (first | with_reducible refine PySem.HandSPX.store_in_new ?_ ?_ | with_reducible refine wpAny_loadPart_at hx ?_ | with_reducible refine cl0.at ?_ | wp_step)
  · exact ⟨_, #[], _, (Heap.get?_update_ne _ _ _ _ xne.symm).trans (Heap.get?_push_at rfl rfl), rfl, fun e he => absurd he (by simp), fun _ => rfl⟩
  · intro h' tk' ns' sb
    have hx1 : (hp.push { cls := .type "dict", data := .dict #[] }).get? x = some { cls := .ref C, data := .fields fv } := Heap.get?_push_of_some _ hx
    refine hq h' tk' hp.objs.size (fun b o hb ho => ?_) (Nat.le_refl _) xne.symm ?_ ns'
    · exact (sb.2 b (Nat.ne_of_lt (Heap.lt_size ho))).trans ((Heap.get?_update_ne _ _ _ _ hb).trans (Heap.get?_push_of_some _ ho))
    · exact (sb.2 x xne).trans (Heap.get?_update_self _ hx1 rfl)
theorem ex_osa2 {K : W.Frag} {fld : Str} {tk : Tok} {u : Value} {x C dx : Addr} {fv : Array Value} {cd : ClassData} {cs : List Addr} {m0 : Str → Option Value} {nl : List Str}
    (KX : K.In hp) (hx : hp.get? x = some { cls := .ref C, dict := some dx, data := .fields fv }) (hns : hp.Ns1 dx m0) (hw : Within m0 nl) (hz : nl.length ≤ 1000) (hcd : W.clsIn K C = some cd) (hm : cd.mro = cs.map Value.ref ++ tlEx) (hh : cd.hasDict = true)
    (hno : W.findIn K (.ref C) fld = some none)
    (hq : ∀ h' tk', (∀ b o, b ≠ dx → hp.get? b = some o → h'.get? b = some o) → h'.Ns1 dx (fun y => if y = fld then some u else m0 y) → R (.ok (.ret .none)) ⟨h', g, d, tk', os⟩) :
    codeAny (model prog w) A (.call (.builtin "object.__setattr__") ⟨[.ref x, .str fld tk, u], []⟩) R ⟨hp, g, d, t, os⟩ := by
  obtain ⟨oD, eD, pD, hoD, hdD, hcD⟩ := hns.count hw
  have I0 : W.InstAt hp x { cls := .ref C, dict := some dx, data := .fields fv } C (some oD) := ⟨hx, rfl, rfl, hoD⟩
  have S0 := F.store_object
  have hne : cd.mro.isEmpty = false := by rw [hm]; exact tl_ne cs
  have hob0 : cd.mro.contains (.type "object") = true := by rw [hm, tl_has]; decide +kernel
  have sub0 : W.Looks (model prog w) hp (isInstance (.ref x) (.type "object")) true := I0.type.andThen (W.looks_mroIn KX (by unfold W.mroIn; rw [hcd, Option.bind_some, if_neg (by rw [hne]; decide), hob0]))
  refine codeAny_call_builtin S0.slot.plain S0.entry (@W.check_slot (model prog w) _ _ ⟨hp, g, d, t, os⟩ "object.__setattr__" "object" "__setattr__" (.ref x) [.str fld tk, u] [] _ S0.kind S0.split sub0 (S0.args (.ref x) (.str fld tk) u) ?_)
  have mr0 : W.Looks (model prog w) hp (mroOf (.ref C)) cd.mro := (W.looks_clsIn KX hcd).andThen .now
  have st0 : W.Looks (model prog w) hp (storeTaker? none) none := .now
  have cl0 : W.Looks (model prog w) hp (classData C) cd := W.looks_clsIn KX hcd
  rw [W.osa_eq, refuse_eq]
  refine wpAny_bind (wpAny_bind (I0.type.at (wpAny_bind (mr0.at ?_))))
  rw [hm, tl_pass _ cs]
  refine wpAny_pure (wpAny_bind (I0.type.at (wpAny_bind ((W.looks_findIn KX hno).at (wpAny_bind (st0.at ?_))))))
  show wpAny _ _ (storeInOwnDict (.ref x) (.ref C) (.str fld tk) fld u false) _ _ _
  obtain ⟨c1, c2, c3, c4, c5, c6, c7, c8, c9, c10, c11⟩ := cd
  dsimp only at hh
  subst hh
  unfold storeInOwnDict ownDictForStores
  repeat (first | with_reducible refine PySem.OEX.store_in_old hns hw hz ?_ | with_reducible refine wpAny_loadPart_at hx ?_ | with_reducible refine cl0.at ?_ | wp_step)
  intro h' tk' ns' sb
  exact hq h' tk' (fun b o hb ho => (sb.2 b hb).trans ho) ns'
end
/-- what the written part says of such a class -/
structure ExM (K : PySem.W.Frag) (C : Addr) : Prop where
  cls : ∃ nm q N bs cs sn sub ab col dd k0 k1 k2 k3 k5, K.lookup C = some (excClassObj nm q C N bs ((cs : List Addr).map Value.ref ++ tlEx) true sn sub ab col dd k0 k1 k2 k3 k5 "Exception.__new__")
  sa : PySem.W.findIn K (.ref C) "__setattr__" = some (some (.builtin "object.__setattr__"))
  exC : PySem.W.subIn K (.ref C) (.type "BaseException") = some true
  tyC : PySem.W.typeIn K (.ref C) = some (.type "type")
  kC : PySem.W.keepIn K (.ref C) = true
section
variable {X : Cx} {pins : List (Addr × Obj)} {σ : St} {H : Hp} {s : Shared} {a C dx : Addr} {f : Str} {y : V} {u : Value} {fs : List (Str × V)} {Q : Unit → Shared → Prop} {E : Value → Shared → Prop} {A : Around}
theorem put_new (T : ExM X.K C) (I : Inv X pins σ H s) (e : H a = some (exo a C none)) (hno : PySem.W.findIn X.K (.ref C) f = some none) (ry : RelV y u)
    (h : ∀ dx s', H dx = none → dx ≠ a → Inv X pins σ (upd (upd H dx (exd dx [(f, y)])) a (exo a C (some dx))) s' → Q () s') : wpAny (model X.prog X.w) A (setAttr (.ref a) f u) Q E s := by
  obtain ⟨nm, q, N, bs, cs, sn, sub, ab, col, dd, k0, k1, k2, k3, k5, hC⟩ := T.cls
  have hcl : PySem.W.clsIn X.K C = some { name := nm, bases := bs, mro := .ref C :: (cs.map Value.ref ++ tlEx), ns := N, qualname := q, hasDict := true, slotNames := sn, subclasses := sub, abstract := ab, collection := col, hasDel := false } := by
    unfold PySem.W.clsIn; rw [hC] <;> rfl
  obtain ⟨t1, ho⟩ := exo_at I.hok e
  obtain ⟨hp, g, d, t, os⟩ := s
  refine PySem.W.set_plain I.kIn (ox := { cls := .ref C, dict := none, data := .fields #[.ref t1, .none, .none, .none, .bool false, .none] }) (od := none) ⟨ho, rfl, rfl, trivial⟩ T.sa ?_
  refine ex_osa (cs := C :: cs) I.kIn ho hcl rfl rfl hno (fun h' tk' dx k dn dne hx hn => ?_)
  have hnd : H dx = none := I.hok.fresh dn
  have nd : ∀ {b : Addr} {o : Obj}, hp.get? b = some o → b ≠ dx := fun {b o} z => Nat.ne_of_lt (Nat.lt_of_lt_of_le (Heap.lt_size z) dn)
  have na : ∀ {b : Addr}, H b = none → b ≠ a := fun {b} n z => by rw [z, e] at n; cases n
  have U1 : Un X.fs [] H (upd (upd H dx (exd dx [(f, y)])) a (exo a C (some dx))) hp h' :=
    ⟨fun b o z n _ _ => k b o (na n) z, fun b o z n _ _ => ⟨o.slots, k b o (na n) z⟩, fun b o z n _ => (upd_ne (na n)).trans ((upd_ne (nd z)).trans n),
      fun b o z _ => by
        by_cases hb : b = a
        · exact ⟨_, hb ▸ hx⟩
        · exact ⟨o, k b o hb z⟩,
      fun b xs z => (upd_ne (at_ne e z exo_tup)).trans ((upd_ne (ne_of_none z hnd)).trans z), fun b o v z => (upd_ne (at_ne e z exo_frz)).trans ((upd_ne (ne_of_none z hnd)).trans z),
      fun b ps z => ⟨#[], by rw [upd_ne (at_ne e z exo_tbl), upd_ne (ne_of_none z hnd), z]; simp⟩⟩
  refine h dx _ hnd dne (I.un (t' := tk') U1 fun b o z => ?_)
  by_cases hb : b = a
  · subst hb; rw [upd_same] at z; cases z; exact exo_ok hx
  · rw [upd_ne hb] at z
    by_cases hd : b = dx
    · subst hd; rw [upd_same] at z; cases z; exact exd_ok hn (relO_put (fs := []) ry fun g => True.intro)
    · rw [upd_ne hd] at z
      refine (I.hok b o z).stay (fun c v hc zz => k c v ?_ zz) (fun c hc => (upd_ne (at_ne e hc exo_own)).trans ((upd_ne (ne_of_none hc hnd)).trans hc)) (fun c xs hc => (upd_ne (at_ne e hc exo_tup)).trans ((upd_ne (ne_of_none hc hnd)).trans hc))
      rcases hc with hc | hc
      · exact hc ▸ hb
      · exact at_ne e hc exo_own
theorem put_old (T : ExM X.K C) (I : Inv X pins σ H s) (e : H a = some (exo a C (some dx))) (ed : H dx = some (exd dx fs)) (hl : fs.length ≤ 900) (hno : PySem.W.findIn X.K (.ref C) f = some none) (ry : RelV y u)
    (h : ∀ s', Inv X pins σ (upd H dx (exd dx ((f, y) :: fs))) s' → Q () s') : wpAny (model X.prog X.w) A (setAttr (.ref a) f u) Q E s := by
  obtain ⟨nm, q, N, bs, cs, sn, sub, ab, col, dd, k0, k1, k2, k3, k5, hC⟩ := T.cls
  have hcl : PySem.W.clsIn X.K C = some { name := nm, bases := bs, mro := .ref C :: (cs.map Value.ref ++ tlEx), ns := N, qualname := q, hasDict := true, slotNames := sn, subclasses := sub, abstract := ab, collection := col, hasDel := false } := by
    unfold PySem.W.clsIn; rw [hC] <;> rfl
  obtain ⟨t1, ho⟩ := exo_at I.hok e
  obtain ⟨mA, hns, rel⟩ := exd_at I.hok ed
  have hw := within_of rel
  obtain ⟨hp, g, d, t, os⟩ := s
  obtain ⟨oD, _, _, hoD, _, _⟩ := hns.count hw
  refine PySem.W.set_plain I.kIn (ox := { cls := .ref C, dict := some dx, data := .fields #[.ref t1, .none, .none, .none, .bool false, .none] }) (od := some oD) ⟨ho, rfl, rfl, hoD⟩ T.sa ?_
  refine ex_osa2 (cs := C :: cs) I.kIn ho hns hw (by rw [List.length_map]; omega) hcl rfl rfl hno (fun h' tk' k hn => ?_)
  obtain ⟨o9, e9, p9, q9, r9⟩ := id hn
  exact h _ (I.write (t' := tk') (x := dx) (e := dx) (o := exd dx ((f, y) :: fs)) (by rw [ed]; exact True.intro) (.inl rfl) k ⟨o9, q9⟩ (exd_ok hn (relO_put ry rel)))
end
/-- self.f = e in __init__ -/
def tPut (K : PySem.W.Frag) (f : Str) (to te : TE) : TS := fun D σ H => te σ H fun y H1 => to σ H1 fun x H2 => ∃ a C : Addr, x = .ref a ∧ ExM K C ∧ PySem.W.findIn K (.ref C) f = some none ∧
  ((H2 a = some (exo a C none) ∧ ∀ dx, H2 dx = none → dx ≠ a → D.nx σ (upd (upd H2 dx (exd dx [(f, y)])) a (exo a C (some dx)))) ∨
    ∃ (dx : Addr) (fs : List (Str × V)), H2 a = some (exo a C (some dx)) ∧ H2 dx = some (exd dx fs) ∧ fs.length ≤ 900 ∧ D.nx σ (upd H2 dx (exd dx ((f, y) :: fs))))
/-- C(e, ..), C's own __init__ keeping sp -/
def tMade (C : Addr) (sp : Sp) (ta : TA) : St → Hp → XK → Prop := fun σ H Q => ta σ H fun vs H1 => vs.length ≤ 1000 ∧ ∀ a, H1 a = none → sp (.ref a :: vs) (upd H1 a (exo a C none))
  (fun v H2 => v = .non ∧ ∃ (d : Addr) (fs : List (Str × V)), H2 a = some (exo a C (some d)) ∧ H2 d = some (exd d fs) ∧ H1 d = none ∧ Q (.ref C) (some d) (upd (del H2 a) d (.xd fs))) (fun _ _ _ => False)
section
variable {X : Cx} {o e : Expr} {es : List Expr} {to te : TE} {ta : TA} {f : Str} {p p' pos : Pos}
theorem ps_put (ho : PE X o to) (he : PE X e te) (hs : swapsWith e (some (.Attribute o f p')) pos.line X.env = pure false := by rfl) : PS X (.Assign [.Attribute o f p'] e pos) (tPut X.K f to te) := by
  refine ⟨fun pins s σ H D I h => ?_⟩
  refine plainObj_wpAny_Assign_Attribute (thn (he.run pins s σ H _ I h) fun v s1 ⟨y, H1, I1, r1, q1⟩ => thn (ho.run pins s1 σ H1 _ I1 q1) fun u s2 ⟨x, H2, I2, r2, a, C, ex, T, hno, q⟩ => ?_) hs
  subst ex
  obtain rfl : u = Value.ref a := r2
  rcases q with ⟨ea, q⟩ | ⟨dx, fs, ea, ed, hl, q⟩
  · exact put_new T I2 ea hno r1 fun dx s' n ne J => ⟨σ, _, J, q dx n ne⟩
  · exact put_old T I2 ea ed hl hno r1 fun s' J => ⟨σ, _, J, q⟩
theorem pmk_made {CX : CXT} {x : Str} {C fI : Addr} {k : Nat} {fd : FuncData} {ps : List Str} {sp : Sp} (T : ExM X.K C) (iC : PySem.W.findIn X.K (.ref C) "__init__" = some (some (.ref fI))) (tI : PySem.W.typeIn X.K (.ref fI) = some (.type "function"))
    (F1 : FnOk X.prog X.w X.K X.mg X.base CX k fI fd ps sp) (hr : Room (k + 1) X.A) (hb : Binds X.K fd ps []) (hx : Passes CX X (fun _ _ _ => False)) (hg : Gl X x) (hm : X.mg x = some (.ref C)) (ha : PA X (e :: es) ta)
    (hdb : (x == ("__debug__" : Str)) = false := by decide) (he : starEach (e :: es) X.env = (false, eval e X.env) :: starEach es X.env := by rfl) (hpl : (backTo pos (starEach es X.env)).any (·.1) = false := by rfl) :
    PMk X (.Call (.Name x p) (e :: es) [] pos) (tMade C sp ta) := by
  intro pins s σ H Q I h
  obtain ⟨nm, q, N, bs, cs, sn, sub, ab, col, dd, k0, k1, k2, k3, k5, hC⟩ := T.cls
  refine wpAny_Call_Name_kw (ld_glob I hg hm ?_ hdb)
  refine PySem.W.callWith_K (h₀ := X.base) I.ok.mod.kin T.kC (thn (ha.run pos pins s σ H _ I h) fun us s1 ⟨vs, H1, I1, r1, hz, q1⟩ => ⟨I1.kIn, ?_⟩) he hpl
  show wpAny _ _ (call (.ref C) us) _ _ _
  obtain ⟨hp, g, dr, tk, os⟩ := s1
  have sz : hp.objs.size ≤ hp.objs.size + 1 := Nat.le_succ _
  have hn : H1 (hp.objs.size + 1) = none := I1.hok.fresh sz
  have hq := q1 (hp.objs.size + 1) hn
  have kp : ∀ b o, hp.get? b = some o → ((hp.push (PySem.W.kdv_tup us)).push (PySem.HandSPX.excO C hp.objs.size)).get? b = some o := fun b o z => Heap.get?_push_of_some _ (Heap.get?_push_of_some _ z)
  have hget : ((hp.push (PySem.W.kdv_tup us)).push (PySem.HandSPX.excO C hp.objs.size)).get? (hp.objs.size + 1) = some (PySem.HandSPX.excO C hp.objs.size) := by heap_get
  have I2 : Inv X pins σ (upd H1 (hp.objs.size + 1) (exo (hp.objs.size + 1) C none)) ⟨(hp.push (PySem.W.kdv_tup us)).push (PySem.HandSPX.excO C hp.objs.size), g, dr, tk, os⟩ :=
    I1.laid (t' := tk) (a := hp.objs.size + 1) (o := exo (hp.objs.size + 1) C none) (h' := (hp.push (PySem.W.kdv_tup us)).push (PySem.HandSPX.excO C hp.objs.size)) kp sz (exo_ok hget)
  have r2 : Vals (V.ref (hp.objs.size + 1) :: vs) (Value.ref (hp.objs.size + 1) :: us) := .cons rfl r1
  have hl : (Value.ref (hp.objs.size + 1) :: us).length = ps.length := by
    have z := r2.length
    rw [F1.len _ _ _ _ hq] at z
    exact z.symm
  have hus : us.length ≤ sizeLine := by rw [← Paired.length r1, sizeLine_eq]; omega
  have bnd := hb ⟨(hp.push (PySem.W.kdv_tup us)).push (PySem.HandSPX.excO C hp.objs.size), g, dr, tk, os⟩ (Value.ref (hp.objs.size + 1) :: us) I2.kIn (by rw [List.append_nil]; exact hl)
  rw [List.append_nil] at bnd
  refine wpAny_call (PySem.HandSPX.call_own F.excBase_Exception (fun Y => tl_has Y cs) (I1.kIn _ _ hC) (PySem.W.looks_findIn I1.kIn iC) (fun self => PySem.W.bind_fn I1.kIn self tI) hus
    (codeAny_mono (F1.run _ X.stack _ _ ⟨Value.ref (hp.objs.size + 1) :: us, []⟩ (Value.ref (hp.objs.size + 1) :: us) _ _ (fun _ _ _ => False) (hr.make C us []) (I2.env0.make C us []) bnd r2 hq) fun r s' hq' => ?_))
  cases r with
  | error er => exact hx pins σ _ _ er s' I2 hq'
  | ok fl =>
    cases fl with
    | ret u =>
      obtain ⟨v, H2, os2, bare2, un2, hok2, rv, ev, d, fs, ea, ed, hd1, q2⟩ := hq'
      subst ev
      obtain ⟨h2, g2, d2, t2, os'⟩ := s'
      exact ⟨rv, mk_end (raises_own T.exC T.tyC) I1 sz kp un2 hok2 os2 bare2 ea ed hd1 q2⟩
    | next => exact False.elim hq'
    | brk => exact False.elim hq'
    | cont => exact False.elim hq'
end
/-- what the class at D must say, so that isinstance asks its instances rightly -/
structure AskE (K : PySem.W.Frag) (D : Addr) : Prop where
  hc : (PySem.W.clsIn K D).isSome = true
  hg : PySem.W.findIn K (.ref D) "__getattribute__" = some (some (.builtin "BaseException.__getattribute__"))
  hk : PySem.W.findIn K (.ref D) "__getattr__" = some none
  hs : PySem.W.subIn K (.ref D) (.type "BaseException") = some true
  ha : PySem.W.findIn K (.ref D) "__class__" = some (some (.builtin "object.__class__"))
  hn : PySem.W.specialIn K (.builtin "object.__class__") "__get__" = some (some (.builtin "getset_descriptor.__get__"))
  ht : PySem.W.takesIn K (.builtin "object.__class__") = some true
  hm : PySem.W.mroIn K D (.type "object") = some true
/-- isinstance(e, c), e the caught exception at a, whose class is at D and whose dict is at dd -/
def rAsk (K : PySem.W.Frag) (a : Addr) (cls : Value) (d : Option Addr) : List V → Hp → VK → Prop := fun xs H Q => ∃ (D dd : Addr) (fs : List (Str × V)) (c : V) (cv : Value) (b : Bool),
  cls = .ref D ∧ d = some dd ∧ H dd = some (.xd fs) ∧ AskE K D ∧ xs = [.ref a, c] ∧ (∀ u, RelV c u → u = cv) ∧ PySem.W.kitOne K (.ref D) cv = some b ∧ Q (.bl b) H
theorem call_ask {X : Cx} {a : Addr} {cls : Value} {d : Option Addr} {oe : Obj} {pn : List (Addr × Obj)} (hz : Zc cls d oe) (hf : ∃ vs, oe.data = .fields vs) : CallR (X.suite a ((a, oe) :: pn)) (.builtin "isinstance") (rAsk X.K a cls d) := by
  intro pins s σ H xs us Q I r h
  obtain ⟨D, dd, fs, c, cv, b, rfl, rfl, hdd, C, rfl, hcv, e, q⟩ := h
  obtain ⟨u1, u2, rfl, r1, r2⟩ := vals2 r
  obtain rfl : u1 = Value.ref a := r1
  obtain rfl := hcv _ r2
  obtain ⟨hget, _⟩ := I.pin (a, oe) (List.mem_append_left _ List.mem_cons_self)
  obtain ⟨vs, hv⟩ := hf
  obtain ⟨mA, hns, _⟩ := (show ObjOk X.prog X.w H s.heap dd (.xd fs) from I.hok dd _ hdd)
  obtain ⟨od, ho, _⟩ := lookIn_ns hns
  have J : PySem.W.InstAt s.heap a oe D (some od) := ⟨hget, hz.1, by unfold PySem.W.notCls; rw [hv] <;> rfl, by rw [hz.2]; exact ho⟩
  exact PySem.W.kia_one (PySem.W.kitx_exc C.hc C.hg C.hk C.hs C.ha C.hn C.ht C.hm) I.kIn J e (fun z => nomatch z) fun tk => ⟨.bl b, H, I.tok tk, rfl, q⟩
end Mw
set_option Elab.async false
set_option linter.all false
set_option maxRecDepth 100000
/-! Common words: a def where it stands, a callee by its promise, the drawn row and its place. -/
namespace Mw
open PySem L2
/-- a def of the module's top, where it stands -/
def Def (K : PySem.W.Frag) (mg : Str → Option Value) (x : Str) (st : Stmt) (ps : List Str) : Prop :=
  ∃ (f : Addr) (fd : FuncData), mg x = some (.ref f) ∧ Fun K x x st f fd ∧ Binds K fd ps []
/-- a def by its promise -/
def Cal (P : Program) (w : World) (K : PySem.W.Frag) (mg : Str → Option Value) (base : Heap) (CX : CXT) (x : Str) (k : Nat) (ps : List Str) (sp : Sp) : Prop :=
  ∃ (f : Addr) (fd : FuncData), mg x = some (.ref f) ∧ PySem.W.keepIn K (.ref f) = true ∧ Binds K fd ps [] ∧ FnOk P w K mg base CX k f fd ps sp
section
variable {P : Program} {w : World} {K : PySem.W.Frag} {mg : Str → Option Value} {base : Heap} {CX : CXT} {x : Str} {k : Nat} {ps : List Str} {sp : Sp}
theorem Cal.mono {j : Nat} (C : Cal P w K mg base CX x j ps sp) (h : j ≤ k) : Cal P w K mg base CX x k ps sp := by
  obtain ⟨f, fd, g, kp, b, F⟩ := C
  exact ⟨f, fd, g, kp, b, F.mono h⟩
theorem Cal.imp {sp' : Sp} (C : Cal P w K mg base CX x k ps sp) (h : ∀ vs H Q E, sp' vs H Q E → sp vs H Q E) : Cal P w K mg base CX x k ps sp' := by
  obtain ⟨f, fd, g, kp, b, F⟩ := C
  exact ⟨f, fd, g, kp, b, F.imp h⟩
/-- a def that raises nothing holds its promise -/
theorem Def.cal {st : Stmt} {N : List Str} (D : Def K mg x st ps) (S : FnScope N ps (defScope st)) (len : ∀ vs H Q E, sp vs H Q E → vs.length = ps.length)
    (hbody : ∀ (f : Addr) (cdv : Value) (A : Around) (outer : List Env) (s : Shared) (H : Hp) (vs : List V) (Q : VK) (E : XK), Room k (A.deeper (PyProof.Rows.envOfC x (defScope st) s.heap.objs.size f cdv)) → sp vs H Q E →
      ∃ t, PSs (cxOf CX0 P w K mg base N x (defScope st) f cdv A outer s H E).nox (defBody st) t ∧ t { nx := fun _ H' => Q .non H', rt := Q } (start N vs) H) : Cal P w K mg base CX0 x (k + 1) ps sp := by
  obtain ⟨f, fd, g, F, b⟩ := D
  exact ⟨f, fd, g, F.kp, b, F.ok S len (hbody f)⟩
theorem Def.calX {st : Stmt} {N : List Str} (D : Def K mg x st ps) (S : FnScope N ps (defScope st)) (len : ∀ vs H Q E, sp vs H Q E → vs.length = ps.length)
    (hbody : ∀ (f : Addr) (cdv : Value) (A : Around) (outer : List Env) (s : Shared) (H : Hp) (vs : List V) (Q : VK) (E : XK), Room k (A.deeper (PyProof.Rows.envOfC x (defScope st) s.heap.objs.size f cdv)) → sp vs H Q E →
      ∃ t, PSs (cxOf (L2.CX P w) P w K mg base N x (defScope st) f cdv A outer s H E) (defBody st) t ∧ t { nx := fun _ H' => Q .non H', rt := Q } (start N vs) H) : Cal P w K mg base (L2.CX P w) x (k + 1) ps sp := by
  obtain ⟨f, fd, g, F, b⟩ := D
  exact ⟨f, fd, g, F.kp, b, F.okX S len (hbody f)⟩
theorem Def.mk {h : Heap} {st : Stmt} {f : Addr} {oc : Value} {od an : Option Addr} {osl : Array (Option Value)} {kV doc pm cdv ct : Value} (KX : K.In h) (G : h.Ns mainGlobals mg) (a : PySem.W.nsIn K mainGlobals x = some (some (.ref f)))
    (l : K.lookup f = some ⟨oc, od, .func (PySem.W.fnOf x x (defArgs st) (defBody st) (defScope st) .none kV doc pm an cdv ct), osl⟩) (c : PySem.W.codeIn K cdv x = true) (kp : PySem.W.keepIn K (.ref f) = true)
    (b : ∀ (kV doc pm : Value) (an : Option Addr) (cdv ct : Value) (us : List Value), us.length = ps.length → bindArgs (PySem.W.fnOf x x (defArgs st) (defBody st) (defScope st) .none kV doc pm an cdv ct) ⟨us, []⟩ = pure (ps.zip us)) : Def K mg x st ps :=
  ⟨f, _, PySem.W.mg_of KX G a, fun_mk (st := st) l c kp, (fun_mk (st := st) l c kp).binds b⟩
end
section
variable {X : Cx} {x : Str} {k : Nat} {ps : List Str} {sp : Sp} {e : Expr} {es : List Expr} {t : TA} {p pos : Pos}
/-- the call of a def that raises nothing -/
theorem pe_fn (C : Cal X.prog X.w X.K X.mg X.base CX0 x k ps sp) (hr : Room k X.A) (ha : PA X (e :: es) t) (hg : Gl X x := by rfl)
    (hdb : (x == ("__debug__" : Str)) = false := by decide) (he : starEach (e :: es) X.env = (false, eval e X.env) :: starEach es X.env := by rfl) (hpl : (backTo pos (starEach es X.env)).any (·.1) = false := by rfl) :
    PE X (.Call (.Name x p) (e :: es) [] pos) (tCall sp [] E0 t) := by
  obtain ⟨f, fd, g, kp, b, F⟩ := C
  exact pe_call F hr hg g kp b .nil pass0 ha hdb he hpl
/-- the call of a def that may raise, where what it raises is wished for -/
theorem pe_fnS {W : WX} (C : Cal X.prog X.w X.K X.mg X.base (L2.CX X.prog X.w) x k ps sp) (hr : Room k X.A) (tk : Takes X W) (ha : PA X (e :: es) t) (hg : Gl X x := by rfl)
    (hdb : (x == ("__debug__" : Str)) = false := by decide) (he : starEach (e :: es) X.env = (false, eval e X.env) :: starEach es X.env := by rfl) (hpl : (backTo pos (starEach es X.env)).any (·.1) = false := by rfl) :
    PE X (.Call (.Name x p) (e :: es) [] pos) (tCallS sp (WE W) t) := by
  obtain ⟨f, fd, g, kp, b, F⟩ := C
  exact pe_callS F hr hg g kp b (fun σ => passAt tk σ) ha hdb he hpl
end
/-! ### products of any size -/
def CMulB (i j : Int) : Prop := i.natAbs.log2 + j.natAbs.log2 < 100000000
theorem CMulB.ok {i j : Int} (h : CMulB i j) : IntMulOk i j := by
  have b9 : ∀ x : Int, Builtin.Int.intBits x ≤ x.natAbs.log2 + 1 := fun x => by unfold Builtin.Int.intBits; split <;> omega
  have h1 := b9 i
  have h2 := b9 j
  have h3 : i.natAbs.log2 + j.natAbs.log2 < 100000000 := h
  have e9 : bitsLine = 134217728 := by decide
  unfold IntMulOk
  intro z
  rw [Bool.and_eq_true] at z
  have z2 : Builtin.Int.intTooBig _ = true := z.2
  unfold Builtin.Int.intTooBig at z2
  have z3 := of_decide_eq_true z2
  rw [e9] at z3
  omega
theorem op_mulB {X : Cx} : OpR X (binaryOp .Mult) (rI CMulB fun i j => .int (i * j)) := opI fun _ _ _ _ _ _ _ hc q => PyProof.Rows.mul_int q hc.ok
/-! ### heaps: all but one place stands -/
/-- all that was tracked is as it was, but at sp -/
def Grow (sp : Addr) (H H' : Hp) : Prop := ∀ b o, b ≠ sp → H b = some o → H' b = some o
theorem Grow.refl (sp : Addr) (H : Hp) : Grow sp H H := fun _ _ _ h => h
theorem Grow.trans {sp : Addr} {H H1 H2 : Hp} (a : Grow sp H H1) (b : Grow sp H1 H2) : Grow sp H H2 := fun c o n h => b c o n (a c o n h)
theorem Grow.new {sp p : Addr} {H : Hp} {o : HO} (h : H p = none) : Grow sp H (upd H p o) := fun b u _ e => by rw [upd_ne (ne_of_none e h)]; exact e
theorem Grow.at {sp : Addr} {H : Hp} {o : HO} : Grow sp H (upd H sp o) := fun b u n e => by rw [upd_ne n]; exact e
theorem Same.new {p : Addr} {H : Hp} {o : HO} (h : H p = none) : Same H (upd H p o) := fun b u e => by rw [upd_ne (ne_of_none e h)]; exact e
theorem Same.grow {sp : Addr} {H H' : Hp} (h : Same H H') : Grow sp H H' := fun b o _ e => h b o e
/-! ### the drawn row at r, the place in it at sp -/
/-- the row's numbers -/
def RowOk (ns : List Int) : Prop := 0 < ns.length ∧ ns.length ≤ 4000 ∧ ∀ n ∈ ns, 0 ≤ n ∧ n < 2147483648
def Rolls (r sp : Addr) (H : Hp) : Prop := r ≠ sp ∧ (∃ ns : List Int, RowOk ns ∧ H r = some (.lst (ns.map V.int))) ∧ ∃ n : Nat, H sp = some (.lst [.int n])
theorem Rolls.new {r sp p : Addr} {H : Hp} {o : HO} (R : Rolls r sp H) (h : H p = none) : Rolls r sp (upd H p o) := by
  obtain ⟨ne, ⟨ns, ok, e⟩, n, en⟩ := R
  exact ⟨ne, ⟨ns, ok, by rw [upd_ne (ne_of_none e h)]; exact e⟩, n, by rw [upd_ne (ne_of_none en h)]; exact en⟩
theorem Rolls.put {r sp p : Addr} {H : Hp} {o : HO} (R : Rolls r sp H) (h1 : r ≠ p) (h2 : sp ≠ p) : Rolls r sp (upd H p o) := by
  obtain ⟨ne, ⟨ns, ok, e⟩, n, en⟩ := R
  exact ⟨ne, ⟨ns, ok, by rw [upd_ne h1]; exact e⟩, n, by rw [upd_ne h2]; exact en⟩
theorem Rolls.row {K : PySem.W.Frag} {r sp : Addr} {H : Hp} (R : Rolls r sp H) : ∃ ns : List Int, RowOk ns ∧ SqL K H r (ns.map V.int) := by
  obtain ⟨_, ⟨ns, ok, e⟩, _⟩ := R
  exact ⟨ns, ok, SqL.of e⟩
/-! ### promises of the law's own helpers -/
/-- _law_numbers(script): a new list of drawn numbers -/
def spNumbers (K : PySem.W.Frag) : Sp := fun vs H Q _ => ∃ (a : Addr) (ns : List Int), vs = [.ref a] ∧ SqL K H a (ns.map V.int) ∧ ns.length ≤ 63 ∧ (∀ z ∈ ns, Builtin.Int.intBits z ≤ 1048576) ∧
  ∀ (H' : Hp) (r : Addr) (ms : List Int), Same H H' → H r = none → RowOk ms → H' r = some (.lst (ms.map V.int)) → Q (.ref r) H'
/-- _law_draw(row, at, limit) -/
def spDraw (K : PySem.W.Frag) : Sp := fun vs H Q _ => ∃ (r : Addr) (ns : List Int) (n : Nat) (lim : Int), vs = [.ref r, .int n, .int lim] ∧ SqL K H r (ns.map V.int) ∧ RowOk ns ∧ 0 < lim ∧
  ∀ x : Int, 0 ≤ x → x < lim → Q (.int x) H
/-- _law_take(row, spot, limit) -/
def spTake : Sp := fun vs H Q _ => ∃ (r sp : Addr) (lim : Int), vs = [.ref r, .ref sp, .int lim] ∧ Rolls r sp H ∧ 0 < lim ∧
  ∀ (x : Int) (H' : Hp), 0 ≤ x → x < lim → Grow sp H H' → Rolls r sp H' → (∀ b, b ≠ sp → H' b = H b) → Q (.int x) H'
end Mw
set_option Elab.async false
set_option linter.all false
set_option maxRecDepth 100000
/-! Data of None, bools, ints, texts and tuples; the promise of the law's own comparison. -/
namespace Mw
open PySem L2
/-- None, bools, ints, texts, tuples of these, at most so deep -/
inductive Td : Nat → PyData → Prop where
  | non {n : Nat} : Td n .none
  | bl {n : Nat} (b : Bool) : Td n (.bool b)
  | int {n : Nat} (i : Int) : Td n (.int i)
  | str {n : Nat} (x : Str) : Td n (.str x)
  | tup {n : Nat} {ds : List PyData} (z : ds.length ≤ 1000) (h : ∀ d ∈ ds, Td n d) : Td (n + 1) (.tuple ds)
theorem Td.mono {n m : Nat} {d : PyData} (h : Td n d) (k : n ≤ m) : Td m d := by
  induction h generalizing m with
  | non => exact .non
  | bl b => exact .bl b
  | int i => exact .int i
  | str x => exact .str x
  | tup z _ ih =>
    obtain ⟨m', rfl⟩ : ∃ m', m = m' + 1 := ⟨m - 1, by omega⟩
    exact .tup z fun d hd => ih d hd (by omega)
section
variable {K : PySem.W.Frag} {H H' : Hp}
theorem Rd.same {a : Addr} {u : HO} (e : Same H H') (h : Rd H a u) : Rd H' a u := by
  rcases h with h | ⟨o, h⟩
  · exact .inl (e _ _ h)
  · exact .inr ⟨o, e _ _ h⟩
theorem sqT_same {a : Addr} {xs : List V} (e : Same H H') (h : SqT K H a xs) : SqT K H' a xs := by
  rcases h with h | h
  · exact .inl (Rd.same e h)
  · exact .inr h
theorem ty_tup {a : Addr} {xs : List V} (h : SqT K H a xs) : TyX K H (.ref a) (.type "tuple") := by
  rcases h with (h | ⟨o, h⟩) | ⟨o, its, n, h, c, _⟩
  · exact .base (.tup h)
  · exact .fTuple h
  · exact .kTuple h c
theorem ty_lst {a : Addr} {xs : List V} (h : SqL K H a xs) : TyX K H (.ref a) (.type "list") := by
  rcases h with (h | ⟨o, h⟩) | ⟨o, its, n, h, c, _⟩
  · exact .base (.lst h)
  · exact .base (.frz h)
  · exact .kList h c
theorem dpAll_len : ∀ {vs : List V} {ds : List PyData}, DpAll K H vs ds → vs.length = ds.length
  | _, _, .nil => rfl
  | _, _, .cons _ t => by rw [List.length_cons, List.length_cons, dpAll_len t]
theorem dpAll_get : ∀ {vs : List V} {ds : List PyData} {k : Nat} {d : PyData}, DpAll K H vs ds → ds[k]? = some d → ∃ v, vs[k]? = some v ∧ Dp K H v d
  | _, _, _, _, .nil, h => by simp at h
  | _, _, 0, d, .cons h _, e => by simp at e; subst e; exact ⟨_, rfl, h⟩
  | _, _, k + 1, d, .cons _ t, e => by
    obtain ⟨v, h1, h2⟩ := dpAll_get (k := k) t (by simpa using e)
    exact ⟨v, by simpa using h1, h2⟩
theorem dpAll_append : ∀ {vs ws : List V} {ds es : List PyData}, DpAll K H vs ds → DpAll K H ws es → DpAll K H (vs ++ ws) (ds ++ es)
  | _, _, _, _, .nil, k => k
  | _, _, _, _, .cons h t, k => .cons h (dpAll_append t k)
theorem dpAll_one {v : V} {d : PyData} (h : Dp K H v d) : DpAll K H [v] [d] := .cons h .nil
mutual
theorem dp_same (e : Same H H') : ∀ {d : PyData} {v : V}, Dp K H v d → Dp K H' v d
  | _, _, .non => .non
  | _, _, .bl b => .bl b
  | _, _, .int i => .int i
  | _, _, .str x => .str x
  | _, _, .lst h t => .lst (e.seq h) (dpAll_same e t)
  | _, _, .tup h t => .tup (sqT_same e h) (dpAll_same e t)
theorem dpAll_same (e : Same H H') : ∀ {ds : List PyData} {vs : List V}, DpAll K H vs ds → DpAll K H' vs ds
  | _, _, .nil => .nil
  | _, _, .cons h t => .cons (dp_same e h) (dpAll_same e t)
end
end
/-- _law_so(found, meant): the same data below depth n: True -/
def spSo (K : PySem.W.Frag) (n : Nat) : Sp := fun vs H Q _ => ∃ (x y : V) (d : PyData) (m : Nat), vs = [x, y] ∧ Dp K H x d ∧ Dp K H y d ∧ Td m d ∧ m < n ∧ Q (.bl true) H
theorem eq_self {x : V} : (if decide (x = x) = true then True else False) := by simp
theorem Def.never {P : Program} {w : World} {K : PySem.W.Frag} {mg : Str → Option Value} {base : Heap} {CX : CXT} {x : Str} {st : Stmt} {ps : List Str} {k : Nat} {sp : Sp} (D : Def K mg x st ps) (hn : ∀ vs H Q E, ¬ sp vs H Q E) : Cal P w K mg base CX x k ps sp := by
  obtain ⟨f, fd, g, F, b⟩ := D
  exact ⟨f, fd, g, F.kp, b, fun vs H Q E h => absurd h (hn _ _ _ _), fun _ _ _ _ _ _ _ _ _ _ _ _ _ h => absurd h (hn _ _ _ _)⟩
end Mw
set_option Elab.async false
set_option linter.all false
set_option maxRecDepth 100000
set_option maxHeartbeats 2000000
/-! What stands as a list or as a tuple: walked, enumerated, unpacked. -/
namespace Mw
open PySem L2
/-- a list or a tuple at a -/
def Seq (K : PySem.W.Frag) (H : Hp) (a : Addr) (xs : List V) : Prop := SqL K H a xs ∨ SqT K H a xs
theorem Seq.same {K : PySem.W.Frag} {H H' : Hp} {a : Addr} {xs : List V} (e : Same H H') (h : Seq K H a xs) : Seq K H' a xs := by
  rcases h with h | h
  · exact .inl (e.seq h)
  · exact .inr (sqT_same e h)
/-! ### enumerate(v), v a list or a tuple -/
set_option maxHeartbeats 1000000 in
theorem meets_enum1 {v : Value} {o : Obj} {G : Heap → Prop} (B : Begins v o G) :
    Meets (Builtin.«enumerate.__new__» ⟨[.type "enumerate", v], []⟩) (fun _ R s => G s.heap ∧
      R (.ok (.ret (.ref (s.heap.push o).objs.size))) { s with heap := (s.heap.push o).push { cls := .type "enumerate", data := .fields #[.none, .bool false, .ref s.heap.objs.size, rawInt 0, .none, .none] } }) :=
  .of_wp fun prog w A R s h => by
    obtain ⟨hp, g, d, tk, os⟩ := s
    obtain ⟨g1, h⟩ := h
    have hsub9 := sub_enumerate
    have it9 : ∀ {A' : Around} {E : Value → Shared → Prop} {Q : Value → Shared → Prop}, Q (.ref hp.objs.size) ⟨hp.push o, g, d, tk, os⟩ → wpAny (model prog w) A' (pyIter v) Q E ⟨hp, g, d, tk, os⟩ :=
      fun q => B.iter prog w _ _ ⟨hp, g, d, tk, os⟩ _ g1 q
    wp_walk using it9
    refine wpAny_stack_any fun st => wpAny_pure ?_
    split
    · rename_i c _ _ _ _ _
      cases (c == Value.type "enumerate")
      · wp_walk using it9
        exact ⟨_, rfl, h⟩
      · wp_walk using it9
        exact ⟨_, rfl, h⟩
    · wp_walk using it9
      exact ⟨_, rfl, h⟩
theorem enum1_begins {prog : Program} {w : World} {A : Around} {E : Value → Shared → Prop} {s : Shared} {v : Value} {o : Obj} {G : Heap → Prop} {Q : Value → Shared → Prop} (B : Begins v o G) (g1 : G s.heap)
    (h : ∀ h', IsEnum h' (s.heap.objs.size + 1) s.heap.objs.size 0 .none → h'.get? s.heap.objs.size = some o → h'.objs.size = s.heap.objs.size + 2 →
      (∀ b o, s.heap.get? b = some o → h'.get? b = some o) → Q (.ref (s.heap.objs.size + 1)) { s with heap := h' }) :
    wpAny (model prog w) A (call (.type "enumerate") [v]) Q E s := by
  refine callType_new F.called_enumerate (by decide) (F.typeCall_enumerate_1 _) (F.newCall_enumerate_1 _) (fun obj => F.args_object_init_2 obj _) F.entry_enumerate_new (meets_enum1 B) ⟨g1, ?_⟩
  have z9 : (s.heap.push o).objs.size = s.heap.objs.size + 1 := Heap.size_push ..
  show _ ∧ _
  rw [z9]
  have he : IsEnum ((s.heap.push o).push { cls := .type "enumerate", data := .fields #[.none, .bool false, .ref s.heap.objs.size, rawInt 0, .none, .none] }) (s.heap.objs.size + 1) s.heap.objs.size 0 .none := by
    have y9 := Heap.get?_push_size (s.heap.push o) (o := { cls := .type "enumerate", data := .fields #[.none, .bool false, .ref s.heap.objs.size, rawInt 0, .none, .none] }) rfl
    rw [z9] at y9; exact y9
  exact ⟨⟨_, he, rfl⟩, h _ he (Heap.get?_push_of_some _ (Heap.get?_push_size _ B.free)) (by rw [Heap.size_push, z9]) fun b o x => Heap.get?_push_of_some _ (Heap.get?_push_of_some _ x)⟩
/-- the tuple at a, each item in a new pair -/
def IteT (K : PySem.W.Frag) (a : Addr) : It :=
  ⟨fun i H => ∃ (xs : List V) (x : V), SqT K H a xs ∧ xs[i]? = some x, fun i H v H' => ∃ T x, v = .ref T ∧ H T = none ∧ H' = upd H T (.tup [.int (i : Nat), x]) ∧ ∀ xs, SqT K H a xs → xs[i]? = some x, fun i H => ∃ xs : List V, SqT K H a xs ∧ xs.length ≤ i⟩
theorem turn_enumT {P : Program} {w : World} {K : PySem.W.Frag} {elts : List Expr} {kk : Nat} {tpos : Pos} (a e it : Addr) (hae : a ≠ e) (hai : a ≠ it) :
    Turn P w K (.Tuple elts kk tpos) (IteT K a) [e, it] e (fun i h => (∃ old, IsEnum h e it ((i : Nat) : Int) old) ∧ h.IsTupleIter it a i ∧ e ≠ it) where
  mem := List.mem_cons_self
  obj := fun i h st b hb => by
    obtain ⟨⟨old, he⟩, ⟨o, ho, hc, hd⟩, _⟩ := st
    have c9 : b = e ∨ b = it := by simpa using hb
    rcases c9 with rfl | rfl
    · exact ⟨_, he, fun v q => nomatch q⟩
    · exact ⟨o, ho, fun v q => by rw [hd] at q; cases q⟩
  keep := fun i h h' st k => let ⟨⟨old, he⟩, hi, hne⟩ := st; ⟨⟨old, k e (by simp) _ he⟩, hi.at fun o q => k it (by simp) o q, hne⟩
  item := by
    intro X hP hw hK hc i pins s σ H E I hf st hg
    subst hP hw hK
    obtain ⟨⟨old, he⟩, hit, hne⟩ := st
    obtain ⟨xs, x, hq, hx⟩ := hg
    obtain ⟨its, rv, p, hz⟩ := I.tuple hq
    obtain ⟨u, hu, ru⟩ := rv.get hx
    have le : e < s.heap.objs.size := Heap.lt_size he
    have li : it < s.heap.objs.size := by obtain ⟨_, q, _⟩ := hit; exact Heap.lt_size q
    have tp : s.heap.IsTuple a its.toArray := p
    have D9 := Draws.tuple (prog := X.prog) (w := X.w) (A := X.A.in1) (I.ok.hd hc) it a hai its.toArray
    have hlt : i < its.toArray.size := by
      have := (List.getElem?_eq_some_iff.mp hu).1
      simpa using this
    refine wpAny_pyNext_enum_itemD D9 he ⟨hit, tp⟩ hlt hne (by simp [hne, hae.symm]) fun u' h' tk hp' ho st' hT hsz hk => ?_
    have eu : u' = u := by
      have q9 : its[i]? = some u' := by simpa using hp'
      rw [hu] at q9; exact (Option.some.inj q9).symm
    subst eu
    refine ⟨_, rfl, wpAny_letOwnedTupleGo_enum (s := { s with heap := h', toks := tk + 1 }) ho fun h'' he' sb => ?_⟩
    have hT2 : h''.get? s.heap.objs.size = some { cls := .type "tuple", data := .seq #[.int i tk, u'] } := (sb.2 _ (Nat.ne_of_gt le)).trans hT
    have new : ObjOk X.prog X.w (upd H s.heap.objs.size (.tup [.int (i : Nat), x])) h'' s.heap.objs.size (.tup [.int (i : Nat), x]) :=
      ⟨by show 2 ≤ sizeLine; decide, [.int i tk, u'], .cons ⟨_, rfl⟩ (.cons ru .nil), ⟨_, hT2, rfl, _, rfl⟩⟩
    have I1 : Inv X pins σ (upd H s.heap.objs.size (.tup [.int (i : Nat), x])) { s with heap := h'', toks := tk + 1 } :=
      I.turnedNew (ch := [e, it]) (fun b ob hb q => (sb.2 b (fun z => hb (by simp [z]))).trans (hk b ob (fun z => hb (by simp [z])) (fun z => hb (by simp [z])) q)) hf (Nat.le_refl _) new
    refine ⟨.ref s.heap.objs.size, _, I1, rfl, ⟨_, x, rfl, I.hok.fresh (Nat.le_refl _), rfl, fun ys hy => by rw [I.tuple_inj hy hq]; exact hx⟩, ⟨⟨u', ?_⟩, st'.1.at fun o q => (sb.2 it (Ne.symm hne)).trans q, hne⟩, fun b hb => ?_⟩
    · have e1 : ((i + 1 : Nat) : Int) = (i : Int) + 1 := by omega
      rw [e1]; exact he'
    · have c9 : b = e ∨ b = it := by simpa using hb
      have hb9 : b < s.heap.objs.size := by rcases c9 with rfl | rfl <;> assumption
      rw [upd_ne (Nat.ne_of_lt hb9)]
      exact (hf b hb).1
  done := by
    intro X hP hw hK hc i pins s σ H E I hf st hg
    subst hP hw hK
    obtain ⟨⟨old, he⟩, hit, hne⟩ := st
    obtain ⟨xs, hq, hx⟩ := hg
    obtain ⟨its, rv, p, hz⟩ := I.tuple hq
    obtain ⟨f0, f1, f2, f3, f4, f5⟩ := hf it (by simp)
    have hl := rv.length
    have tp : s.heap.IsTuple a its.toArray := p
    have hT : s.TypeIs (.ref e) "enumerate" := ⟨_, he, rfl⟩
    unfold pyNext
    refine wpAny_bind (wpAny_attempt (wpAny_callSpecial?_slot (name := Str.ofString "__next__") hT F.slot_enumerate_next (wpAny_call_entry F.slot_enumerate_next hT F.entry_enumerate_next ?_ (F.args_enumerate_next_1 _))))
    show wpAny _ _ (field (.ref e) 2 >>= _) _ _ _
    refine wpAny_bind (wpAny_field he rfl (x := .ref it) rfl (wpAny_bind (wpAny_nextOf_tuple_end (I.ok.hd hc) hit tp (by simp; omega) fun h' x eb hx' => ?_)))
    obtain ⟨o, ho, hc⟩ := hx'
    refine wpAny_bind (wpAny_isInstance (T := "StopIteration") (b := true) ⟨o, ho, hc⟩ isSubtype_stop (wpAny_pure ?_))
    exact ⟨rfl, I.turned (t' := s.toks) (fun b o hb q => eb b o hb q) f0 f1 f3 f4 f5⟩
  self := fun A i s Q E st h => let ⟨⟨_, he⟩, _⟩ := st; wpAny_pyIter_enum he h
/-- enumerate(e), e a list or a tuple -/
def iEnumS (K : PySem.W.Frag) (ta : TA) : TI := fun σ H R => ta σ H fun vs H1 => ∃ a xs, vs = [.ref a] ∧ ((SqL K H1 a xs ∧ R (Ite K a) H1) ∨ (SqT K H1 a xs ∧ R (IteT K a) H1))
theorem pi_enumS {X : Cx} {e : Expr} {ta : TA} {p pos tpos : Pos} {elts : List Expr} {kk : Nat} (hg : Gl X "enumerate") (hm : X.mg "enumerate" = none) (ha : PA X [e] ta) (hs : starEach [e] X.env = [(false, eval e X.env)] := by rfl) :
    PI X (.Tuple elts kk tpos) (.Call (.Name "enumerate" p) [e] [] pos) (iEnumS X.K ta) := by
  refine ⟨fun pins s σ H R I h => ?_⟩
  refine PyProof.Rows.Call_ (ld_blt I hg hm PyProof.Rows.boot_enumerate (PyProof.Rows.callWith_type1 (thn (ha.run pos pins s σ H _ I h) fun us s1 ⟨vs, H1, I1, r1, a, xs, ex, q1⟩ => ?_) hs rfl))
  subst ex
  cases r1 with
  | cons r rr =>
    cases rr
    cases r
    rcases q1 with ⟨hq, q⟩ | ⟨hq, q⟩
    · obtain ⟨its, rv, p', hz⟩ := I1.list hq
      refine call_enumerate_list p'.isList fun h' he hit hsz hk => wpAny_pyIter_enum he ?_
      have I2 : Inv X pins σ H1 { s1 with heap := h' } := I1.kept (t' := s1.toks) hk
      refine ⟨s1.heap.objs.size + 1, [s1.heap.objs.size + 1, s1.heap.objs.size], _, _, H1, rfl, I2, turn_enum a (s1.heap.objs.size + 1) s1.heap.objs.size, ⟨⟨.none, he⟩, hit, Nat.succ_ne_self _⟩, fun b hb => ?_, q⟩
      have c9 : b = s1.heap.objs.size + 1 ∨ b = s1.heap.objs.size := by simpa using hb
      have l9 : s1.heap.objs.size ≤ b := by rcases c9 with rfl | rfl <;> omega
      exact I1.fpOk l9 (I1.hok.fresh l9)
    · obtain ⟨its, rv, p', hz⟩ := I1.tuple hq
      have tp : s1.heap.IsTuple a its.toArray := p'
      have la : a < s1.heap.objs.size := p'.lt
      refine enum1_begins (begins_tuple a its.toArray) tp fun h' he hg' hsz hk => wpAny_pyIter_enum he ?_
      have I2 : Inv X pins σ H1 { s1 with heap := h' } := I1.kept (t' := s1.toks) hk
      refine ⟨s1.heap.objs.size + 1, [s1.heap.objs.size + 1, s1.heap.objs.size], _, _, H1, rfl, I2, turn_enumT a (s1.heap.objs.size + 1) s1.heap.objs.size (Nat.ne_of_lt (Nat.lt_succ_of_lt la)) (Nat.ne_of_lt la), ⟨⟨.none, he⟩, ⟨_, hg', rfl, rfl⟩, Nat.succ_ne_self _⟩, fun b hb => ?_, q⟩
      have c9 : b = s1.heap.objs.size + 1 ∨ b = s1.heap.objs.size := by simpa using hb
      have l9 : s1.heap.objs.size ≤ b := by rcases c9 with rfl | rfl <;> omega
      exact I1.fpOk l9 (I1.hok.fresh l9)
/-- x of l, l a list or a tuple -/
def iSeq (K : PySem.W.Frag) (tl : TE) : TI := fun σ H R => tl σ H fun x H1 => ∃ a xs, x = .ref a ∧ ((SqL K H1 a xs ∧ R (Itl K a) H1) ∨ (SqT K H1 a xs ∧ R (Itt K a) H1))
theorem pi_seq {X : Cx} {tg l : Expr} {tl : TE} (hl : PE X l tl) : PI X tg l (iSeq X.K tl) := by
  refine ⟨fun pins s σ H R I h => thn (hl.run pins s σ H _ I h) fun v s1 ⟨x, H1, I1, r1, a, xs, ex, q1⟩ => ?_⟩
  subst ex
  cases r1
  rcases q1 with ⟨hq, q⟩ | ⟨hq, q⟩
  · obtain ⟨its, rv, p, hz⟩ := I1.list hq
    refine wpAny_pyIter_list p.isList ⟨s1.heap.objs.size, [s1.heap.objs.size], _, _, H1, rfl, I1.kept (t' := s1.toks) fun b o e => Heap.get?_push_of_some _ e, turn_list a _, ⟨_, Heap.get?_push_size _ rfl, rfl, rfl⟩, fun b hb => ?_, q⟩
    obtain rfl : b = s1.heap.objs.size := by simpa using hb
    exact I1.fpOk (Nat.le_refl _) (I1.hok.fresh (Nat.le_refl _))
  · obtain ⟨its, rv, p, hz⟩ := I1.tuple hq
    refine wpAny_pyIter_tuple (show s1.heap.IsTuple a its.toArray from p) ⟨s1.heap.objs.size, [s1.heap.objs.size], _, _, H1, rfl, I1.kept (t' := s1.toks) fun b o e => Heap.get?_push_of_some _ e, turn_tuple a _, ⟨_, Heap.get?_push_size _ rfl, rfl, rfl⟩, fun b hb => ?_, q⟩
    obtain rfl : b = s1.heap.objs.size := by simpa using hb
    exact I1.fpOk (Nat.le_refl _) (I1.hok.fresh (Nat.le_refl _))
/-- (a, b, ..) = a list or a tuple of that length -/
def gSeq (K : PySem.W.Frag) (n : Nat) (t : TGs) : TG := fun v σ H Q => ∃ a xs, v = .ref a ∧ Seq K H a xs ∧ xs.length = n ∧ t xs σ H Q
theorem pg_seq {X : Cx} {es : List Expr} {k : Nat} {pos : Pos} {t : TGs} {n : Nat} (hc : X.calm = true) (h : PGs X es t) (hn : (assignEach es X.env).length = n := by rfl) (hst : (assignEach es X.env).findIdx? (·.1) = none := by rfl) :
    PG X (.Tuple es k pos) (gSeq X.K n t) := by
  refine ⟨fun pins s σ H v u Q I r hw => ?_⟩
  obtain ⟨a, xs, e1, hq | hq, hl, hw⟩ := hw
  · exact (pg_lst (pos := pos) (k := k) hc h hn hst).run pins s σ H v u Q I r ⟨a, xs, e1, hq, hl, hw⟩
  · exact (pg_tup (pos := pos) (k := k) hc h hn hst).run pins s σ H v u Q I r ⟨a, xs, e1, hq, hl, hw⟩
end Mw
set_option Elab.async false
set_option linter.all false
set_option maxRecDepth 100000
set_option maxHeartbeats 2000000
/-! Values of any kind as data: what the program's looks at them say. -/
namespace Mw
open PySem L2
/-- None, bools, ints, texts, lists and tuples of these, at most so deep, none of them longer than 1000 -/
inductive Wf : Nat → PyData → Prop where
  | non {n : Nat} : Wf n .none
  | bl {n : Nat} (b : Bool) : Wf n (.bool b)
  | int {n : Nat} (i : Int) : Wf n (.int i)
  | str {n : Nat} (x : Str) : Wf n (.str x)
  | lst {n : Nat} {ds : List PyData} (z : ds.length ≤ 1000) (h : ∀ d ∈ ds, Wf n d) : Wf (n + 1) (.list ds)
  | tup {n : Nat} {ds : List PyData} (z : ds.length ≤ 1000) (h : ∀ d ∈ ds, Wf n d) : Wf (n + 1) (.tuple ds)
theorem Wf.mono {n m : Nat} {d : PyData} (h : Wf n d) (k : n ≤ m) : Wf m d := by
  induction h generalizing m with
  | non => exact .non
  | bl b => exact .bl b
  | int i => exact .int i
  | str x => exact .str x
  | lst z _ ih =>
    obtain ⟨m', rfl⟩ : ∃ m', m = m' + 1 := ⟨m - 1, by omega⟩
    exact .lst z fun d hd => ih d hd (by omega)
  | tup z _ ih =>
    obtain ⟨m', rfl⟩ : ∃ m', m = m' + 1 := ⟨m - 1, by omega⟩
    exact .tup z fun d hd => ih d hd (by omega)
theorem Td.wf {n : Nat} {d : PyData} (h : Td n d) : Wf n d := by
  induction h with
  | non => exact .non
  | bl b => exact .bl b
  | int i => exact .int i
  | str x => exact .str x
  | tup z _ ih => exact .tup z ih
/-- the members of a list or tuple -/
def dItems : PyData → Option (List PyData)
  | .list xs => some xs
  | .tuple xs => some xs
  | _ => none
def dInt : PyData → Bool
  | .int _ => true
  | _ => false
def dBool : PyData → Bool
  | .bool _ => true
  | _ => false
def dBtw (d : PyData) (lo hi : Int) : Bool := match d with
  | .int i => decide (lo ≤ i) && decide (i ≤ hi)
  | _ => false
def dNum (d : PyData) (n : Int) : Bool := dBtw d 0 (n - 1)
def dSeq (d : PyData) : Bool := (dItems d).isSome
def dRow (d : PyData) (lo hi : Int) : Bool := match dItems d with
  | some xs => decide (lo ≤ (xs.length : Int)) && decide ((xs.length : Int) ≤ hi)
  | none => false
def dAll (f : PyData → Bool) (d : PyData) : Bool := match dItems d with
  | some xs => xs.all f
  | none => false
/-- each less than the next -/
def ascI : List Int → Bool
  | a :: b :: r => decide (a < b) && ascI (b :: r)
  | _ => true
def dVal : PyData → Int
  | .int i => i
  | _ => 0
def dFacts (d : PyData) (n : Int) : Bool := dRow d n n && dAll dBool d
def dNums (d : PyData) (n : Int) : Bool := dAll (fun e => dNum e n) d
def dAscNums (d : PyData) (n : Int) : Bool := dNums d n && ascI (((dItems d).getD []).map dVal)
def dAt (d : PyData) (i : Nat) : PyData := ((dItems d).getD []).getD i .none
def dWanted (d : PyData) (n : Int) : Bool := dRow d 2 2 && (dNum (dAt d 0) n && dBool (dAt d 1))
def dCond (d : PyData) (n : Int) : Bool := dAll (fun e => dWanted e n) d && ascI (((dItems d).getD []).map fun e => dVal (dAt e 0))
mutual
/-- the same with tuples in the place of lists -/
def dPlain : PyData → PyData
  | .list xs => .tuple (dPlains xs)
  | .tuple xs => .tuple (dPlains xs)
  | .none => .none
  | .bool b => .bool b
  | .int i => .int i
  | .str x => .str x
  | .dict kvs => .dict kvs
def dPlains : List PyData → List PyData
  | [] => []
  | x :: xs => dPlain x :: dPlains xs
end
theorem dPlains_map : ∀ xs : List PyData, dPlains xs = xs.map dPlain
  | [] => rfl
  | x :: xs => by rw [List.map_cons, ← dPlains_map xs]; rfl
/-- the class of data -/
def tyD : PyData → String
  | .none => "NoneType"
  | .bool _ => "bool"
  | .int _ => "int"
  | .str _ => "str"
  | .list _ => "list"
  | .tuple _ => "tuple"
  | .dict _ => "dict"
section
variable {K : PySem.W.Frag} {H : Hp}
theorem dp_ty {x : V} {d : PyData} (h : Dp K H x d) : TyX K H x (.type (tyD d)) := by
  cases h with
  | non => exact .base .non
  | bl b => exact .base (.bl b)
  | int i => exact .base (.int i)
  | str x => exact .base (.str x)
  | lst h _ => exact ty_lst h
  | tup h _ => exact ty_tup h
theorem dp_items {x : V} {d : PyData} {ds : List PyData} (h : Dp K H x d) (e : dItems d = some ds) : ∃ a xs, x = .ref a ∧ Seq K H a xs ∧ DpAll K H xs ds := by
  cases h with
  | non => cases e
  | bl b => cases e
  | int i => cases e
  | str x => cases e
  | lst h t => cases e; exact ⟨_, _, rfl, .inl h, t⟩
  | tup h t => cases e; exact ⟨_, _, rfl, .inr h, t⟩
theorem wf_items {n : Nat} {d : PyData} {ds : List PyData} (w : Wf n d) (e : dItems d = some ds) : ds.length ≤ 1000 ∧ ∃ m, n = m + 1 ∧ ∀ x ∈ ds, Wf m x := by
  cases w with
  | non => cases e
  | bl b => cases e
  | int i => cases e
  | str x => cases e
  | lst z h => cases e; exact ⟨z, _, rfl, h⟩
  | tup z h => cases e; exact ⟨z, _, rfl, h⟩
theorem kit_int {x : V} {d : PyData} (h : Dp K H x d) : PySem.W.kitOne K (.type (tyD d)) (.type "int") = some (dInt d || dBool d) := by
  cases h with
  | non => exact kit_ty (show kitB "NoneType" "int" = some false by decide +kernel)
  | bl b => exact kit_ty (show kitB "bool" "int" = some true by decide +kernel)
  | int i => exact kit_ty (show kitB "int" "int" = some true by decide +kernel)
  | str x => exact kit_ty (show kitB "str" "int" = some false by decide +kernel)
  | lst h t => exact kit_ty (show kitB "list" "int" = some false by decide +kernel)
  | tup h t => exact kit_ty (show kitB "tuple" "int" = some false by decide +kernel)
theorem kit_bool {x : V} {d : PyData} (h : Dp K H x d) : PySem.W.kitOne K (.type (tyD d)) (.type "bool") = some (dBool d) := by
  cases h with
  | non => exact kit_ty (show kitB "NoneType" "bool" = some false by decide +kernel)
  | bl b => exact kit_ty (show kitB "bool" "bool" = some true by decide +kernel)
  | int i => exact kit_ty (show kitB "int" "bool" = some false by decide +kernel)
  | str x => exact kit_ty (show kitB "str" "bool" = some false by decide +kernel)
  | lst h t => exact kit_ty (show kitB "list" "bool" = some false by decide +kernel)
  | tup h t => exact kit_ty (show kitB "tuple" "bool" = some false by decide +kernel)
def dTup : PyData → Bool
  | .tuple _ => true
  | _ => false
theorem kit_tuple {x : V} {d : PyData} (h : Dp K H x d) : PySem.W.kitOne K (.type (tyD d)) (.type "tuple") = some (dTup d) := by
  cases h with
  | non => exact kit_ty (show kitB "NoneType" "tuple" = some false by decide +kernel)
  | bl b => exact kit_ty (show kitB "bool" "tuple" = some false by decide +kernel)
  | int i => exact kit_ty (show kitB "int" "tuple" = some false by decide +kernel)
  | str x => exact kit_ty (show kitB "str" "tuple" = some false by decide +kernel)
  | lst h t => exact kit_ty (show kitB "list" "tuple" = some false by decide +kernel)
  | tup h t => exact kit_ty (show kitB "tuple" "tuple" = some true by decide +kernel)
theorem kit_seq {x : V} {d : PyData} (h : Dp K H x d) : PySem.W.kitAny K (.type (tyD d)) [.type "list", .type "tuple"] = some (dSeq d) := by
  cases h with
  | non => exact kitAny_cons (b := false) (kit_ty (show kitB "NoneType" "list" = some false by decide +kernel)) (fun _ => kitAny_cons (b := false) (kit_ty (show kitB "NoneType" "tuple" = some false by decide +kernel)) (fun _ => kitAny_nil) fun z => nomatch z) fun z => nomatch z
  | bl b => exact kitAny_cons (b := false) (kit_ty (show kitB "bool" "list" = some false by decide +kernel)) (fun _ => kitAny_cons (b := false) (kit_ty (show kitB "bool" "tuple" = some false by decide +kernel)) (fun _ => kitAny_nil) fun z => nomatch z) fun z => nomatch z
  | int i => exact kitAny_cons (b := false) (kit_ty (show kitB "int" "list" = some false by decide +kernel)) (fun _ => kitAny_cons (b := false) (kit_ty (show kitB "int" "tuple" = some false by decide +kernel)) (fun _ => kitAny_nil) fun z => nomatch z) fun z => nomatch z
  | str x => exact kitAny_cons (b := false) (kit_ty (show kitB "str" "list" = some false by decide +kernel)) (fun _ => kitAny_cons (b := false) (kit_ty (show kitB "str" "tuple" = some false by decide +kernel)) (fun _ => kitAny_nil) fun z => nomatch z) fun z => nomatch z
  | lst h t => exact kitAny_cons (b := true) (kit_ty (show kitB "list" "list" = some true by decide +kernel)) (fun z => nomatch z) fun _ => rfl
  | tup h t => exact kitAny_cons (b := false) (kit_ty (show kitB "tuple" "list" = some false by decide +kernel)) (fun _ => kitAny_cons (b := true) (kit_ty (show kitB "tuple" "tuple" = some true by decide +kernel)) (fun z => nomatch z) fun _ => rfl) fun z => nomatch z
/-- bools as data -/
theorem bools_of : ∀ {vs : List V} {bs : List Bool}, DpAll K H vs (bs.map PyData.bool) → vs = bs.map V.bl
  | _, [], .nil => rfl
  | _, b :: bs, .cons h t => by cases h; rw [List.map_cons, bools_of t]
theorem ints_of : ∀ {vs : List V} {is : List Int}, DpAll K H vs (is.map PyData.int) → vs = is.map V.int
  | _, [], .nil => rfl
  | _, b :: bs, .cons h t => by cases h; rw [List.map_cons, ints_of t]
theorem dpAll_bools : ∀ bs : List Bool, DpAll K H (bs.map V.bl) (bs.map PyData.bool)
  | [] => .nil
  | b :: bs => .cons (.bl b) (dpAll_bools bs)
theorem dpAll_ints : ∀ is : List Int, DpAll K H (is.map V.int) (is.map PyData.int)
  | [] => .nil
  | b :: bs => .cons (.int b) (dpAll_ints bs)
end
theorem take_succ_of {α : Type} {l : List α} {i : Nat} {x : α} (h : l[i]? = some x) : l.take (i + 1) = l.take i ++ [x] := by
  rw [List.take_add_one, h]; rfl
/-- data without lists does not lean on a tracked list -/
theorem dp_put {K : PySem.W.Frag} {D : Addr} {acc acc' : List V} {n : Nat} {d : PyData} (t : Td n d) : ∀ {H : Hp} {v : V}, H D = some (.lst acc) → Dp K H v d → Dp K (upd H D (.lst acc')) v d := by
  induction t with
  | non => intro H v _ h; cases h; exact .non
  | bl b => intro H v _ h; cases h; exact .bl b
  | int i => intro H v _ h; cases h; exact .int i
  | str x => intro H v _ h; cases h; exact .str x
  | @tup n ds z _ ih =>
    intro H v hD h
    cases h with
    | @tup a xs _ hs ha =>
      have hs' : SqT K (upd H D (.lst acc')) a xs := by
        rcases hs with (e | ⟨o, e⟩) | e
        · exact .inl (.inl (by rw [upd_ne (fun q => by rw [q, hD] at e; cases e)]; exact e))
        · exact .inl (.inr ⟨o, by rw [upd_ne (fun q => by rw [q, hD] at e; cases e)]; exact e⟩)
        · exact .inr e
      refine .tup hs' ?_
      clear hs hs' z
      have all : ∀ (ds' : List PyData) (vs : List V), (∀ d ∈ ds', d ∈ ds) → DpAll K H vs ds' → DpAll K (upd H D (.lst acc')) vs ds' := by
        intro ds'
        induction ds' with
        | nil => intro vs _ h; cases h; exact .nil
        | cons e r ihr =>
          intro vs hm h
          cases h with
          | cons h1 h2 => exact .cons (ih e (hm e List.mem_cons_self) hD h1) (ihr _ (fun d hd => hm d (List.mem_cons_of_mem _ hd)) h2)
      exact all ds xs (fun _ h => h) ha
theorem dpAll_put {K : PySem.W.Frag} {D : Addr} {acc acc' : List V} {H : Hp} : ∀ {ds : List PyData} {vs : List V}, (∀ d ∈ ds, ∃ n, Td n d) → H D = some (.lst acc) → DpAll K H vs ds → DpAll K (upd H D (.lst acc')) vs ds
  | [], _, _, _, h => by cases h; exact .nil
  | d :: ds, _, ht, hD, h => by
    cases h with
    | cons h1 h2 =>
      obtain ⟨n, t⟩ := ht d List.mem_cons_self
      exact .cons (dp_put t hD h1) (dpAll_put (fun e he => ht e (List.mem_cons_of_mem _ he)) hD h2)
/-- the reading of [e for x in value], each element data made of the item -/
theorem lc_dp {K : PySem.W.Frag} {a : Addr} {xs : List V} {ds : List PyData} (F : PyData → PyData) {i0 : Nat} {te : TE} {vs : List Nat} {σ : St} {H1 : Hp} {Q : VK} (hq : Seq K H1 a xs) (hd : DpAll K H1 xs ds) (hz : ds.length ≤ 1000) (hF : ∀ d ∈ ds, ∃ n, Td n (F d))
    (hw : ∀ x : V, wipe ((wipe σ vs).set i0 (some x)) vs = wipe σ vs)
    (turn : ∀ (i : Nat) (x : V) (d : PyData) (H : Hp) (Qe : VK), ds[i]? = some d → Same H1 H → Dp K H x d → (∀ y H', Same H H' → Dp K H' y (F d) → Qe y H') → te ((wipe σ vs).set i0 (some x)) H Qe)
    (hQ : ∀ D acc H', H1 D = none → Same H1 H' → H' D = some (.lst acc) → DpAll K H' acc (ds.map F) → Q (.ref D) H') :
    tLc (fun σ H R => (SqL K H a xs ∧ R (Itl K a) H) ∨ (SqT K H a xs ∧ R (Itt K a) H)) (gName i0) tYes te vs σ H1 Q := by
  have el := dpAll_len hd
  have key : ∀ D, H1 D = none → ∀ i x H, xs[i]? = some x → (∃ acc, H D = some (.lst acc) ∧ Same H1 H ∧ DpAll K H acc ((ds.take i).map F)) → gName i0 x (wipe σ vs) H fun σ2 H2 => wipe σ2 vs = wipe σ vs ∧ tYes σ2 H2 fun b H3 =>
      if b = true then te σ2 H3 fun y H4 => ∃ acc, H4 D = some (.lst acc) ∧ acc.length < sizeLine ∧ (∃ acc', (upd H4 D (.lst (acc ++ [y]))) D = some (.lst acc') ∧ Same H1 (upd H4 D (.lst (acc ++ [y]))) ∧ DpAll K (upd H4 D (.lst (acc ++ [y]))) acc' ((ds.take (i + 1)).map F))
      else ∃ acc, H3 D = some (.lst acc) ∧ Same H1 H3 ∧ DpAll K H3 acc ((ds.take (i + 1)).map F) := by
    rintro D hD i x H hx ⟨acc, hacc, hs, hda⟩
    have hi : i < ds.length := by rw [← el]; exact (List.getElem?_eq_some_iff.mp hx).1
    have hdi : ds[i]? = some ds[i] := by simp [hi]
    obtain ⟨v, hv, hvd⟩ := dpAll_get hd hdi
    rw [hx] at hv
    obtain rfl := Option.some.inj hv
    refine ⟨hw x, ?_⟩
    dsimp only [tYes]
    rw [if_pos rfl]
    refine turn i x ds[i] H _ hdi hs (dp_same hs hvd) fun y H' hs' hy => ?_
    have hl9 : acc.length = i := by
      have := dpAll_len hda
      rw [List.length_map, List.length_take] at this; omega
    have sD : Same H1 (upd H' D (.lst (acc ++ [y]))) := fun b o e => by rw [upd_ne (ne_of_none e hD)]; exact hs' _ _ (hs _ _ e)
    refine ⟨acc, hs' _ _ hacc, by rw [hl9]; exact Nat.lt_of_le_of_lt (by omega : i ≤ 1000) (by decide), acc ++ [y], upd_same, sD, ?_⟩
    rw [take_succ_of hdi, List.map_append]
    refine dpAll_append (dpAll_put (fun e he => ?_) (hs' _ _ hacc) (dpAll_same hs' hda)) (dpAll_put (fun e he => ?_) (hs' _ _ hacc) (dpAll_one hy))
    · obtain ⟨d9, hd9, rfl⟩ := List.mem_map.mp he
      exact hF d9 (List.mem_of_mem_take hd9)
    · obtain rfl := List.mem_singleton.mp he
      exact hF _ (List.getElem_mem hi)
  have h0 : ∀ D, H1 D = none → ∃ acc, upd H1 D (.lst []) D = some (.lst acc) ∧ Same H1 (upd H1 D (.lst [])) ∧ DpAll K (upd H1 D (.lst [])) acc ((ds.take 0).map F) := fun D hD => ⟨[], upd_same, Same.new hD, .nil⟩
  have hfin : ∀ D, H1 D = none → ∀ H, (∃ acc, H D = some (.lst acc) ∧ Same H1 H ∧ DpAll K H acc ((ds.take xs.length).map F)) → Q (.ref D) H := fun D hD H ⟨acc, ha, hs, hda⟩ => by
    rw [el, List.take_length] at hda
    exact hQ D acc H hD hs ha hda
  rcases hq with h | h
  · exact .inl ⟨h, fun D hD => lc_list (K := K) (a := a) (xs := xs) (fun i H => ∃ acc, H D = some (.lst acc) ∧ Same H1 H ∧ DpAll K H acc ((ds.take i).map F)) (h0 D hD) (fun i H _ ⟨_, _, s, _⟩ => s.seq h) (fun i x H hx p => key D hD i x H hx p) (hfin D hD)⟩
  · exact .inr ⟨h, fun D hD => lc_tup (K := K) (a := a) (xs := xs) (fun i H => ∃ acc, H D = some (.lst acc) ∧ Same H1 H ∧ DpAll K H acc ((ds.take i).map F)) (h0 D hD) (fun i H _ ⟨_, _, s, _⟩ => sqT_same s h) (fun i x H hx p => key D hD i x H hx p) (hfin D hD)⟩
theorem lc_dpS {K : PySem.W.Frag} {a : Addr} {xs : List V} {ds : List PyData} (F : PyData → PyData) {i0 : Nat} {tl te : TE} {vs : List Nat} {σ : St} {H1 : Hp} {Q : VK} (ht : ∀ R, R (.ref a) H1 → tl σ H1 R) (hq : Seq K H1 a xs) (hd : DpAll K H1 xs ds) (hz : ds.length ≤ 1000) (hF : ∀ d ∈ ds, ∃ n, Td n (F d))
    (hw : ∀ x : V, wipe ((wipe σ vs).set i0 (some x)) vs = wipe σ vs)
    (turn : ∀ (i : Nat) (x : V) (d : PyData) (H : Hp) (Qe : VK), ds[i]? = some d → Same H1 H → Dp K H x d → (∀ y H', Same H H' → Dp K H' y (F d) → Qe y H') → te ((wipe σ vs).set i0 (some x)) H Qe)
    (hQ : ∀ D acc H', H1 D = none → Same H1 H' → H' D = some (.lst acc) → DpAll K H' acc (ds.map F) → Q (.ref D) H') :
    tLc (iSeq K tl) (gName i0) tYes te vs σ H1 Q := ht _ ⟨a, xs, rfl, lc_dp F hq hd hz hF hw turn hQ⟩
theorem tcb1 {r : List V → Hp → VK → Prop} {te : TE} {σ : St} {H : Hp} {Q : VK} (h : te σ H fun x H' => r [x] H' Q) : tCB r (tCons te tNil) σ H Q := h
theorem tcall1 {sp : Sp} {dvs : List V} {E : XK} {te : TE} {σ : St} {H : Hp} {Q : VK} (h : te σ H fun x H' => sp ([x] ++ dvs) H' Q E) : tCall sp dvs E (tCons te tNil) σ H Q := h
theorem tret {te : TE} {D : Ends} {σ : St} {H : Hp} (h : te σ H D.rt) : tRet te D σ H := h
theorem tnx {D : Ends} {σ : St} {H : Hp} (h : D.nx σ H) : tNext D σ H := h
abbrev rLenQ (K : PySem.W.Frag) : List V → Hp → VK → Prop := fun xs H Q => ∃ p ys, xs = [.ref p] ∧ (SqL K H p ys ∨ SqT K H p ys) ∧ Q (.int ys.length) H
abbrev rLstQ (K : PySem.W.Frag) : List V → Hp → VK → Prop := fun xs H Q => ∃ p ys, xs = [.ref p] ∧ (SqL K H p ys ∨ SqT K H p ys) ∧ ∀ l, H l = none → Q (.ref l) (upd H l (.lst ys))
abbrev rTupQ (K : PySem.W.Frag) : List V → Hp → VK → Prop := fun xs H Q => ∃ p ys, xs = [.ref p] ∧ ((SqL K H p ys ∧ ∀ l, H l = none → Q (.ref l) (upd H l (.tup ys))) ∨ (SqT K H p ys ∧ Q (.ref p) H))
/-- promises over data -/
def spB1 (K : PySem.W.Frag) (f : PyData → Bool) : Sp := fun vs H Q _ => ∃ (x : V) (d : PyData) (n : Nat), vs = [x] ∧ Dp K H x d ∧ Wf n d ∧ ∀ H', Same H H' → Q (.bl (f d)) H'
def spB2 (K : PySem.W.Frag) (f : PyData → Int → Bool) : Sp := fun vs H Q _ => ∃ (x : V) (d : PyData) (n : Nat) (i : Int), vs = [x, .int i] ∧ Dp K H x d ∧ Wf n d ∧ ∀ H', Same H H' → Q (.bl (f d i)) H'
def spB3 (K : PySem.W.Frag) (f : PyData → Int → Int → Bool) : Sp := fun vs H Q _ => ∃ (x : V) (d : PyData) (n : Nat) (i j : Int), vs = [x, .int i, .int j] ∧ Dp K H x d ∧ Wf n d ∧ ∀ H', Same H H' → Q (.bl (f d i j)) H'
/-- is_ascending of a list of ints -/
def spAscI (K : PySem.W.Frag) : Sp := fun vs H Q _ => ∃ (a : Addr) (ns : List Int), vs = [.ref a] ∧ Seq K H a (ns.map V.int) ∧ ns.length ≤ 1000 ∧ ∀ H', Same H H' → Q (.bl (ascI ns)) H'
/-- plain(value) -/
def spPlain (K : PySem.W.Frag) (n : Nat) : Sp := fun vs H Q _ => ∃ (x : V) (d : PyData) (m : Nat), vs = [x] ∧ Dp K H x d ∧ Wf m d ∧ m < n ∧ ∀ y H', Same H H' → Dp K H' y (dPlain d) → Q y H'
theorem td_plain {n : Nat} {d : PyData} (h : Wf n d) : Td n (dPlain d) := by
  induction h with
  | non => exact .non
  | bl b => exact .bl b
  | int i => exact .int i
  | str x => exact .str x
  | lst z _ ih =>
    show Td _ (.tuple (dPlains _))
    rw [dPlains_map]
    exact .tup (by rw [List.length_map]; exact z) fun d hd => by obtain ⟨e, he, rfl⟩ := List.mem_map.mp hd; exact ih e he
  | tup z _ ih =>
    show Td _ (.tuple (dPlains _))
    rw [dPlains_map]
    exact .tup (by rw [List.length_map]; exact z) fun d hd => by obtain ⟨e, he, rfl⟩ := List.mem_map.mp hd; exact ih e he
/-- the reading of [e for i in range(n)], each element data made of i -/
theorem lc_rng {K : PySem.W.Frag} (n : Nat) (F : Nat → PyData) {i0 : Nat} {j : Int} {ta : TA} {te : TE} {vs : List Nat} {σ : St} {H1 : Hp} {Q : VK} (ht : ∀ R, R [.int j] H1 → ta σ H1 R) (hj : j.toNat = n) (hj0 : -1000 ≤ j) (hz : n ≤ 1000) (hF : ∀ i, i < n → ∃ m, Td m (F i))
    (hw : ∀ x : V, wipe ((wipe σ vs).set i0 (some x)) vs = wipe σ vs)
    (turn : ∀ (i : Nat) (H : Hp) (Qe : VK), i < n → Same H1 H → (∀ y H', Same H H' → Dp K H' y (F i) → Qe y H') → te ((wipe σ vs).set i0 (some (.int (0 + (i : Int))))) H Qe)
    (hQ : ∀ D acc H', H1 D = none → Same H1 H' → H' D = some (.lst acc) → DpAll K H' acc ((List.range n).map F) → Q (.ref D) H') :
    tLc (iRng1 ta) (gName i0) tYes te vs σ H1 Q := by
  refine ht _ ⟨j, rfl, ?_, ?_, ?_⟩
  · have e62 : (2 : Int) ^ 62 = 4611686018427387904 := by decide
    omega
  · have e62 : (2 : Int) ^ 62 = 4611686018427387904 := by decide
    omega
  rw [hj]
  intro D hD
  refine lc_range (lo := 0) (n := n) (fun i H => ∃ acc, H D = some (.lst acc) ∧ Same H1 H ∧ DpAll K H acc ((List.range i).map F)) ⟨[], upd_same, Same.new hD, .nil⟩ ?_ (fun H ⟨acc, ha, hs, hda⟩ => hQ D acc H hD hs ha hda)
  rintro i H hi ⟨acc, hacc, hs, hda⟩
  refine ⟨hw _, ?_⟩
  dsimp only [tYes]
  rw [if_pos rfl]
  refine turn i H _ hi hs fun y H' hs' hy => ?_
  have hl9 : acc.length = i := by
    have := dpAll_len hda
    rw [List.length_map, List.length_range] at this; exact this
  have sD : Same H1 (upd H' D (.lst (acc ++ [y]))) := fun b o e => by rw [upd_ne (ne_of_none e hD)]; exact hs' _ _ (hs _ _ e)
  refine ⟨acc, hs' _ _ hacc, by rw [hl9]; exact Nat.lt_of_le_of_lt (by omega : i ≤ 1000) (by decide), acc ++ [y], upd_same, sD, ?_⟩
  rw [List.range_succ, List.map_append]
  refine dpAll_append (dpAll_put (fun e he => ?_) (hs' _ _ hacc) (dpAll_same hs' hda)) (dpAll_put (fun e he => ?_) (hs' _ _ hacc) (dpAll_one hy))
  · obtain ⟨d9, hd9, rfl⟩ := List.mem_map.mp he
    exact hF d9 (by have := List.mem_range.mp hd9; omega)
  · obtain rfl := List.mem_singleton.mp he
    exact hF _ hi
theorem ascI_range : ∀ ns : List Int, ascI ns = ((List.range (ns.length - 1)).map fun i => decide (ns.getD i 0 < ns.getD (i + 1) 0)).all id
  | [] => rfl
  | [_] => rfl
  | a :: b :: r => by
    have ih := ascI_range (b :: r)
    have e : (a :: b :: r).length - 1 = ((b :: r).length - 1) + 1 := by simp
    show (decide (a < b) && ascI (b :: r)) = _
    rw [e, List.range_succ_eq_map, List.map_cons, List.all_cons, List.map_map, ih]
    rfl
theorem getD_at {ns : List Int} {i : Nat} (h : i < ns.length) : (ns.map V.int)[i]? = some (V.int (ns.getD i 0)) := by
  simp [h]
theorem seq_ix {K : PySem.W.Frag} {H : Hp} {a : Addr} {xs : List V} {i : Int} {v : V} {Q : VK} (hq : Seq K H a xs) (h : atI xs i = some v) (q : Q v H) : rIx K (.ref a) (.int i) H Q := by
  rcases hq with e | e
  · exact .inl ⟨a, xs, i, v, rfl, rfl, e, h, q⟩
  · exact .inr (.inl ⟨a, xs, i, v, rfl, rfl, e, h, q⟩)
theorem all_false {α : Type} {f : α → Bool} {l : List α} {x : α} (h : x ∈ l) (e : f x = false) : l.all f = false := by
  cases q : l.all f with
  | false => rfl
  | true => rw [List.all_eq_true.mp q x h] at e; cases e
end Mw
set_option Elab.async false
set_option linter.all false
set_option maxRecDepth 100000
set_option maxHeartbeats 2000000
/-! Errors that are raised with a number; constants; pairs walked. -/
namespace Mw
open PySem L2
/-- a constant of the module -/
theorem pe_const {X : Cx} {x : Str} {i : Int} {pos : Pos} (h : ∃ t, X.mg x = some (.int i t)) (hg : Gl X x := by rfl) (hdb : (x == ("__debug__" : Str)) = false := by decide) : PE X (.Name x pos) (tC (.int i)) := by
  obtain ⟨t, h⟩ := h
  exact pe_glob (v := .int i) hg h ⟨_, rfl⟩ hdb
/-- the promise of __init__(self, f): self.f = f -/
def spIni1 (K : PySem.W.Frag) (C : Addr) (f : Str) : Sp := fun vs H Q _ => ∃ (a : Addr) (v : V), vs = [.ref a, v] ∧ H a = some (exo a C none) ∧
  ∀ dx, H dx = none → dx ≠ a → Q .non (upd (upd H dx (exd dx [(f, v)])) a (exo a C (some dx)))
/-- of __init__(self, f, g) -/
def spIni2 (K : PySem.W.Frag) (C : Addr) (f g : Str) : Sp := fun vs H Q _ => ∃ (a : Addr) (v u : V), vs = [.ref a, v, u] ∧ H a = some (exo a C none) ∧
  ∀ dx, H dx = none → dx ≠ a → Q .non (upd (upd (upd H dx (exd dx [(f, v)])) a (exo a C (some dx))) dx (exd dx [(g, u), (f, v)]))
/-- an error class by what its making promises -/
def ExC (P : Program) (w : World) (K : PySem.W.Frag) (mg : Str → Option Value) (base : Heap) (x : Str) (C : Addr) (ps : List Str) (sp : Sp) : Prop :=
  mg x = some (.ref C) ∧ ExM K C ∧ ∃ (fI : Addr) (fd : FuncData), PySem.W.findIn K (.ref C) "__init__" = some (some (.ref fI)) ∧ PySem.W.typeIn K (.ref fI) = some (.type "function") ∧ FnOk P w K mg base CX0 1 fI fd ps sp ∧ Binds K fd ps []
theorem pmk_ex {X : Cx} {x : Str} {C : Addr} {ps : List Str} {sp : Sp} {e : Expr} {es : List Expr} {ta : TA} {p pos : Pos} {k : Nat} (c : ExC X.prog X.w X.K X.mg X.base x C ps sp) (hr : Room (k + 2) X.A) (ha : PA X (e :: es) ta) (hg : Gl X x := by rfl)
    (hdb : (x == ("__debug__" : Str)) = false := by decide) (he : starEach (e :: es) X.env = (false, eval e X.env) :: starEach es X.env := by rfl) (hpl : (backTo pos (starEach es X.env)).any (·.1) = false := by rfl) :
    PMk X (.Call (.Name x p) (e :: es) [] pos) (tMade C sp ta) := by
  obtain ⟨g, T, fI, fd, iC, tI, F, b⟩ := c
  exact pmk_made T iC tI F (hr.mono (by omega)) b pass0 hg g ha hdb he hpl
theorem made1 {K : PySem.W.Frag} {C : Addr} {f : Str} {v : V} {H : Hp} {Q : XK} (h : ∀ d H', Same H H' → H d = none → H' d = some (.xd [(f, v)]) → Q (.ref C) (some d) H') :
    ∀ a, H a = none → spIni1 K C f [.ref a, v] (upd H a (exo a C none)) (fun v' H2 => v' = .non ∧ ∃ (d : Addr) (fs : List (Str × V)), H2 a = some (exo a C (some d)) ∧ H2 d = some (exd d fs) ∧ H d = none ∧ Q (.ref C) (some d) (upd (del H2 a) d (.xd fs))) (fun _ _ _ => False) := fun a ha =>
  ⟨a, v, rfl, upd_same, fun dx hdx hne => by
    have hn : H dx = none := by rw [upd_ne hne] at hdx; exact hdx
    refine ⟨rfl, dx, [(f, v)], upd_same, by rw [upd_ne hne]; exact upd_same, hn, h dx _ (fun b o e => ?_) hn upd_same⟩
    have b1 : b ≠ dx := ne_of_none e hn
    have b2 : b ≠ a := ne_of_none e ha
    rw [upd_ne b1, del_ne b2, upd_ne b2, upd_ne b1, upd_ne b2]
    exact e⟩
theorem made2 {K : PySem.W.Frag} {C : Addr} {f g : Str} {v u : V} {H : Hp} {Q : XK} (h : ∀ d H', Same H H' → H d = none → H' d = some (.xd [(g, u), (f, v)]) → Q (.ref C) (some d) H') :
    ∀ a, H a = none → spIni2 K C f g [.ref a, v, u] (upd H a (exo a C none)) (fun v' H2 => v' = .non ∧ ∃ (d : Addr) (fs : List (Str × V)), H2 a = some (exo a C (some d)) ∧ H2 d = some (exd d fs) ∧ H d = none ∧ Q (.ref C) (some d) (upd (del H2 a) d (.xd fs))) (fun _ _ _ => False) := fun a ha =>
  ⟨a, v, u, rfl, upd_same, fun dx hdx hne => by
    have hn : H dx = none := by rw [upd_ne hne] at hdx; exact hdx
    refine ⟨rfl, dx, [(g, u), (f, v)], by rw [upd_ne hne.symm]; exact upd_same, upd_same, hn, h dx _ (fun b o e => ?_) hn upd_same⟩
    have b1 : b ≠ dx := ne_of_none e hn
    have b2 : b ≠ a := ne_of_none e ha
    rw [upd_ne b1, del_ne b2, upd_ne b1, upd_ne b2, upd_ne b1, upd_ne b2]
    exact e⟩
/-- what a check says: nothing, or an error with its class (by a number) and its fields -/
abbrev Flt := Option (Nat × List (Str × V))
/-- the end of a check: cs tells the classes -/
def Ends1 (cs : Nat → Addr) (r : Flt) (H : Hp) (ok : Hp → Prop) (E : XK) : Prop := match r with
  | none => ∀ H', Same H H' → ok H'
  | some (c, fs) => ∀ d H', Same H H' → H d = none → H' d = some (.xd fs) → E (.ref (cs c)) (some d) H'
theorem Ends1.from {cs : Nat → Addr} {r : Flt} {H H1 : Hp} {ok : Hp → Prop} {E : XK} (h : Ends1 cs r H ok E) (s : Same H H1) : Ends1 cs r H1 ok E := by
  cases r with
  | none => exact fun H' s' => h H' (s.trans s')
  | some p => exact fun d H' s' n e => h d H' (s.trans s') (s.free n) e
def fValue (n : Int) : Flt := some (0, [("at", .int n)])
def fState (n : Int) : Flt := some (1, [("at", .int n)])
def fMethod (t m : Int) : Flt := some (2, [("method", .int m), ("task", .int t)])
/-- the first that is not as told -/
def firstBad (f : PyData → Bool) : List PyData → Option Nat
  | [] => none
  | d :: r => if f d = true then (firstBad f r).map (· + 1) else some 0
theorem firstBad_none {f : PyData → Bool} : ∀ {l : List PyData}, (∀ d ∈ l, f d = true) → firstBad f l = none
  | [], _ => rfl
  | d :: r, h => by
    unfold firstBad
    rw [if_pos (h d List.mem_cons_self), firstBad_none fun e he => h e (List.mem_cons_of_mem _ he)]; rfl
theorem firstBad_some {f : PyData → Bool} : ∀ {l : List PyData} {i : Nat} {d : PyData}, l[i]? = some d → f d = false → (∀ e ∈ l.take i, f e = true) → firstBad f l = some i
  | [], _, _, h, _, _ => by simp at h
  | d :: r, 0, e, h, hf, _ => by
    simp at h; subst h
    unfold firstBad
    rw [hf]; rfl
  | d :: r, i + 1, e, h, hf, ha => by
    unfold firstBad
    rw [if_pos (ha d (by simp)), firstBad_some (l := r) (i := i) (by simpa using h) hf fun x hx => ha x (by simp [hx])]; rfl
/-- for i, x in enumerate(value): the invariant says of the first i -/
theorem for_enum {K : PySem.W.Frag} {a : Addr} {xs : List V} {g : TG} {tb : TS} {D : Ends} {σ : St} {H : Hp} (hq : Seq K H a xs) (Pv : Nat → St → Hp → Prop) (h0 : Pv 0 σ H) (hl : ∀ i σ H', i ≤ xs.length → Pv i σ H' → Same H H')
    (hs : ∀ i x σ H1 T, xs[i]? = some x → Pv i σ H1 → H1 T = none → g (.ref T) σ (upd H1 T (.tup [.int (i : Nat), x])) fun σ2 H2 => tb { D with nx := Pv (i + 1), ct := Pv (i + 1), bk := D.nx } σ2 H2) (hd : ∀ σ H, Pv xs.length σ H → D.nx σ H) :
    (SqL K H a xs ∧ (fun J H1 => ∃ W : Nat → Nat → St → Hp → Prop, (∃ m, W 0 m σ H1) ∧ ∀ i m σ H, W i m σ H →
      (J.stop i H ∧ D.nx σ H) ∨ (J.go i H ∧ ∃ N : St → Hp → Prop, (∀ σ' H', N σ' H' → ∃ m', m' < m ∧ W (i + 1) m' σ' H') ∧ ∀ x H', J.yld i H x H' → g x σ H' fun σ2 H2 => tb { D with nx := N, ct := N, bk := D.nx } σ2 H2)) (Ite K a) H) ∨
    (SqT K H a xs ∧ (fun J H1 => ∃ W : Nat → Nat → St → Hp → Prop, (∃ m, W 0 m σ H1) ∧ ∀ i m σ H, W i m σ H →
      (J.stop i H ∧ D.nx σ H) ∨ (J.go i H ∧ ∃ N : St → Hp → Prop, (∀ σ' H', N σ' H' → ∃ m', m' < m ∧ W (i + 1) m' σ' H') ∧ ∀ x H', J.yld i H x H' → g x σ H' fun σ2 H2 => tb { D with nx := N, ct := N, bk := D.nx } σ2 H2)) (IteT K a) H) := by
  rcases hq with h | h
  · refine .inl ⟨h, fun i m σ H' => m = xs.length - i ∧ i ≤ xs.length ∧ Pv i σ H', ⟨xs.length, by simp, Nat.zero_le _, h0⟩, ?_⟩
    rintro i m σ H1 ⟨rfl, hi, p⟩
    have q : SqL K H1 a xs := (hl i σ H1 hi p).seq h
    by_cases hlt : i < xs.length
    · refine .inr ⟨⟨xs, xs[i], q, by simp [hlt]⟩, Pv (i + 1), fun σ' H' p' => ⟨xs.length - (i + 1), by omega, rfl, hlt, p'⟩, fun x H' ⟨T, y, ex, hT, eH, hy⟩ => ?_⟩
      subst ex eH
      exact hs i y σ H1 T (hy xs q) p hT
    · obtain rfl : i = xs.length := by omega
      exact .inl ⟨⟨xs, q, Nat.le_refl _⟩, hd σ H1 p⟩
  · refine .inr ⟨h, fun i m σ H' => m = xs.length - i ∧ i ≤ xs.length ∧ Pv i σ H', ⟨xs.length, by simp, Nat.zero_le _, h0⟩, ?_⟩
    rintro i m σ H1 ⟨rfl, hi, p⟩
    have q : SqT K H1 a xs := sqT_same (hl i σ H1 hi p) h
    by_cases hlt : i < xs.length
    · refine .inr ⟨⟨xs, xs[i], q, by simp [hlt]⟩, Pv (i + 1), fun σ' H' p' => ⟨xs.length - (i + 1), by omega, rfl, hlt, p'⟩, fun x H' ⟨T, y, ex, hT, eH, hy⟩ => ?_⟩
      subst ex eH
      exact hs i y σ H1 T (hy xs q) p hT
    · obtain rfl : i = xs.length := by omega
      exact .inl ⟨⟨xs, q, Nat.le_refl _⟩, hd σ H1 p⟩
end Mw
namespace Mw
open PySem L2
theorem passes_tk {X : Cx} {E : XK} (tk : Takes X (fun cls d _ H => E cls d H)) : Passes (L2.CX X.prog X.w) X E := fun _ _ _ _ e s' I c => tk e s' (XE.of_call I (fun _ _ _ h => h) c)
/-- an error class and its __init__, where they stand -/
def XDef (K : PySem.W.Frag) (mg : Str → Option Value) (x qual : Str) (C : Addr) (st : Stmt) (ps : List Str) : Prop :=
  mg x = some (.ref C) ∧ ExM K C ∧ ∃ (fI : Addr) (fd : FuncData), PySem.W.findIn K (.ref C) "__init__" = some (some (.ref fI)) ∧ PySem.W.typeIn K (.ref fI) = some (.type "function") ∧ Fun K "__init__" qual st fI fd ∧ Binds K fd ps []
theorem XDef.ok {P : Program} {w : World} {K : PySem.W.Frag} {mg : Str → Option Value} {base : Heap} {x qual : Str} {C : Addr} {st : Stmt} {N ps : List Str} {sp : Sp} (D : XDef K mg x qual C st ps) (S : FnScope N ps (defScope st)) (len : ∀ vs H Q E, sp vs H Q E → vs.length = ps.length)
    (hbody : ∀ (f : Addr) (cdv : Value) (A : Around) (outer : List Env) (s : Shared) (H : Hp) (vs : List V) (Q : VK) (E : XK), Room 0 (A.deeper (PyProof.Rows.envOfC qual (defScope st) s.heap.objs.size f cdv)) → sp vs H Q E →
      ∃ t, PSs (cxOf CX0 P w K mg base N qual (defScope st) f cdv A outer s H E).nox (defBody st) t ∧ t { nx := fun _ H' => Q .non H', rt := Q } (start N vs) H) : ExC P w K mg base x C ps sp := by
  obtain ⟨g, T, fI, fd, iC, tI, F, b⟩ := D
  exact ⟨g, T, fI, fd, iC, tI, F.ok S len (hbody fI), b⟩
/-- a class with its own __init__, where they stand -/
def CDef (K : PySem.W.Frag) (mg : Str → Option Value) (x qual : Str) (C : Addr) (st : Stmt) (ps : List Str) : Prop :=
  mg x = some (.ref C) ∧ Cls K C ∧ ∃ (fI : Addr) (fd : FuncData), Mk K C fI ∧ Fun K "__init__" qual st fI fd ∧ Binds K fd ps []
/-- .. by what its making promises -/
def CCal (P : Program) (w : World) (K : PySem.W.Frag) (mg : Str → Option Value) (base : Heap) (CX : CXT) (x : Str) (C : Addr) (k : Nat) (ps : List Str) (sp : Sp) : Prop :=
  mg x = some (.ref C) ∧ Cls K C ∧ ∃ (fI : Addr) (fd : FuncData), Mk K C fI ∧ FnOk P w K mg base CX k fI fd ps sp ∧ Binds K fd ps []
theorem CDef.okX {P : Program} {w : World} {K : PySem.W.Frag} {mg : Str → Option Value} {base : Heap} {x qual : Str} {C : Addr} {st : Stmt} {N ps : List Str} {sp : Sp} {k : Nat} (D : CDef K mg x qual C st ps) (S : FnScope N ps (defScope st)) (len : ∀ vs H Q E, sp vs H Q E → vs.length = ps.length)
    (hbody : ∀ (f : Addr) (cdv : Value) (A : Around) (outer : List Env) (s : Shared) (H : Hp) (vs : List V) (Q : VK) (E : XK), Room k (A.deeper (PyProof.Rows.envOfC qual (defScope st) s.heap.objs.size f cdv)) → sp vs H Q E →
      ∃ t, PSs (cxOf (L2.CX P w) P w K mg base N qual (defScope st) f cdv A outer s H E) (defBody st) t ∧ t { nx := fun _ H' => Q .non H', rt := Q } (start N vs) H) : CCal P w K mg base (L2.CX P w) x C (k + 1) ps sp := by
  obtain ⟨g, c, fI, fd, M, F, b⟩ := D
  exact ⟨g, c, fI, fd, M, F.okX S len (hbody fI), b⟩
/-- C(e, ..), errors of its __init__ let through -/
theorem pe_new {X : Cx} {x : Str} {C : Addr} {ps : List Str} {sp : Sp} {E : XK} {e : Expr} {es : List Expr} {ta : TA} {p pos : Pos} {k : Nat} (c : CCal X.prog X.w X.K X.mg X.base (L2.CX X.prog X.w) x C k ps sp) (hr : Room (k + 1) X.A) (hx : Passes (L2.CX X.prog X.w) X E) (ha : PA X (e :: es) ta) (hg : Gl X x := by rfl)
    (hdb : (x == ("__debug__" : Str)) = false := by decide) (he : starEach (e :: es) X.env = (false, eval e X.env) :: starEach es X.env := by rfl) (hpl : (backTo pos (starEach es X.env)).any (·.1) = false := by rfl) :
    PE X (.Call (.Name x p) (e :: es) [] pos) (tMake C sp [] E ta) := by
  obtain ⟨g, cl, fI, fd, M, F, b⟩ := c
  exact pe_make M F hr hg g b .nil hx ha hdb he hpl
/-! ### World's own checks, as functions of data -/
def dNone : PyData → Bool
  | .none => true
  | _ => false
def dMoves (d : PyData) (k n : Int) : Bool := dRow d k k && dAll (fun e => dNone e || dNum e n) d
def dLen (d : PyData) : Int := (((dItems d).getD []).length : Nat)
def errStates (d : PyData) (f : Int) : Flt := if dRow d 1 16 = true then (firstBad (fun e => dFacts e f) ((dItems d).getD [])).bind fun i => fState (i : Nat) else fValue 2
def errMoves (d : PyData) (n : Int) : Flt := if dRow d n n = true then (if dRow (dAt d 0) 1 5 = true then (firstBad (fun e => dMoves e (dLen (dAt d 0)) n) ((dItems d).getD [])).bind fun i => fState (i : Nat) else fState 0) else fValue 3
def errWorld (df ds dm : PyData) : Flt := if dBtw df 0 4 = true then (match errStates ds (dVal df) with | some e => some e | none => errMoves dm (dLen ds)) else fValue 1
/-- a World at a -/
def WorldAt (K : PySem.W.Frag) (C : Addr) (a : Addr) (f : Int) (ds dm : PyData) (H : Hp) : Prop := ∃ dx ys ym, H a = some (.ins C dx [("_facts", .int f), ("_states", ys), ("_moves", ym)]) ∧ Dp K H ys ds ∧ Dp K H ym dm
theorem WorldAt.same {K : PySem.W.Frag} {C a : Addr} {f : Int} {ds dm : PyData} {H H' : Hp} (h : WorldAt K C a f ds dm H) (s : Same H H') : WorldAt K C a f ds dm H' := by
  obtain ⟨dx, ys, ym, e, h1, h2⟩ := h
  exact ⟨dx, ys, ym, s _ _ e, dp_same s h1, dp_same s h2⟩
def spNeedStates (K : PySem.W.Frag) (cs : Nat → Addr) : Sp := fun vs H Q E => ∃ (x : V) (d : PyData) (n : Nat) (f : Int), vs = [x, .int f] ∧ Dp K H x d ∧ Wf n d ∧ Ends1 cs (errStates d f) H (fun H' => Q .non H') E
def spNeedMoves (K : PySem.W.Frag) (cs : Nat → Addr) : Sp := fun vs H Q E => ∃ (x : V) (d : PyData) (n : Nat) (m : Int), vs = [x, .int m] ∧ Dp K H x d ∧ Wf n d ∧ 1 ≤ m ∧ Ends1 cs (errMoves d m) H (fun H' => Q .non H') E
/-- World(facts, states, moves) at the new instance a -/
def spWorldInit (K : PySem.W.Frag) (C : Addr) (cs : Nat → Addr) (n : Nat) : Sp := fun vs H Q E => ∃ (a dx : Addr) (xf xs xm : V) (df ds dm : PyData), vs = [.ref a, xf, xs, xm] ∧ H a = some (.ins C dx []) ∧ Dp K H xf df ∧ Dp K H xs ds ∧ Dp K H xm dm ∧ Wf n df ∧ Wf n ds ∧ Wf n dm ∧
  (match errWorld df ds dm with
   | none => ∀ H', (∀ b o, b ≠ a → H b = some o → H' b = some o) → WorldAt K C a (dVal df) (dPlain ds) (dPlain dm) H' → Q .non H'
   | some (c, fs) => ∀ d H', Same H H' → H d = none → H' d = some (.xd fs) → E (.ref (cs c)) (some d) H')
end Mw
namespace Mw
open PySem L2
/-- all but instances is as it was -/
def SameS (H H' : Hp) : Prop := ∀ b o, (∀ C dx fs, o ≠ HO.ins C dx fs) → H b = some o → H' b = some o
theorem SameS.put {H : Hp} {a C dx : Addr} {fs fs' : List (Str × V)} (h : H a = some (.ins C dx fs)) : SameS H (upd H a (.ins C dx fs')) := fun b o n e => by
  have nb : b ≠ a := fun q => by rw [q, h] at e; exact n C dx fs (Option.some.inj e).symm
  rw [upd_ne nb]; exact e
mutual
theorem dp_keep {K : PySem.W.Frag} {H H' : Hp} (e : SameS H H') : ∀ {d : PyData} {v : V}, Dp K H v d → Dp K H' v d
  | _, _, .non => .non
  | _, _, .bl b => .bl b
  | _, _, .int i => .int i
  | _, _, .str x => .str x
  | _, _, .lst h t => by
    refine .lst ?_ (dpAll_keep e t)
    rcases h with (h | ⟨o, h⟩) | h
    · exact .inl (.inl (e _ _ (fun _ _ _ z => nomatch z) h))
    · exact .inl (.inr ⟨o, e _ _ (fun _ _ _ z => nomatch z) h⟩)
    · exact .inr h
  | _, _, .tup h t => by
    refine .tup ?_ (dpAll_keep e t)
    rcases h with (h | ⟨o, h⟩) | h
    · exact .inl (.inl (e _ _ (fun _ _ _ z => nomatch z) h))
    · exact .inl (.inr ⟨o, e _ _ (fun _ _ _ z => nomatch z) h⟩)
    · exact .inr h
theorem dpAll_keep {K : PySem.W.Frag} {H H' : Hp} (e : SameS H H') : ∀ {ds : List PyData} {vs : List V}, DpAll K H vs ds → DpAll K H' vs ds
  | _, _, .nil => .nil
  | _, _, .cons h t => .cons (dp_keep e h) (dpAll_keep e t)
end
/-- all but a is as it was -/
def But (a : Addr) (H H' : Hp) : Prop := ∀ b o, b ≠ a → H b = some o → H' b = some o
theorem But.same {a : Addr} {H H1 H' : Hp} (h : But a H H1) (s : Same H1 H') : But a H H' := fun b o n e => s _ _ (h b o n e)
theorem But.put {a : Addr} {H H1 : Hp} {o : HO} (h : But a H H1) : But a H (upd H1 a o) := fun b u n e => by rw [upd_ne n]; exact h b u n e
theorem Same.but {a : Addr} {H H1 : Hp} (s : Same H H1) : But a H H1 := fun b o _ e => s b o e
end Mw
set_option Elab.async false
set_option linter.all false
set_option maxRecDepth 100000
set_option maxHeartbeats 2000000
/-! Comprehensions with any target; worlds of facts as functions of data. -/
namespace Mw
open PySem L2
theorem tyes_if {σ2 : St} {H2 : Hp} {A : Prop} {B : Hp → Prop} {C : Hp → Prop} : (A ∧ tYes σ2 H2 fun b H3 => if b = true then B H3 else C H3) = (A ∧ B H2) := by
  show (A ∧ (if true = true then B H2 else C H2)) = (A ∧ B H2)
  rw [if_pos rfl]
/-- [e for target in value], the target of any form -/
theorem lc_dpG {K : PySem.W.Frag} {a : Addr} {xs : List V} {ds : List PyData} (F : Nat → PyData → PyData) {g : TG} {tl te : TE} {vs : List Nat} {σ : St} {H1 : Hp} {Q : VK} (ht : ∀ R, R (.ref a) H1 → tl σ H1 R) (hq : Seq K H1 a xs) (hd : DpAll K H1 xs ds) (hz : ds.length ≤ 1000) (hF : ∀ i d, ds[i]? = some d → ∃ n, Td n (F i d))
    (turn : ∀ (i : Nat) (x : V) (d : PyData) (H : Hp) (Qe : VK), ds[i]? = some d → xs[i]? = some x → Same H1 H → Dp K H x d → (∀ y H', Same H H' → Dp K H' y (F i d) → Qe y H') → g x (wipe σ vs) H fun σ2 H2 => wipe σ2 vs = wipe σ vs ∧ te σ2 H2 Qe)
    (hQ : ∀ D acc H', H1 D = none → Same H1 H' → H' D = some (.lst acc) → DpAll K H' acc (ds.mapIdx F) → Q (.ref D) H') :
    tLc (iSeq K tl) g tYes te vs σ H1 Q := by
  have el := dpAll_len hd
  have key : ∀ D, H1 D = none → ∀ i x H, xs[i]? = some x → (∃ acc, H D = some (.lst acc) ∧ Same H1 H ∧ DpAll K H acc ((ds.take i).mapIdx F)) → g x (wipe σ vs) H fun σ2 H2 => wipe σ2 vs = wipe σ vs ∧ tYes σ2 H2 fun b H3 =>
      if b = true then te σ2 H3 fun y H4 => ∃ acc, H4 D = some (.lst acc) ∧ acc.length < sizeLine ∧ (∃ acc', (upd H4 D (.lst (acc ++ [y]))) D = some (.lst acc') ∧ Same H1 (upd H4 D (.lst (acc ++ [y]))) ∧ DpAll K (upd H4 D (.lst (acc ++ [y]))) acc' ((ds.take (i + 1)).mapIdx F))
      else ∃ acc, H3 D = some (.lst acc) ∧ Same H1 H3 ∧ DpAll K H3 acc ((ds.take (i + 1)).mapIdx F) := by
    rintro D hD i x H hx ⟨acc, hacc, hs, hda⟩
    have hi : i < ds.length := by rw [← el]; exact (List.getElem?_eq_some_iff.mp hx).1
    have hdi : ds[i]? = some ds[i] := by simp [hi]
    obtain ⟨v, hv, hvd⟩ := dpAll_get hd hdi
    rw [hx] at hv
    obtain rfl := Option.some.inj hv
    simp only [tyes_if]
    refine turn i x ds[i] H _ hdi hx hs (dp_same hs hvd) fun y H' hs' hy => ?_
    have hl9 : acc.length = i := by
      have := dpAll_len hda
      rw [List.length_mapIdx, List.length_take] at this; omega
    have sD : Same H1 (upd H' D (.lst (acc ++ [y]))) := fun b o e => by rw [upd_ne (ne_of_none e hD)]; exact hs' _ _ (hs _ _ e)
    refine ⟨acc, hs' _ _ hacc, by rw [hl9]; exact Nat.lt_of_le_of_lt (by omega : i ≤ 1000) (by decide), acc ++ [y], upd_same, sD, ?_⟩
    have em : (ds.take (i + 1)).mapIdx F = (ds.take i).mapIdx F ++ [F i ds[i]] := by
      rw [take_succ_of hdi, List.mapIdx_append]
      have : (ds.take i).length = i := by rw [List.length_take]; omega
      simp [this]
    rw [em]
    refine dpAll_append (dpAll_put (fun e he => ?_) (hs' _ _ hacc) (dpAll_same hs' hda)) (dpAll_put (fun e he => ?_) (hs' _ _ hacc) (dpAll_one hy))
    · obtain ⟨j, hj, rfl⟩ := List.mem_mapIdx.mp he
      have hj2 : j < ds.length := by rw [List.length_take] at hj; omega
      have e9 : (ds.take i)[j] = ds[j] := by simp
      rw [e9]
      exact hF j ds[j] (by simp [hj2])
    · obtain rfl := List.mem_singleton.mp he
      exact hF i _ hdi
  have h0 : ∀ D, H1 D = none → ∃ acc, upd H1 D (.lst []) D = some (.lst acc) ∧ Same H1 (upd H1 D (.lst [])) ∧ DpAll K (upd H1 D (.lst [])) acc ((ds.take 0).mapIdx F) := fun D hD => ⟨[], upd_same, Same.new hD, .nil⟩
  have hfin : ∀ D, H1 D = none → ∀ H, (∃ acc, H D = some (.lst acc) ∧ Same H1 H ∧ DpAll K H acc ((ds.take xs.length).mapIdx F)) → Q (.ref D) H := fun D hD H ⟨acc, ha, hs, hda⟩ => by
    rw [el, List.take_length] at hda
    exact hQ D acc H hD hs ha hda
  refine ht _ ⟨a, xs, rfl, ?_⟩
  rcases hq with h | h
  · exact .inl ⟨h, fun D hD => lc_list (K := K) (a := a) (xs := xs) (fun i H => ∃ acc, H D = some (.lst acc) ∧ Same H1 H ∧ DpAll K H acc ((ds.take i).mapIdx F)) (h0 D hD) (fun i H _ ⟨_, _, s, _⟩ => s.seq h) (fun i x H hx p => key D hD i x H hx p) (hfin D hD)⟩
  · exact .inr ⟨h, fun D hD => lc_tup (K := K) (a := a) (xs := xs) (fun i H => ∃ acc, H D = some (.lst acc) ∧ Same H1 H ∧ DpAll K H acc ((ds.take i).mapIdx F)) (h0 D hD) (fun i H _ ⟨_, _, s, _⟩ => sqT_same s h) (fun i x H hx p => key D hD i x H hx p) (hfin D hD)⟩
/-- [e for i, x in enumerate(value)] -/
theorem lc_enum {K : PySem.W.Frag} {a : Addr} {xs : List V} {ds : List PyData} (F : Nat → PyData → PyData) {g : TG} {ta : TA} {te : TE} {vs : List Nat} {σ : St} {H1 : Hp} {Q : VK} (ht : ∀ R, R [.ref a] H1 → ta σ H1 R) (hq : Seq K H1 a xs) (hd : DpAll K H1 xs ds) (hz : ds.length ≤ 1000) (hF : ∀ i d, ds[i]? = some d → ∃ n, Td n (F i d))
    (turn : ∀ (i : Nat) (x : V) (d : PyData) (T : Addr) (H : Hp) (Qe : VK), ds[i]? = some d → Same H1 H → H T = some (.tup [.int (i : Nat), x]) → Dp K H x d → (∀ y H', Same H H' → Dp K H' y (F i d) → Qe y H') → g (.ref T) (wipe σ vs) H fun σ2 H2 => wipe σ2 vs = wipe σ vs ∧ te σ2 H2 Qe)
    (hQ : ∀ D acc H', H1 D = none → Same H1 H' → H' D = some (.lst acc) → DpAll K H' acc (ds.mapIdx F) → Q (.ref D) H') :
    tLc (iEnumS K ta) g tYes te vs σ H1 Q := by
  have el := dpAll_len hd
  have key : ∀ D, H1 D = none → ∀ i x H T, xs[i]? = some x → H T = none → (∃ acc, H D = some (.lst acc) ∧ Same H1 H ∧ DpAll K H acc ((ds.take i).mapIdx F)) → g (.ref T) (wipe σ vs) (upd H T (.tup [.int (i : Nat), x])) fun σ2 H2 => wipe σ2 vs = wipe σ vs ∧ tYes σ2 H2 fun b H3 =>
      if b = true then te σ2 H3 fun y H4 => ∃ acc, H4 D = some (.lst acc) ∧ acc.length < sizeLine ∧ (∃ acc', (upd H4 D (.lst (acc ++ [y]))) D = some (.lst acc') ∧ Same H1 (upd H4 D (.lst (acc ++ [y]))) ∧ DpAll K (upd H4 D (.lst (acc ++ [y]))) acc' ((ds.take (i + 1)).mapIdx F))
      else ∃ acc, H3 D = some (.lst acc) ∧ Same H1 H3 ∧ DpAll K H3 acc ((ds.take (i + 1)).mapIdx F) := by
    rintro D hD i x H T hx hT ⟨acc, hacc, hs, hda⟩
    have hi : i < ds.length := by rw [← el]; exact (List.getElem?_eq_some_iff.mp hx).1
    have hdi : ds[i]? = some ds[i] := by simp [hi]
    obtain ⟨v, hv, hvd⟩ := dpAll_get hd hdi
    rw [hx] at hv
    obtain rfl := Option.some.inj hv
    simp only [tyes_if]
    have sT : Same H (upd H T (.tup [.int (i : Nat), x])) := Same.new hT
    refine turn i x ds[i] T _ _ hdi (hs.trans sT) upd_same (dp_same (hs.trans sT) hvd) fun y H' hs' hy => ?_
    have hs2 := sT.trans hs'
    have hl9 : acc.length = i := by
      have := dpAll_len hda
      rw [List.length_mapIdx, List.length_take] at this; omega
    have sD : Same H1 (upd H' D (.lst (acc ++ [y]))) := fun b o e => by rw [upd_ne (ne_of_none e hD)]; exact hs2 _ _ (hs _ _ e)
    refine ⟨acc, hs2 _ _ hacc, by rw [hl9]; exact Nat.lt_of_le_of_lt (by omega : i ≤ 1000) (by decide), acc ++ [y], upd_same, sD, ?_⟩
    have em : (ds.take (i + 1)).mapIdx F = (ds.take i).mapIdx F ++ [F i ds[i]] := by
      rw [take_succ_of hdi, List.mapIdx_append]
      have : (ds.take i).length = i := by rw [List.length_take]; omega
      simp [this]
    rw [em]
    refine dpAll_append (dpAll_put (fun e he => ?_) (hs2 _ _ hacc) (dpAll_same hs2 hda)) (dpAll_put (fun e he => ?_) (hs2 _ _ hacc) (dpAll_one hy))
    · obtain ⟨j, hj, rfl⟩ := List.mem_mapIdx.mp he
      have hj2 : j < ds.length := by rw [List.length_take] at hj; omega
      have e9 : (ds.take i)[j] = ds[j] := by simp
      rw [e9]
      exact hF j ds[j] (by simp [hj2])
    · obtain rfl := List.mem_singleton.mp he
      exact hF i _ hdi
  have h0 : ∀ D, H1 D = none → ∃ acc, upd H1 D (.lst []) D = some (.lst acc) ∧ Same H1 (upd H1 D (.lst [])) ∧ DpAll K (upd H1 D (.lst [])) acc ((ds.take 0).mapIdx F) := fun D hD => ⟨[], upd_same, Same.new hD, .nil⟩
  have hfin : ∀ D, H1 D = none → ∀ H, (∃ acc, H D = some (.lst acc) ∧ Same H1 H ∧ DpAll K H acc ((ds.take xs.length).mapIdx F)) → Q (.ref D) H := fun D hD H ⟨acc, ha, hs, hda⟩ => by
    rw [el, List.take_length] at hda
    exact hQ D acc H hD hs ha hda
  have step : ∀ (D : Addr) (hD : H1 D = none) (J : It) (rd : Hp → Prop), (∀ H, Same H1 H → rd H) → (∀ i H, rd H → i < xs.length → J.go i H) → (∀ i H, rd H → xs.length ≤ i → J.stop i H) →
      (∀ i H v H', rd H → i < xs.length → J.yld i H v H' → ∃ T x, v = .ref T ∧ H T = none ∧ H' = upd H T (.tup [.int (i : Nat), x]) ∧ xs[i]? = some x) →
      ∃ W : Nat → Nat → Hp → Prop, (∃ m, W 0 m (upd H1 D (.lst []))) ∧ ∀ i m H, W i m H → (J.stop i H ∧ Q (.ref D) H) ∨ (J.go i H ∧ ∃ Nx : Hp → Prop, (∀ H', Nx H' → ∃ m', m' < m ∧ W (i + 1) m' H') ∧ ∀ x H', J.yld i H x H' → g x (wipe σ vs) H' fun σ2 H2 => wipe σ2 vs = wipe σ vs ∧ tYes σ2 H2 fun b H3 =>
        if b = true then te σ2 H3 fun y H4 => ∃ acc, H4 D = some (.lst acc) ∧ acc.length < sizeLine ∧ Nx (upd H4 D (.lst (acc ++ [y]))) else Nx H3) := by
    intro D hD J rd hrd hgo hstop hyld
    refine ⟨fun i m H => m = xs.length - i ∧ i ≤ xs.length ∧ ∃ acc, H D = some (.lst acc) ∧ Same H1 H ∧ DpAll K H acc ((ds.take i).mapIdx F), ⟨xs.length, by simp, Nat.zero_le _, h0 D hD⟩, ?_⟩
    rintro i m H ⟨rfl, hi, p⟩
    have r := hrd H (by obtain ⟨_, _, s, _⟩ := p; exact s)
    by_cases hlt : i < xs.length
    · refine .inr ⟨hgo i H r hlt, fun H' => ∃ acc, H' D = some (.lst acc) ∧ Same H1 H' ∧ DpAll K H' acc ((ds.take (i + 1)).mapIdx F), fun H' p' => ⟨xs.length - (i + 1), by omega, rfl, hlt, p'⟩, fun v H' y => ?_⟩
      obtain ⟨T, x, rfl, hT, rfl, hx⟩ := hyld i H v H' r hlt y
      exact key D hD i x H T hx hT p
    · obtain rfl : i = xs.length := by omega
      exact .inl ⟨hstop _ H r (Nat.le_refl _), hfin D hD H p⟩
  refine ht _ ⟨a, xs, rfl, ?_⟩
  rcases hq with h | h
  · refine .inl ⟨h, fun D hD => step D hD (Ite K a) (fun H => SqL K H a xs) (fun H s => s.seq h) (fun i H q hi => ⟨xs, xs[i], q, by simp [hi]⟩) (fun i H q hi => ⟨xs, q, hi⟩) (fun i H v H' q hi y => ?_)⟩
    obtain ⟨T, x, e1, e2, e3, e4⟩ := y
    exact ⟨T, x, e1, e2, e3, e4 xs q⟩
  · refine .inr ⟨h, fun D hD => step D hD (IteT K a) (fun H => SqT K H a xs) (fun H s => sqT_same s h) (fun i H q hi => ⟨xs, xs[i], q, by simp [hi]⟩) (fun i H q hi => ⟨xs, q, hi⟩) (fun i H v H' q hi y => ?_)⟩
    obtain ⟨T, x, e1, e2, e3, e4⟩ := y
    exact ⟨T, x, e1, e2, e3, e4 xs q⟩
theorem mapIdx_const {α β : Type} (F : α → β) (l : List α) : l.mapIdx (fun _ e => F e) = l.map F := by
  apply List.ext_getElem?
  intro i
  simp
/-! ### worlds of facts -/
def dB : PyData → Bool
  | .bool b => b
  | _ => false
/-- whether a condition holds among the facts -/
def dHolds (c : PyData) (bs : List Bool) : Bool := ((dItems c).getD []).all fun e => bs.getD (dVal (dAt e 0)).toNat false == dB (dAt e 1)
/-- whether a number is among data -/
def dHas (d : PyData) (j : Int) : Bool := ((dItems d).getD []).any fun e => dVal e == j
def dRule (d : PyData) (n : Int) : Bool := dRow d 3 3 && (dCond (dAt d 0) n && (dAscNums (dAt d 1) n && (dAscNums (dAt d 2) n && !(((dItems (dAt d 1)).getD []).any fun e => dHas (dAt d 2) (dVal e)))))
/-- the facts behind a deed -/
def chg (r : PyData) (bs : List Bool) : List Bool := bs.mapIdx fun j b => dHas (dAt r 1) j || (b && !dHas (dAt r 2) j)
def statesL (f : Nat) : List (List Bool) := (List.range (2 ^ f)).map fun k => (List.range f).map fun j => k.testBit j
def bitsD (bs : List Bool) : List PyData := bs.map PyData.bool
def fwMove (f : Nat) (r : PyData) (bs : List Bool) : PyData := if dHolds (dAt r 0) bs = true then .int ((statesL f).idxOf (chg r bs) : Nat) else .none
def fwS (f : Nat) : PyData := .tuple ((statesL f).map fun bs => .tuple (bitsD bs))
def fwM (f : Nat) (dd : PyData) : PyData := .tuple ((statesL f).map fun bs => .tuple (((dItems dd).getD []).map fun r => fwMove f r bs))
def errFw (df dd : PyData) : Flt := if dBtw df 0 4 = true then (if (dRow dd 1 5 && dAll (fun r => dRule r (dVal df)) dd) = true then none else fValue 2) else fValue 1
/-- holds(condition, facts) -/
def spHolds (K : PySem.W.Frag) : Sp := fun vs H Q _ => ∃ (x : V) (c : PyData) (n : Nat) (a : Addr) (bs : List Bool), vs = [x, .ref a] ∧ Dp K H x c ∧ Wf n c ∧ Seq K H a (bs.map V.bl) ∧ dCond c bs.length = true ∧ ∀ H', Same H H' → Q (.bl (dHolds c bs)) H'
/-- changed(held, rule): a new list -/
def spChanged (K : PySem.W.Frag) : Sp := fun vs H Q _ => ∃ (x : V) (r : PyData) (n : Nat) (a : Addr) (bs : List Bool), vs = [.ref a, x] ∧ Dp K H x r ∧ Wf n r ∧ Seq K H a (bs.map V.bl) ∧ bs.length ≤ 1000 ∧ dRule r bs.length = true ∧ ∀ p H', Same H H' → H' p = some (.lst ((chg r bs).map V.bl)) → Q (.ref p) H'
end Mw
set_option Elab.async false
set_option linter.all false
set_option maxRecDepth 100000
set_option maxHeartbeats 1000000
/-! Lists of new lists; the states of a world of facts. -/
namespace Mw
open PySem L2
/-- [[..] for i in range(n)]: each element a new list -/
theorem lc_rngL (n : Nat) (F : Nat → List V) {i0 : Nat} {j : Int} {ta : TA} {te : TE} {vs : List Nat} {σ : St} {H1 : Hp} {Q : VK} (ht : ∀ R, R [.int j] H1 → ta σ H1 R) (hj : j.toNat = n) (hj0 : -1000 ≤ j) (hz : n ≤ 1000)
    (hw : ∀ x : V, wipe ((wipe σ vs).set i0 (some x)) vs = wipe σ vs)
    (turn : ∀ (i : Nat) (H : Hp) (Qe : VK), i < n → Same H1 H → (∀ p H', Same H H' → H p = none → H' p = some (.lst (F i)) → Qe (.ref p) H') → te ((wipe σ vs).set i0 (some (.int (0 + (i : Int))))) H Qe)
    (hQ : ∀ D (ps : List Addr) H', H1 D = none → Same H1 H' → H' D = some (.lst (ps.map V.ref)) → ps.length = n → (∀ i p, ps[i]? = some p → H' p = some (.lst (F i)) ∧ H1 p = none) → Q (.ref D) H') :
    tLc (iRng1 ta) (gName i0) tYes te vs σ H1 Q := by
  refine ht _ ⟨j, rfl, ?_, ?_, ?_⟩
  · have e62 : (2 : Int) ^ 62 = 4611686018427387904 := by decide
    omega
  · have e62 : (2 : Int) ^ 62 = 4611686018427387904 := by decide
    omega
  rw [hj]
  intro D hD
  refine lc_range (lo := 0) (n := n) (fun i H => ∃ ps : List Addr, H D = some (.lst (ps.map V.ref)) ∧ Same H1 H ∧ ps.length = i ∧ ∀ k p, ps[k]? = some p → H p = some (.lst (F k)) ∧ p ≠ D ∧ H1 p = none) ⟨[], upd_same, Same.new hD, rfl, fun k p h => by simp at h⟩ ?_ (fun H ⟨ps, ha, hs, hl, hp⟩ => hQ D ps H hD hs ha hl fun i p h => ⟨(hp i p h).1, (hp i p h).2.2⟩)
  rintro i H hi ⟨ps, hacc, hs, hl, hp⟩
  refine ⟨hw _, ?_⟩
  dsimp only [tYes]
  rw [if_pos rfl]
  refine turn i H _ hi hs fun q H' hs' hn hy => ?_
  have qD : q ≠ D := fun e => by rw [e, hacc] at hn; cases hn
  refine ⟨ps.map V.ref, hs' _ _ hacc, by rw [List.length_map, hl]; exact Nat.lt_of_le_of_lt (by omega : i ≤ 1000) (by decide), ps ++ [q], by rw [upd_same, List.map_append]; rfl, fun b o e => by rw [upd_ne (ne_of_none e hD)]; exact hs' _ _ (hs _ _ e), by rw [List.length_append, hl]; rfl, fun k p h => ?_⟩
  by_cases hk : k < ps.length
  · rw [List.getElem?_append_left hk] at h
    obtain ⟨h1, h2, h3⟩ := hp k p h
    exact ⟨by rw [upd_ne h2]; exact hs' _ _ h1, h2, h3⟩
  · have hk2 : k = ps.length := by
      have := (List.getElem?_eq_some_iff.mp h).1
      rw [List.length_append] at this
      simp at this; omega
    subst hk2
    rw [List.getElem?_append_right (Nat.le_refl _)] at h
    simp at h
    subst h
    rw [hl]
    exact ⟨by rw [upd_ne qD]; exact hy, qD, hs.free hn⟩
theorem tseq {t u : TS} {D : Ends} {σ : St} {H : Hp} (h : t { D with nx := u D } σ H) : tSeq t u D σ H := h
theorem tasg {te : TE} {g : TG} {D : Ends} {σ : St} {H : Hp} (h : te σ H fun x H1 => g x σ H1 D.nx) : tAsg te g D σ H := h
theorem tcons1 {te : TE} {σ : St} {H : Hp} {Q : List V → Hp → Prop} (h : te σ H fun x H' => Q [x] H') : tCons te tNil σ H Q := h
theorem idxOf_le9 : ∀ {l : List (List Bool)} {m : Nat} {x : List Bool}, l[m]? = some x → l.idxOf x ≤ m
  | [], _, _, h => by simp at h
  | a :: l, 0, x, h => by
    simp at h
    subst h
    simp [List.idxOf_cons]
  | a :: l, m + 1, x, h => by
    have ih := idxOf_le9 (l := l) (m := m) (x := x) (by simpa using h)
    rw [List.idxOf_cons]
    cases q : (a == x) with
    | true => exact Nat.zero_le _
    | false => exact Nat.succ_le_succ ih
theorem states_all : ∀ f : Nat, f ≤ 4 → ∀ c : List Bool, c.length = f → c ∈ statesL f := by
  intro f hf c hc
  rcases c with _ | ⟨a, _ | ⟨b, _ | ⟨d, _ | ⟨e, _ | ⟨g, t⟩⟩⟩⟩⟩
  · subst hc; decide
  · subst hc; cases a <;> decide
  · subst hc; cases a <;> cases b <;> decide
  · subst hc; cases a <;> cases b <;> cases d <;> decide
  · subst hc; cases a <;> cases b <;> cases d <;> cases e <;> decide
  · exfalso; simp only [List.length_cons] at hc; omega
theorem canLay_bits : ∀ bs : List Bool, PyData.canLayAll0 (bitsD bs) = true
  | [] => by simp [bitsD, PyData.canLayAll0]
  | b :: bs => by
    have ih := canLay_bits bs
    unfold bitsD at ih ⊢
    rw [List.map_cons]
    simp [PyData.canLayAll0, PyData.canLay0, ih]
theorem depth_bits : ∀ bs : List Bool, PyData.depthAll (bitsD bs) ≤ 1
  | [] => by simp [bitsD, PyData.depthAll]
  | b :: bs => by
    have ih := depth_bits bs
    unfold bitsD at ih ⊢
    rw [List.map_cons]
    simp [PyData.depthAll, PyData.depth] <;> omega
theorem eqvAll_bits : ∀ a b : List Bool, PyData.eqvAll (bitsD a) (bitsD b) = decide (a = b)
  | [], [] => rfl
  | [], _ :: _ => rfl
  | _ :: _, [] => rfl
  | x :: a, y :: b => by
    have ih := eqvAll_bits a b
    show ((x == y) && PyData.eqvAll (bitsD a) (bitsD b)) = _
    rw [ih]
    by_cases h1 : x = y <;> by_cases h2 : a = b <;> simp [h1, h2]
end Mw
set_option Elab.async false
set_option linter.all false
set_option maxRecDepth 100000
set_option maxHeartbeats 1000000
/-! Data made anew of lists and tuples; what the law draws. -/
namespace Mw
open PySem L2
/-- H' without the lists that stood in H -/
def noLst (H H' : Hp) : Hp := fun b => match H b with
  | some (.lst _) => none
  | _ => H' b
theorem noLst_some {H H' : Hp} {b : Addr} {o : HO} (h : noLst H H' b = some o) : H' b = some o ∧ ∀ l, H b ≠ some (.lst l) := by
  unfold noLst at h
  split at h
  · cases h
  · rename_i hn
    exact ⟨h, fun l e => hn l e⟩
theorem noLst_of {H H' : Hp} {b : Addr} {o : HO} (h : H' b = some o) (hn : ∀ l, H b ≠ some (.lst l)) : noLst H H' b = some o := by
  unfold noLst
  split
  · rename_i l e
    exact absurd e (hn l)
  · exact h
theorem noLst_sub {H H' : Hp} : Same (noLst H H') H' := fun _ _ e => (noLst_some e).1
/-- data that leans on no list that stood before -/
theorem dp_fresh {K : PySem.W.Frag} {H H' : Hp} {y : V} {d : PyData} (h : Dp K (noLst H H') y d) : Dp K H' y d := dp_same noLst_sub h
theorem td_fresh {K : PySem.W.Frag} {H H' : Hp} {n : Nat} {d : PyData} (t : Td n d) (s : Same H H') : ∀ {y : V}, Dp K H y d → Dp K (noLst H H') y d := by
  induction t with
  | non => intro y h; cases h; exact .non
  | bl b => intro y h; cases h; exact .bl b
  | int i => intro y h; cases h; exact .int i
  | str x => intro y h; cases h; exact .str x
  | @tup n ds z _ ih =>
    intro y h
    cases h with
    | @tup a xs _ hs ha =>
      refine .tup (xs := xs) ?_ ?_
      · rcases hs with (e | ⟨o, e⟩) | e
        · exact .inl (.inl (noLst_of (s _ _ e) fun l q => by rw [e] at q; cases q))
        · exact .inl (.inr ⟨o, noLst_of (s _ _ e) fun l q => by rw [e] at q; cases q⟩)
        · exact .inr e
      · clear hs z
        have all : ∀ (ds' : List PyData) (vs : List V), (∀ d ∈ ds', d ∈ ds) → DpAll K H vs ds' → DpAll K (noLst H H') vs ds' := by
          intro ds'
          induction ds' with
          | nil => intro vs _ h; cases h; exact .nil
          | cons e r ihr =>
            intro vs hm h
            cases h with
            | cons h1 h2 => exact .cons (ih e (hm e List.mem_cons_self) h1) (ihr _ (fun d hd => hm d (List.mem_cons_of_mem _ hd)) h2)
        exact all ds xs (fun _ h => h) ha
mutual
def dLoose : PyData → Int → PyData
  | .tuple xs, t => if t % 2 = 0 then .list (dLooses xs (t + 1)) else .tuple (dLooses xs (t + 1))
  | .list xs, _ => .list xs
  | .none, _ => .none
  | .bool b, _ => .bool b
  | .int i, _ => .int i
  | .str x, _ => .str x
  | .dict kvs, _ => .dict kvs
def dLooses : List PyData → Int → List PyData
  | [], _ => []
  | x :: xs, t => dLoose x t :: dLooses xs t
end
theorem dLooses_map : ∀ (xs : List PyData) (t : Int), dLooses xs t = xs.map fun d => dLoose d t
  | [], _ => rfl
  | x :: xs, t => by rw [List.map_cons, ← dLooses_map xs]; rfl
theorem loose_tup (ds : List PyData) (t : Int) : dLoose (.tuple ds) t = if t % 2 = 0 then .list (ds.map fun d => dLoose d (t + 1)) else .tuple (ds.map fun d => dLoose d (t + 1)) := by
  show (if t % 2 = 0 then PyData.list (dLooses ds (t + 1)) else .tuple (dLooses ds (t + 1))) = _
  rw [dLooses_map]
theorem plain_loose {n : Nat} {d : PyData} (h : Td n d) : ∀ t : Int, dPlain (dLoose d t) = d := by
  induction h with
  | non => intro t; rfl
  | bl b => intro t; rfl
  | int i => intro t; rfl
  | str x => intro t; rfl
  | @tup n ds z _ ih =>
    intro t
    have e : (ds.map fun d => dLoose d (t + 1)).map dPlain = ds := by
      rw [List.map_map]
      have : ds.map (dPlain ∘ fun d => dLoose d (t + 1)) = ds.map id := List.map_congr_left fun d hd => ih d hd (t + 1)
      rw [this, List.map_id]
    rw [loose_tup]
    split
    · show PyData.tuple (dPlains _) = _
      rw [dPlains_map, e]
    · show PyData.tuple (dPlains _) = _
      rw [dPlains_map, e]
theorem wf_loose {n : Nat} {d : PyData} (h : Td n d) : ∀ t : Int, Wf n (dLoose d t) := by
  induction h with
  | non => intro t; exact .non
  | bl b => intro t; exact .bl b
  | int i => intro t; exact .int i
  | str x => intro t; exact .str x
  | @tup n ds z _ ih =>
    intro t
    rw [loose_tup]
    split
    · exact .lst (by rw [List.length_map]; exact z) fun d hd => by obtain ⟨e, he, rfl⟩ := List.mem_map.mp hd; exact ih e he _
    · exact .tup (by rw [List.length_map]; exact z) fun d hd => by obtain ⟨e, he, rfl⟩ := List.mem_map.mp hd; exact ih e he _
def spLoose (K : PySem.W.Frag) (n : Nat) : Sp := fun vs H Q _ => ∃ (x : V) (d : PyData) (m : Nat) (t : Int), vs = [x, .int t] ∧ Dp K H x d ∧ Td m d ∧ m < n ∧ ∀ y H', Same H H' → Dp K (noLst H H') y (dLoose d t) → Q y H'
/-- [e for x in value], each element made anew -/
theorem lc_dpF {K : PySem.W.Frag} {a : Addr} {xs : List V} {ds : List PyData} (F : PyData → PyData) {i0 : Nat} {tl te : TE} {vs : List Nat} {σ : St} {H1 : Hp} {Q : VK} (ht : ∀ R, R (.ref a) H1 → tl σ H1 R) (hq : Seq K H1 a xs) (hd : DpAll K H1 xs ds) (hz : ds.length ≤ 1000)
    (hw : ∀ x : V, wipe ((wipe σ vs).set i0 (some x)) vs = wipe σ vs)
    (turn : ∀ (i : Nat) (x : V) (d : PyData) (H : Hp) (Qe : VK), ds[i]? = some d → Same H1 H → Dp K H x d → (∀ y H', Same H H' → Dp K (noLst H H') y (F d) → Qe y H') → te ((wipe σ vs).set i0 (some x)) H Qe)
    (hQ : ∀ D acc H', H1 D = none → Same H1 H' → H' D = some (.lst acc) → DpAll K (del (noLst H1 H') D) acc (ds.map F) → Q (.ref D) H') :
    tLc (iSeq K tl) (gName i0) tYes te vs σ H1 Q := by
  have el := dpAll_len hd
  have key : ∀ D, H1 D = none → ∀ i x H, xs[i]? = some x → (∃ acc, H D = some (.lst acc) ∧ Same H1 H ∧ DpAll K (del (noLst H1 H) D) acc ((ds.take i).map F)) → gName i0 x (wipe σ vs) H fun σ2 H2 => wipe σ2 vs = wipe σ vs ∧ tYes σ2 H2 fun b H3 =>
      if b = true then te σ2 H3 fun y H4 => ∃ acc, H4 D = some (.lst acc) ∧ acc.length < sizeLine ∧ (∃ acc', (upd H4 D (.lst (acc ++ [y]))) D = some (.lst acc') ∧ Same H1 (upd H4 D (.lst (acc ++ [y]))) ∧ DpAll K (del (noLst H1 (upd H4 D (.lst (acc ++ [y])))) D) acc' ((ds.take (i + 1)).map F))
      else ∃ acc, H3 D = some (.lst acc) ∧ Same H1 H3 ∧ DpAll K (del (noLst H1 H3) D) acc ((ds.take (i + 1)).map F) := by
    rintro D hD i x H hx ⟨acc, hacc, hs, hda⟩
    have hi : i < ds.length := by rw [← el]; exact (List.getElem?_eq_some_iff.mp hx).1
    have hdi : ds[i]? = some ds[i] := by simp [hi]
    obtain ⟨v, hv, hvd⟩ := dpAll_get hd hdi
    rw [hx] at hv
    obtain rfl := Option.some.inj hv
    simp only [tyes_if]
    refine ⟨hw x, turn i x ds[i] H _ hdi hs (dp_same hs hvd) fun y H' hs' hy => ?_⟩
    have hl9 : acc.length = i := by
      have := dpAll_len hda
      rw [List.length_map, List.length_take] at this; omega
    have sD : Same H1 (upd H' D (.lst (acc ++ [y]))) := fun b o e => by rw [upd_ne (ne_of_none e hD)]; exact hs' _ _ (hs _ _ e)
    refine ⟨acc, hs' _ _ hacc, by rw [hl9]; exact Nat.lt_of_le_of_lt (by omega : i ≤ 1000) (by decide), acc ++ [y], upd_same, sD, ?_⟩
    rw [take_succ_of hdi, List.map_append]
    refine dpAll_append (dpAll_same (fun b o e => ?_) hda) (dpAll_one (dp_same (fun b o e => ?_) hy))
    · have bD : b ≠ D := fun z => by rw [z, del_same] at e; cases e
      rw [del_ne bD] at e ⊢
      obtain ⟨e1, e2⟩ := noLst_some e
      exact noLst_of (by rw [upd_ne bD]; exact hs' _ _ e1) e2
    · obtain ⟨e1, e2⟩ := noLst_some e
      have bD : b ≠ D := fun z => e2 acc (by rw [z]; exact hacc)
      rw [del_ne bD]
      refine noLst_of (by rw [upd_ne bD]; exact e1) fun l q => ?_
      exact e2 l (hs _ _ q)
  have h0 : ∀ D, H1 D = none → ∃ acc, upd H1 D (.lst []) D = some (.lst acc) ∧ Same H1 (upd H1 D (.lst [])) ∧ DpAll K (del (noLst H1 (upd H1 D (.lst []))) D) acc ((ds.take 0).map F) := fun D hD => ⟨[], upd_same, Same.new hD, .nil⟩
  have hfin : ∀ D, H1 D = none → ∀ H, (∃ acc, H D = some (.lst acc) ∧ Same H1 H ∧ DpAll K (del (noLst H1 H) D) acc ((ds.take xs.length).map F)) → Q (.ref D) H := fun D hD H ⟨acc, ha, hs, hda⟩ => by
    rw [el, List.take_length] at hda
    exact hQ D acc H hD hs ha hda
  refine ht _ ⟨a, xs, rfl, ?_⟩
  rcases hq with h | h
  · exact .inl ⟨h, fun D hD => lc_list (K := K) (a := a) (xs := xs) (fun i H => ∃ acc, H D = some (.lst acc) ∧ Same H1 H ∧ DpAll K (del (noLst H1 H) D) acc ((ds.take i).map F)) (h0 D hD) (fun i H _ ⟨_, _, s, _⟩ => s.seq h) (fun i x H hx p => key D hD i x H hx p) (hfin D hD)⟩
  · exact .inr ⟨h, fun D hD => lc_tup (K := K) (a := a) (xs := xs) (fun i H => ∃ acc, H D = some (.lst acc) ∧ Same H1 H ∧ DpAll K (del (noLst H1 H) D) acc ((ds.take i).map F)) (h0 D hD) (fun i H _ ⟨_, _, s, _⟩ => sqT_same s h) (fun i x H hx p => key D hD i x H hx p) (hfin D hD)⟩
/-! ### checks do not tell lists from tuples -/
theorem items_plain (d : PyData) : dItems (dPlain d) = (dItems d).map (List.map dPlain) := by
  cases d <;> first | rfl | (show some (dPlains _) = some _; rw [dPlains_map])
theorem btw_plain (d : PyData) (i j : Int) : dBtw (dPlain d) i j = dBtw d i j := by cases d <;> rfl
theorem num_plain (d : PyData) (i : Int) : dNum (dPlain d) i = dNum d i := btw_plain d _ _
theorem bool_plain (d : PyData) : dBool (dPlain d) = dBool d := by cases d <;> rfl
theorem dB_plain (d : PyData) : dB (dPlain d) = dB d := by cases d <;> rfl
theorem val_plain (d : PyData) : dVal (dPlain d) = dVal d := by cases d <;> rfl
theorem none_plain (d : PyData) : dNone (dPlain d) = dNone d := by cases d <;> rfl
theorem row_plain (d : PyData) (i j : Int) : dRow (dPlain d) i j = dRow d i j := by
  unfold dRow
  rw [items_plain]
  cases dItems d with
  | none => rfl
  | some xs => show (decide (i ≤ ((xs.map dPlain).length : Int)) && decide (((xs.map dPlain).length : Int) ≤ j)) = _; rw [List.length_map]
theorem at_plain (d : PyData) (i : Nat) : dAt (dPlain d) i = dPlain (dAt d i) := by
  unfold dAt
  rw [items_plain]
  cases dItems d with
  | none => show ([] : List PyData).getD i .none = dPlain (([] : List PyData).getD i .none); rfl
  | some xs =>
    show (xs.map dPlain).getD i .none = dPlain (xs.getD i .none)
    rw [List.getD_eq_getElem?_getD, List.getD_eq_getElem?_getD, List.getElem?_map]
    cases xs[i]? <;> rfl
theorem all_plain {f g : PyData → Bool} (h : ∀ d, f (dPlain d) = g d) (d : PyData) : dAll f (dPlain d) = dAll g d := by
  unfold dAll
  rw [items_plain]
  cases dItems d with
  | none => rfl
  | some xs =>
    show (xs.map dPlain).all f = xs.all g
    rw [List.all_map]
    congr 1
    funext e; exact h e
theorem any_plain {f g : PyData → Bool} (h : ∀ d, f (dPlain d) = g d) (d : PyData) : ((dItems (dPlain d)).getD []).any f = ((dItems d).getD []).any g := by
  rw [items_plain]
  cases dItems d with
  | none => rfl
  | some xs =>
    show (xs.map dPlain).any f = xs.any g
    rw [List.any_map]
    congr 1
    funext e; exact h e
theorem map_plain {β : Type} {f g : PyData → β} (h : ∀ d, f (dPlain d) = g d) (d : PyData) : ((dItems (dPlain d)).getD []).map f = ((dItems d).getD []).map g := by
  rw [items_plain]
  cases dItems d with
  | none => rfl
  | some xs =>
    show (xs.map dPlain).map f = xs.map g
    rw [List.map_map]
    congr 1
    funext e; exact h e
theorem all_plain2 {f g : PyData → Bool} (h : ∀ d, f (dPlain d) = g d) (d : PyData) : ((dItems (dPlain d)).getD []).all f = ((dItems d).getD []).all g := by
  rw [items_plain]
  cases dItems d with
  | none => rfl
  | some xs =>
    show (xs.map dPlain).all f = xs.all g
    rw [List.all_map]
    congr 1
    funext e; exact h e
theorem wanted_plain (d : PyData) (n : Int) : dWanted (dPlain d) n = dWanted d n := by unfold dWanted; rw [row_plain, at_plain, at_plain, num_plain, bool_plain]
theorem cond_plain (d : PyData) (n : Int) : dCond (dPlain d) n = dCond d n := by
  unfold dCond
  rw [all_plain (g := fun e => dWanted e n) fun e => wanted_plain e n, map_plain (g := fun e => dVal (dAt e 0)) fun e => by rw [at_plain, val_plain]]
theorem nums_plain (d : PyData) (n : Int) : dNums (dPlain d) n = dNums d n := all_plain (fun e => num_plain e n) d
theorem ascnums_plain (d : PyData) (n : Int) : dAscNums (dPlain d) n = dAscNums d n := by
  unfold dAscNums
  rw [nums_plain, map_plain (g := dVal) val_plain]
theorem has_plain (d : PyData) (j : Int) : dHas (dPlain d) j = dHas d j := any_plain (fun e => by rw [val_plain]) d
theorem rule_plain (d : PyData) (n : Int) : dRule (dPlain d) n = dRule d n := by
  unfold dRule
  rw [row_plain, at_plain, at_plain, at_plain, cond_plain, ascnums_plain, ascnums_plain]
  rw [any_plain (g := fun e => dHas (dAt d 2) (dVal e)) fun e => by rw [has_plain, val_plain]]
theorem holds_plain (c : PyData) (bs : List Bool) : dHolds (dPlain c) bs = dHolds c bs := all_plain2 (fun e => by rw [at_plain, at_plain, val_plain, dB_plain]) c
theorem chg_plain (r : PyData) (bs : List Bool) : chg (dPlain r) bs = chg r bs := by
  unfold chg
  rw [at_plain, at_plain]
  congr 1
  funext j b
  rw [has_plain, has_plain]
theorem move_plain (f : Nat) (r : PyData) (bs : List Bool) : fwMove f (dPlain r) bs = fwMove f r bs := by unfold fwMove; rw [at_plain, holds_plain, chg_plain]
theorem fwM_plain (f : Nat) (d : PyData) : fwM f (dPlain d) = fwM f d := by
  unfold fwM
  congr 1
  refine List.map_congr_left fun bs _ => ?_
  rw [map_plain (g := fun r => fwMove f r bs) fun r => move_plain f r bs]
theorem errFw_plain (df dd : PyData) : errFw df (dPlain dd) = errFw df dd := by
  unfold errFw
  rw [row_plain, all_plain (g := fun r => dRule r (dVal df)) fun r => rule_plain r _]
/-- data without lists, where all but the list at sp stands -/
theorem dp_grow {K : PySem.W.Frag} {sp : Addr} {H H' : Hp} {l : List V} (hl : H sp = some (.lst l)) (g : Grow sp H H') {n : Nat} {d : PyData} (t : Td n d) : ∀ {y : V}, Dp K H y d → Dp K H' y d := by
  induction t with
  | non => intro y h; cases h; exact .non
  | bl b => intro y h; cases h; exact .bl b
  | int i => intro y h; cases h; exact .int i
  | str x => intro y h; cases h; exact .str x
  | @tup n ds z _ ih =>
    intro y h
    cases h with
    | @tup a xs _ hs ha =>
      refine .tup (xs := xs) ?_ ?_
      · rcases hs with (e | ⟨o, e⟩) | e
        · exact .inl (.inl (g _ _ (fun q => by rw [q, hl] at e; cases e) e))
        · exact .inl (.inr ⟨o, g _ _ (fun q => by rw [q, hl] at e; cases e) e⟩)
        · exact .inr e
      · clear hs z
        have all : ∀ (ds' : List PyData) (vs : List V), (∀ d ∈ ds', d ∈ ds) → DpAll K H vs ds' → DpAll K H' vs ds' := by
          intro ds'
          induction ds' with
          | nil => intro vs _ h; cases h; exact .nil
          | cons e r ihr =>
            intro vs hm h
            cases h with
            | cons h1 h2 => exact .cons (ih e (hm e List.mem_cons_self) h1) (ihr _ (fun d hd => hm d (List.mem_cons_of_mem _ hd)) h2)
        exact all ds xs (fun _ h => h) ha
theorem dpAll_grow {K : PySem.W.Frag} {sp : Addr} {H H' : Hp} {l : List V} (hl : H sp = some (.lst l)) (g : Grow sp H H') : ∀ {ds : List PyData} {vs : List V}, (∀ d ∈ ds, ∃ n, Td n d) → DpAll K H vs ds → DpAll K H' vs ds
  | [], _, _, h => by cases h; exact .nil
  | d :: ds, _, ht, h => by
    cases h with
    | cons h1 h2 =>
      obtain ⟨n, t⟩ := ht d List.mem_cons_self
      exact .cons (dp_grow hl g t h1) (dpAll_grow hl g (fun e he => ht e (List.mem_cons_of_mem _ he)) h2)
theorem Rolls.lst {r sp : Addr} {H : Hp} (R : Rolls r sp H) : ∃ l, H sp = some (.lst l) := by obtain ⟨_, _, n, e⟩ := R; exact ⟨_, e⟩
theorem Grow.put {sp p : Addr} {H X : Hp} {o : HO} (g : Grow sp H X) (n : H p = none) : Grow sp H (upd X p o) := fun b u nb e => by rw [upd_ne (ne_of_none e n)]; exact g b u nb e
theorem Rolls.rowAt {r sp : Addr} {H : Hp} (R : Rolls r sp H) : ∃ l, H r = some (.lst l) := by obtain ⟨_, ⟨ns, _, e⟩, _⟩ := R; exact ⟨_, e⟩
/-- the law's own promise -/
def spLaw (K : PySem.W.Frag) : Sp := fun vs H Q _ => ∃ (a : Addr) (ns : List Int), vs = [.ref a] ∧ SqL K H a (ns.map V.int) ∧ ns.length ≤ 63 ∧ (∀ z ∈ ns, Builtin.Int.intBits z ≤ 1048576) ∧ ∀ H', Q (.bl true) H'
theorem walkL {l : PySem.W.OpenLaw} {q : Program} {loose : List Str} {XP : (Str → Option Value) → Heap → Prop} {YP : World → Heap → Prop} {d : DefRec} {K : Params → PySem.W.Frag} (hn : l.most = some 63) (hdf : d.params.defaults = [])
    (hY : ∀ (w : World) (h : Heap), YP w h → (K w.params).In h)
    (F : ∀ (w : World) (mg : Str → Option Value) (fa : Addr) (h : Heap), (K w.params).In h → h.Ns mainGlobals mg → mg d.name = some (.ref fa) →
      ∃ fd : FuncData, (∀ (s : Shared) (u : Value), BindsTo s fd ⟨[u], []⟩ [("script", u)]) ∧ ∀ base : Heap, (K w.params).In base → base.Ns mainGlobals mg → FnOk l.prog w (K w.params) mg base CX0 60 fa fd ["script"] (spLaw (K w.params))) :
    PySem.W.WalkO q loose XP YP l.row.toRowW d [] (fun f vs => PySem.call f vs) :=
  L2.walk_ofB (n := 63) (k := 60) (x := "script") (CX := fun _ => CX0) (sp := fun w => spLaw (K w.params)) hn (by decide) hdf ⟨rfl, by decide, by decide⟩ hY F (fun _ _ a ns hl hb _ hS => ⟨a, ns, rfl, hS, hl, hb, fun _ => rfl⟩) fun _ _ _ _ _ z => z
section
variable {X : Cx} {x : Str} {k : Nat} {ps : List Str} {sp : Sp} {e : Expr} {es : List Expr} {t : TA} {p pos : Pos}
/-- the call of a def that may raise, where it does not -/
theorem pe_fnL (C : Cal X.prog X.w X.K X.mg X.base (L2.CX X.prog X.w) x k ps sp) (hr : Room k X.A) (ha : PA X (e :: es) t) (hg : Gl X x := by rfl)
    (hdb : (x == ("__debug__" : Str)) = false := by decide) (he : starEach (e :: es) X.env = (false, eval e X.env) :: starEach es X.env := by rfl) (hpl : (backTo pos (starEach es X.env)).any (·.1) = false := by rfl) :
    PE X (.Call (.Name x p) (e :: es) [] pos) (tCall sp [] E0 t) := by
  obtain ⟨f, fd, g, kp, b, F⟩ := C
  exact pe_call F hr hg g kp b .nil passL ha hdb he hpl
end
/-- a property that hands an attribute back -/
def PDef (K : PySem.W.Frag) (C : Addr) (f qual : Str) (st : Stmt) : Prop := Cls K C ∧ ∃ (p g : Addr) (fd : FuncData), PropOf K C f p g ∧ Fun K f qual st g fd ∧ Binds K fd ["self"] []
def PCal (P : Program) (w : World) (K : PySem.W.Frag) (mg : Str → Option Value) (base : Heap) (C : Addr) (f : Str) (sp : Sp) : Prop := Cls K C ∧ ∃ (p g : Addr) (fd : FuncData), PropOf K C f p g ∧ FnOk P w K mg base CX0 1 g fd ["self"] sp ∧ Binds K fd ["self"] []
theorem PDef.ok {P : Program} {w : World} {K : PySem.W.Frag} {mg : Str → Option Value} {base : Heap} {C : Addr} {f qual : Str} {st : Stmt} {N : List Str} {sp : Sp} (D : PDef K C f qual st) (S : FnScope N ["self"] (defScope st)) (len : ∀ vs H Q E, sp vs H Q E → vs.length = 1)
    (hbody : ∀ (f : Addr) (cdv : Value) (A : Around) (outer : List Env) (s : Shared) (H : Hp) (vs : List V) (Q : VK) (E : XK), Room 0 (A.deeper (PyProof.Rows.envOfC qual (defScope st) s.heap.objs.size f cdv)) → sp vs H Q E →
      ∃ t, PSs (cxOf CX0 P w K mg base N qual (defScope st) f cdv A outer s H E).nox (defBody st) t ∧ t { nx := fun _ H' => Q .non H', rt := Q } (start N vs) H) : PCal P w K mg base C f sp := by
  obtain ⟨c, p, g, fd, hp, F, b⟩ := D
  exact ⟨c, p, g, fd, hp, F.ok S len (hbody g), b⟩
theorem pe_get {X : Cx} {C : Addr} {f : Str} {sp : Sp} {e : Expr} {ta : TE} {pos : Pos} {k : Nat} (c : PCal X.prog X.w X.K X.mg X.base C f sp) (hr : Room (k + 2) X.A) (he : PE X e ta) (hab : attributeBase e f X.env (eval e X.env) = eval e X.env := by rfl) : PE X (.Attribute e f pos) (tProp C sp [] E0 ta) := by
  obtain ⟨cl, p, g, fd, hp, F, b⟩ := c
  exact pe_prop he cl hp F (hr.mono (by omega)) b .nil pass0 hab
end Mw
set_option Elab.async false
set_option linter.all false
set_option maxRecDepth 100000
/-! Errors whose context is None; calls and loops within an except suite. -/
namespace Mw
open PySem L2
/-- e.f, e the error that the suite holds, its class told by the reading -/
def tXg (K : PySem.W.Frag) (a : Addr) (cls : Value) (d : Option Addr) (f : Str) (te : TE) : TE := fun σ H Q => te σ H fun x H1 => x = .ref a ∧ ∃ (C dd : Addr) (fs : List (Str × V)) (v : V), cls = .ref C ∧ XfC K C ∧ PySem.W.findIn K (.ref C) f = some none ∧ d = some dd ∧ H1 dd = some (.xd fs) ∧ fs.lookup f = some v ∧ Q v H1
theorem pe_xg {X : Cx} {a : Addr} {oe : Obj} {cls : Value} {d : Option Addr} {pn : List (Addr × Obj)} {e : Expr} {te : TE} {pos : Pos} {n : Str} (hz : Zc cls d oe) (hf : ∃ vs, oe.data = .fields vs) (he : PE (X.suite a ((a, oe) :: pn)) e te)
    (hb : attributeBase e n X.env (eval e X.env) = eval e X.env := by rfl) : PE (X.suite a ((a, oe) :: pn)) (.Attribute e n pos) (tXg X.K a cls d n te) := by
  refine ⟨fun pins s σ H Q I h => attr_of hb (thn (he.run pins s σ H _ I h) fun u s1 hh => ?_)⟩
  obtain ⟨x, H1, I1, rx, ex, C, dd, fs, v, ec, T, hno, ed, ea, l, q⟩ := hh
  subst ex ec ed
  obtain rfl : u = Value.ref a := rx
  obtain ⟨mA, hns, hr⟩ := (show ObjOk X.prog X.w H1 s1.heap dd (.xd fs) from I1.hok dd _ ea)
  obtain ⟨od, ho, hl⟩ := lookIn_ns hns
  obtain ⟨u, hu, ru⟩ := RelO.some_of (v := v) (o := mA n) (by rw [← l]; exact hr n)
  obtain ⟨vs, hd⟩ := hf
  have J : PySem.W.InstAt s1.heap a oe C (some od) := ⟨(I1.pin (a, oe) (List.mem_append_left _ List.mem_cons_self)).1, hz.1, by unfold PySem.W.notCls; rw [hd] <;> rfl, by rw [hz.2]; exact ho⟩
  exact HandSPX.exc_get I1.kIn J T.ga T.gg T.exC (PySem.W.findObj_own T.hdC hno rfl (by rw [hl, hu])) (handed_of ru) ⟨v, H1, I1.tok _, ru, q⟩
/-- C(e, ..), an error of ours, its context None -/
theorem pmk_madeN {X : Cx} {e : Expr} {es : List Expr} {ta : TA} {p pos : Pos} {CX : CXT} {x : Str} {C fI : Addr} {k : Nat} {fd : FuncData} {ps : List Str} {sp : Sp} (T : ExM X.K C) (iC : PySem.W.findIn X.K (.ref C) "__init__" = some (some (.ref fI))) (tI : PySem.W.typeIn X.K (.ref fI) = some (.type "function"))
    (F1 : FnOk X.prog X.w X.K X.mg X.base CX k fI fd ps sp) (hr : Room (k + 1) X.A) (hb : Binds X.K fd ps []) (hx : Passes CX X (fun _ _ _ => False)) (hg : Gl X x) (hm : X.mg x = some (.ref C)) (ha : PA X (e :: es) ta)
    (hdb : (x == ("__debug__" : Str)) = false := by decide) (he : starEach (e :: es) X.env = (false, eval e X.env) :: starEach es X.env := by rfl) (hpl : (backTo pos (starEach es X.env)).any (·.1) = false := by rfl) :
    L2N.PMk X (.Call (.Name x p) (e :: es) [] pos) (tMade C sp ta) := by
  intro pins s σ H Q I h
  obtain ⟨nm, q, N, bs, cs, sn, sub, ab, col, dd, k0, k1, k2, k3, k5, hC⟩ := T.cls
  refine wpAny_Call_Name_kw (ld_glob I hg hm ?_ hdb)
  refine PySem.W.callWith_K (h₀ := X.base) I.ok.mod.kin T.kC (thn (ha.run pos pins s σ H _ I h) fun us s1 ⟨vs, H1, I1, r1, hz, q1⟩ => ⟨I1.kIn, ?_⟩) he hpl
  show wpAny _ _ (call (.ref C) us) _ _ _
  obtain ⟨hp, g, dr, tk, os⟩ := s1
  have sz : hp.objs.size ≤ hp.objs.size + 1 := Nat.le_succ _
  have hn : H1 (hp.objs.size + 1) = none := I1.hok.fresh sz
  have hq := q1 (hp.objs.size + 1) hn
  have kp : ∀ b o, hp.get? b = some o → ((hp.push (PySem.W.kdv_tup us)).push (PySem.HandSPX.excO C hp.objs.size)).get? b = some o := fun b o z => Heap.get?_push_of_some _ (Heap.get?_push_of_some _ z)
  have hget : ((hp.push (PySem.W.kdv_tup us)).push (PySem.HandSPX.excO C hp.objs.size)).get? (hp.objs.size + 1) = some (PySem.HandSPX.excO C hp.objs.size) := by heap_get
  have I2 : Inv X pins σ (upd H1 (hp.objs.size + 1) (exo (hp.objs.size + 1) C none)) ⟨(hp.push (PySem.W.kdv_tup us)).push (PySem.HandSPX.excO C hp.objs.size), g, dr, tk, os⟩ :=
    I1.laid (t' := tk) (a := hp.objs.size + 1) (o := exo (hp.objs.size + 1) C none) (h' := (hp.push (PySem.W.kdv_tup us)).push (PySem.HandSPX.excO C hp.objs.size)) kp sz (exo_ok hget)
  have r2 : Vals (V.ref (hp.objs.size + 1) :: vs) (Value.ref (hp.objs.size + 1) :: us) := .cons rfl r1
  have hl : (Value.ref (hp.objs.size + 1) :: us).length = ps.length := by
    have z := r2.length
    rw [F1.len _ _ _ _ hq] at z
    exact z.symm
  have hus : us.length ≤ sizeLine := by rw [← Paired.length r1, sizeLine_eq]; omega
  have bnd := hb ⟨(hp.push (PySem.W.kdv_tup us)).push (PySem.HandSPX.excO C hp.objs.size), g, dr, tk, os⟩ (Value.ref (hp.objs.size + 1) :: us) I2.kIn (by rw [List.append_nil]; exact hl)
  rw [List.append_nil] at bnd
  refine wpAny_call (PySem.HandSPX.call_own F.excBase_Exception (fun Y => tl_has Y cs) (I1.kIn _ _ hC) (PySem.W.looks_findIn I1.kIn iC) (fun self => PySem.W.bind_fn I1.kIn self tI) hus
    (codeAny_mono (F1.run _ X.stack _ _ ⟨Value.ref (hp.objs.size + 1) :: us, []⟩ (Value.ref (hp.objs.size + 1) :: us) _ _ (fun _ _ _ => False) (hr.make C us []) (I2.env0.make C us []) bnd r2 hq) fun r s' hq' => ?_))
  cases r with
  | error er => exact hx pins σ _ _ er s' I2 hq'
  | ok fl =>
    cases fl with
    | ret u =>
      obtain ⟨v, H2, os2, bare2, un2, hok2, rv, ev, d, fs, ea, ed, hd1, q2⟩ := hq'
      subst ev
      obtain ⟨h2, g2, d2, t2, os'⟩ := s'
      obtain ⟨t0, G, J, kG, ge, hoe, na⟩ := mk_end0 (d2 := d2) (t2 := t2) I1 sz kp un2 hok2 os2 bare2 ea ed hd1
      exact ⟨rv, hp.objs.size + 1, _, _, ⟨G, g2, d2, t2, os'⟩, _, .ref C, some d, rfl, J, kG, ge, hoe, ⟨rfl, rfl, fun vs e => by cases e; rfl⟩, rfl, rfl, na, rfl, bare2, raises_own T.exC T.tyC, q2⟩
    | next => exact False.elim hq'
    | brk => exact False.elim hq'
    | cont => exact False.elim hq'
theorem pmk_exN {X : Cx} {x : Str} {C : Addr} {ps : List Str} {sp : Sp} {e : Expr} {es : List Expr} {ta : TA} {p pos : Pos} {k : Nat} (c : ExC X.prog X.w X.K X.mg X.base x C ps sp) (hr : Room (k + 2) X.A) (ha : PA X (e :: es) ta) (hg : Gl X x := by rfl)
    (hdb : (x == ("__debug__" : Str)) = false := by decide) (he : starEach (e :: es) X.env = (false, eval e X.env) :: starEach es X.env := by rfl) (hpl : (backTo pos (starEach es X.env)).any (·.1) = false := by rfl) :
    L2N.PMk X (.Call (.Name x p) (e :: es) [] pos) (tMade C sp ta) := by
  obtain ⟨g, T, fI, fd, iC, tI, F, b⟩ := c
  exact pmk_madeN T iC tI F (hr.mono (by omega)) b pass0 hg g ha hdb he hpl
/-- a def that may let such errors out -/
theorem Def.calN {P : Program} {w : World} {K : PySem.W.Frag} {mg : Str → Option Value} {base : Heap} {x : Str} {k : Nat} {ps : List Str} {sp : Sp} {st : Stmt} {N : List Str} (D : Def K mg x st ps) (S : FnScope N ps (defScope st)) (len : ∀ vs H Q E, sp vs H Q E → vs.length = ps.length)
    (hbody : ∀ (f : Addr) (cdv : Value) (A : Around) (outer : List Env) (s : Shared) (H : Hp) (vs : List V) (Q : VK) (E : XK), Room k (A.deeper (PyProof.Rows.envOfC x (defScope st) s.heap.objs.size f cdv)) → sp vs H Q E →
      ∃ t, PSs (cxOf (L2N.CX P w) P w K mg base N x (defScope st) f cdv A outer s H E) (defBody st) t ∧ t { nx := fun _ H' => Q .non H', rt := Q } (start N vs) H) : Cal P w K mg base (L2N.CX P w) x (k + 1) ps sp := by
  obtain ⟨f, fd, g, F, b⟩ := D
  refine ⟨f, fd, g, F.kp, b, ?_⟩
  obtain ⟨oc, od, kV, doc, pm, an, cdv, ct, osl, rfl, lk, hcd⟩ := F.ex
  exact fn_of lk hcd S len fun A outer s H vs Q E hr hsp => hbody f cdv A outer s H vs Q E hr hsp
theorem pe_fnN {X : Cx} {x : Str} {k : Nat} {ps : List Str} {sp : Sp} {e : Expr} {es : List Expr} {t : TA} {p pos : Pos} {W : WX} (tk : L2N.Takes X W) (C : Cal X.prog X.w X.K X.mg X.base (L2N.CX X.prog X.w) x k ps sp) (hr : Room k X.A) (ha : PA X (e :: es) t) (hg : Gl X x := by rfl)
    (hdb : (x == ("__debug__" : Str)) = false := by decide) (he : starEach (e :: es) X.env = (false, eval e X.env) :: starEach es X.env := by rfl) (hpl : (backTo pos (starEach es X.env)).any (·.1) = false := by rfl) :
    PE X (.Call (.Name x p) (e :: es) [] pos) (tCallS sp (WE W) t) := by
  obtain ⟨f, fd, g, kp, b, F⟩ := C
  exact pe_callS F hr hg g kp b (fun σ => L2N.passAt tk σ) ha hdb he hpl
/-! ### within a suite -/
def CalH (P : Program) (w : World) (K : PySem.W.Frag) (mg : Str → Option Value) (base : Heap) (x : Str) (k : Nat) (ps : List Str) (sp : Sp) : Prop :=
  ∃ (f : Addr) (fd : FuncData), mg x = some (.ref f) ∧ PySem.W.keepIn K (.ref f) = true ∧ Binds K fd ps [] ∧ L2H.FnH P w K mg base CX0 k f fd ps sp
theorem Def.calH {P : Program} {w : World} {K : PySem.W.Frag} {mg : Str → Option Value} {base : Heap} {x : Str} {k : Nat} {ps : List Str} {sp : Sp} {st : Stmt} {N : List Str} (D : Def K mg x st ps) (S : FnScope N ps (defScope st)) (len : ∀ vs H Q E, sp vs H Q E → vs.length = ps.length)
    (hbody : ∀ (f : Addr) (cdv : Value) (A : Around) (outer : List Env) (s : Shared) (H : Hp) (vs : List V) (Q : VK) (E : XK) (p : Addr × Obj), L2H.HotC (L2H.cxH CX0 P w K mg base N x (defScope st) f cdv A outer s H E p).nox → L2H.RoomH k (A.deeper (PyProof.Rows.envOfC x (defScope st) s.heap.objs.size f cdv)) → sp vs H Q E →
      ∃ t, PSs (L2H.cxH CX0 P w K mg base N x (defScope st) f cdv A outer s H E p).nox (defBody st) t ∧ t { nx := fun _ H' => Q .non H', rt := Q } (start N vs) H) : CalH P w K mg base x (k + 1) ps sp := by
  obtain ⟨f, fd, g, F, b⟩ := D
  refine ⟨f, fd, g, F.kp, b, ?_⟩
  obtain ⟨oc, od, kV, doc, pm, an, cdv, ct, osl, rfl, lk, hcd⟩ := F.ex
  refine L2H.fn_ofH lk hcd S len fun A outer s H vs Q E p hot hr hsp => ?_
  obtain ⟨t, h, q⟩ := hbody f cdv A outer s H vs Q E p ⟨p, ⟨hot.1, hot.2⟩, List.mem_cons_self⟩ hr hsp
  exact ⟨t, h.nox, q⟩
theorem Def.neverH {P : Program} {w : World} {K : PySem.W.Frag} {mg : Str → Option Value} {base : Heap} {x : Str} {ps : List Str} {sp : Sp} {st : Stmt} (D : Def K mg x st ps) (no : ∀ vs H Q E, ¬ sp vs H Q E) : CalH P w K mg base x 0 ps sp := by
  obtain ⟨f, fd, g, F, b⟩ := D
  exact ⟨f, fd, g, F.kp, b, ⟨fun vs H Q E h => (no _ _ _ _ h).elim, fun A outer s H args us vs Q E p _ _ _ _ _ _ h => (no _ _ _ _ h).elim⟩⟩
theorem pe_fnH {X : Cx} {x : Str} {k : Nat} {ps : List Str} {sp : Sp} {e : Expr} {es : List Expr} {t : TA} {p pos : Pos} (hc : L2H.HotC X) (C : CalH X.prog X.w X.K X.mg X.base x k ps sp) (hr : L2H.RoomH k X.A) (ha : PA X (e :: es) t) (hg : Gl X x := by rfl)
    (hdb : (x == ("__debug__" : Str)) = false := by decide) (he : starEach (e :: es) X.env = (false, eval e X.env) :: starEach es X.env := by rfl) (hpl : (backTo pos (starEach es X.env)).any (·.1) = false := by rfl) :
    PE X (.Call (.Name x p) (e :: es) [] pos) (tCallS sp (fun _ => E0) t) := by
  obtain ⟨f, fd, g, kp, b, F⟩ := C
  exact L2H.pe_callH F hr hc hg g kp b (fun _ _ _ _ _ _ _ h => h.elim) ha hdb he hpl
theorem pe_gref {X : Cx} {x : Str} {c : Addr} {pos : Pos} (hm : X.mg x = some (.ref c)) (hg : Gl X x := by rfl) (hd : (x == ("__debug__" : Str)) = false := by decide) : PE X (.Name x pos) (tC (.ref c)) := pe_glob hg hm rfl hd
/-- the suite bears its error -/
theorem hot_suite {X : Cx} {a : Addr} {oe : Obj} {cls : Value} {d : Option Addr} {pn : List (Addr × Obj)} (hz : L2N.Zn cls d oe) (hf : ∃ vs, oe.data = .fields vs) : L2H.HotC (X.suite a ((a, oe) :: pn)) := by
  obtain ⟨vs, e⟩ := hf
  exact ⟨(a, oe), ⟨rfl, vs, e, hz.2.2 vs e⟩, List.mem_cons_self⟩
theorem takesN0 {X : Cx} : L2N.Takes X (fun _ _ _ _ => False) := fun _ _ x => by
  obtain ⟨_, _, _, _, _, _, _, _, _, _, _, _, _, _, _, _, h⟩ := x
  exact h.elim
/-! ### which class is which -/
section
variable {K : PySem.W.Frag} {C D : Addr}
theorem cls_some (h : PySem.W.hasDictIn K C = true) : (PySem.W.clsIn K C).isSome = true := by
  obtain ⟨cd, e, _⟩ := PySem.W.any_some h
  rw [e]; rfl
theorem kit_clsR {t : Value} {b : Bool} (hd : PySem.W.hasDictIn K C = true) (ht : PySem.W.typeIn K (.ref C) = some (.type "type")) (h : PySem.W.subIn K t (.ref C) = some b) : PySem.W.kitCls K t (.ref C) = some b := by
  unfold PySem.W.kitCls
  have e : ((PySem.W.clsIn K C).isSome && PySem.W.typeIn K (.ref C) == some (.type "type")) = true := by rw [cls_some hd, ht] <;> rfl
  dsimp only
  rw [if_pos e]; exact h
theorem kit_yes (hd : PySem.W.hasDictIn K C = true) (ht : PySem.W.typeIn K (.ref C) = some (.type "type")) (h : PySem.W.subIn K (.ref C) (.ref C) = some true) : PySem.W.kitOne K (.ref C) (.ref C) = some true := by
  unfold PySem.W.kitOne
  split
  · rfl
  · exact kit_clsR hd ht h
theorem kit_no (hd : PySem.W.hasDictIn K C = true) (ht : PySem.W.typeIn K (.ref C) = some (.type "type")) (h1 : PySem.W.subIn K (.ref D) (.ref D) = some true) (h : PySem.W.subIn K (.ref D) (.ref C) = some false) : PySem.W.kitOne K (.ref D) (.ref C) = some false := by
  unfold PySem.W.kitOne
  split
  · rename_i q
    have e : D = C := by simpa using q
    subst e
    rw [h1] at h; cases h
  · exact kit_clsR hd ht h
theorem kit_tys {T : String} (hm : PySem.W.kitMeta T = true) (h : PySem.W.subIn K (.ref D) (.type T) = some false) : PySem.W.kitOne K (.ref D) (.type T) = some false := by
  unfold PySem.W.kitOne
  split
  · rename_i q
    simp at q
  · unfold PySem.W.kitCls
    dsimp only
    rw [if_pos hm]; exact h
end
end Mw
set_option Elab.async false
set_option maxRecDepth 100000
set_option maxHeartbeats 1000000
namespace Mw
open PySem L2
def topS (i : Nat) : Stmt := PySem.Challenge.pw_methodworlds_k00_errors.main.body.getD i (.Pass ⟨0, 0, 0, 0⟩)
/-- the built-ins are what they were -/
structure Bi (mg : Str → Option Value) : Prop where
  len : mg "len" = none
  range : mg "range" = none
  int : mg "int" = none
  bool : mg "bool" = none
  str : mg "str" = none
  tuple : mg "tuple" = none
  isinstance : mg "isinstance" = none
  ValueError : mg "ValueError" = none
  LookupError : mg "LookupError" = none
  ArithmeticError : mg "ArithmeticError" = none
abbrev S_law_so : Stmt := topS 8
abbrev N_law_so : List Str := ["found", "meant", "k"]
abbrev P_law_so : List Str := ["found", "meant"]
theorem sc_law_so : FnScope N_law_so P_law_so (defScope S_law_so) := ⟨rfl, rfl, rfl, by decide +kernel, rfl, by decide +kernel, by decide +kernel⟩
/-! ### .. within a suite -/
section
variable {P : Program} {w : World} {K : PySem.W.Frag} {mg : Str → Option Value} {base : Heap}
theorem calH_so (T : Bi mg) (D : Def K mg "_law_so" S_law_so P_law_so) : ∀ n : Nat, CalH P w K mg base "_law_so" n P_law_so (spSo K n)
  | 0 => D.neverH fun vs H Q E h => by obtain ⟨_, _, _, m, _, _, _, _, hm, _⟩ := h; omega
  | n + 1 => by
    have C_law_so := calH_so T D n
    refine D.calH sc_law_so (fun vs H Q E h => ?_) (fun f cdv A outer s H vs Q E p hc hr h => ?_)
    · obtain ⟨x, y, d, m, rfl, _⟩ := h; rfl
    · obtain ⟨x, y, d, m, rfl, hx, hy, td, hm, kq⟩ := h
      refine ⟨_, (pss_cons (ps_if (pt_cmp (pc_isN (pv 1))) (pss_one (ps_ret (pe_cmp (pc_isN (pv 0))))) pss_nil)
  (pss_cons (ps_if (pt_val (pe_callB (id := "isinstance") call_isi (by rfl) T.isinstance (by decide +kernel) (pa_cons (pv 1) (pa_cons (pe_bltn (v := .ty "tuple") (by rfl) T.tuple (by decide +kernel) rfl) pa_nil)))) (pss_cons (ps_if (PW.pt (pw_or (pt_not (pt_val (pe_callB (id := "isinstance") call_isi (by rfl) T.isinstance (by decide +kernel) (pa_cons (pv 0) (pa_cons (pe_bltn (v := .ty "tuple") (by rfl) T.tuple (by decide +kernel) rfl) pa_nil))))) (pw_or1 (pt_cmpR op_ne (pe_callB (id := "len") call_len_seq (by rfl) T.len (by decide +kernel) (pa_cons (pv 0) pa_nil)) (pe_callB (id := "len") call_len_seq (by rfl) T.len (by decide +kernel) (pa_cons (pv 1) pa_nil)) (nomark _))))) (pss_one (ps_ret pe_bl)) pss_nil)
  (pss_cons (L2H.ps_forH PassesOwn.never hc (L2H.pi_range1H (by rfl) T.range (pa_cons (pe_callB (id := "len") call_len_seq (by rfl) T.len (by decide +kernel) (pa_cons (pv 1) pa_nil)) pa_nil)) (pg_name (i := 2) sc_law_so.nd rfl (Or.inl rfl)) (pss_one (ps_if (pt_not (pt_val (pe_fnH hc C_law_so hr (pa_cons (pe_ix ix_tup (pv 0) (pv 2) (fun _ _ => rfl)) (pa_cons (pe_ix ix_tup (pv 1) (pv 2) (fun _ _ => rfl)) pa_nil))))) (pss_one (ps_ret pe_bl)) pss_nil)))
  (pss_one (ps_ret pe_bl)))) pss_nil)
  (pss_cons (ps_if (PW.pt (pw_or (pt_val (pe_callB (id := "isinstance") call_isi (by rfl) T.isinstance (by decide +kernel) (pa_cons (pv 1) (pa_cons (pe_bltn (v := .ty "bool") (by rfl) T.bool (by decide +kernel) rfl) pa_nil)))) (pw_or1 (pt_val (pe_callB (id := "isinstance") call_isi (by rfl) T.isinstance (by decide +kernel) (pa_cons (pv 0) (pa_cons (pe_bltn (v := .ty "bool") (by rfl) T.bool (by decide +kernel) rfl) pa_nil))))))) (pss_one (ps_ret (pe_and (pe_callB (id := "isinstance") call_isi (by rfl) T.isinstance (by decide +kernel) (pa_cons (pv 1) (pa_cons (pe_bltn (v := .ty "bool") (by rfl) T.bool (by decide +kernel) rfl) pa_nil))) (pe_and (pe_callB (id := "isinstance") call_isi (by rfl) T.isinstance (by decide +kernel) (pa_cons (pv 0) (pa_cons (pe_bltn (v := .ty "bool") (by rfl) T.bool (by decide +kernel) rfl) pa_nil))) (pe_one (pe_cmpR op_eq (pv 0) (pv 1) (nomark _))))))) pss_nil)
  (pss_cons (ps_if (pt_val (pe_callB (id := "isinstance") call_isi (by rfl) T.isinstance (by decide +kernel) (pa_cons (pv 1) (pa_cons (pe_bltn (v := .ty "int") (by rfl) T.int (by decide +kernel) rfl) pa_nil)))) (pss_one (ps_ret (pe_and (pe_callB (id := "isinstance") call_isi (by rfl) T.isinstance (by decide +kernel) (pa_cons (pv 0) (pa_cons (pe_bltn (v := .ty "int") (by rfl) T.int (by decide +kernel) rfl) pa_nil))) (pe_one (pe_cmpR op_eq (pv 0) (pv 1) (nomark _)))))) pss_nil)
  (pss_one (ps_ret (pe_and (pe_callB (id := "isinstance") call_isi (by rfl) T.isinstance (by decide +kernel) (pa_cons (pv 1) (pa_cons (pe_bltn (v := .ty "str") (by rfl) T.str (by decide +kernel) rfl) pa_nil))) (pe_and (pe_callB (id := "isinstance") call_isi (by rfl) T.isinstance (by decide +kernel) (pa_cons (pv 0) (pa_cons (pe_bltn (v := .ty "str") (by rfl) T.str (by decide +kernel) rfl) pa_nil))) (pe_one (pe_cmpR op_eq (pv 0) (pv 1) (nomark _))))))))))), ?_⟩
      cases hy with
      | non =>
        cases hx
        exact ⟨_, rfl, _, rfl, iteT ⟨_, rfl, kq⟩⟩
      | bl b =>
        cases hx
        refine ⟨_, rfl, _, rfl, iteF ⟨_, rfl, _, _, _, _, _, rfl, .ty "tuple", .base (.bl b), kit_ty (r := false) (by decide +kernel), _, rfl, iteF ?_⟩⟩
        refine ⟨_, rfl, _, _, _, _, _, rfl, .ty "bool", .base (.bl b), kit_ty (r := true) (by decide +kernel), _, rfl, iteT (iteT ?_)⟩
        refine ⟨_, rfl, _, _, _, _, _, rfl, .ty "bool", .base (.bl b), kit_ty (r := true) (by decide +kernel), _, rfl, iteT ?_⟩
        refine ⟨_, rfl, _, _, _, _, _, rfl, .ty "bool", .base (.bl b), kit_ty (r := true) (by decide +kernel), _, rfl, iteT ?_⟩
        refine ⟨_, rfl, _, rfl, rfl, ?_⟩
        rw [decide_eq_true rfl]; exact kq
      | int i =>
        cases hx
        refine ⟨_, rfl, _, rfl, iteF ⟨_, rfl, _, _, _, _, _, rfl, .ty "tuple", .base (.int i), kit_ty (r := false) (by decide +kernel), _, rfl, iteF ?_⟩⟩
        refine ⟨_, rfl, _, _, _, _, _, rfl, .ty "bool", .base (.int i), kit_ty (r := false) (by decide +kernel), _, rfl, iteF ?_⟩
        refine ⟨_, rfl, _, _, _, _, _, rfl, .ty "bool", .base (.int i), kit_ty (r := false) (by decide +kernel), _, rfl, iteF ?_⟩
        refine ⟨_, rfl, _, _, _, _, _, rfl, .ty "int", .base (.int i), kit_ty (r := true) (by decide +kernel), _, rfl, iteT ?_⟩
        refine ⟨_, rfl, _, _, _, _, _, rfl, .ty "int", .base (.int i), kit_ty (r := true) (by decide +kernel), _, rfl, iteT ?_⟩
        refine ⟨_, rfl, _, rfl, rfl, ?_⟩
        rw [decide_eq_true rfl]; exact kq
      | str z =>
        cases hx
        refine ⟨_, rfl, _, rfl, iteF ⟨_, rfl, _, _, _, _, _, rfl, .ty "tuple", .base (.str z), kit_ty (r := false) (by decide +kernel), _, rfl, iteF ?_⟩⟩
        refine ⟨_, rfl, _, _, _, _, _, rfl, .ty "bool", .base (.str z), kit_ty (r := false) (by decide +kernel), _, rfl, iteF ?_⟩
        refine ⟨_, rfl, _, _, _, _, _, rfl, .ty "bool", .base (.str z), kit_ty (r := false) (by decide +kernel), _, rfl, iteF ?_⟩
        refine ⟨_, rfl, _, _, _, _, _, rfl, .ty "int", .base (.str z), kit_ty (r := false) (by decide +kernel), _, rfl, iteF ?_⟩
        refine ⟨_, rfl, _, _, _, _, _, rfl, .ty "str", .base (.str z), kit_ty (r := true) (by decide +kernel), _, rfl, iteT ?_⟩
        refine ⟨_, rfl, _, _, _, _, _, rfl, .ty "str", .base (.str z), kit_ty (r := true) (by decide +kernel), _, rfl, iteT ?_⟩
        refine ⟨_, rfl, _, rfl, rfl, ?_⟩
        rw [decide_eq_true rfl]; exact kq
      | lst _ _ => cases td
      | @tup a ys ds hT hA =>
        cases hx with
        | @tup a' xs _ hT' hA' =>
          have el : xs.length = ys.length := (dpAll_len hA').trans (dpAll_len hA).symm
          cases td with
          | @tup m' _ hz htd =>
            refine ⟨_, rfl, _, rfl, iteF ⟨_, rfl, _, _, _, _, _, rfl, .ty "tuple", ty_tup hT, kit_ty (r := true) (by decide +kernel), _, rfl, iteT ?_⟩⟩
            refine ⟨_, rfl, _, _, _, _, _, rfl, .ty "tuple", ty_tup hT', kit_ty (r := true) (by decide +kernel), _, rfl, iteF ?_⟩
            refine ⟨_, rfl, a', xs, rfl, .inr hT', _, rfl, a, ys, rfl, .inr hT, rfl, _, rfl, ?_⟩
            rw [el, decide_eq_true rfl]
            refine iteF ⟨_, rfl, a, ys, rfl, .inr hT, _, rfl, by omega, ?_, for_range (lo := 0) (n := ys.length) (fun j σ H' => ∃ v : Option V, σ = [some (.ref a'), some (.ref a), v] ∧ H' = H) ⟨none, rfl, rfl⟩ ?_ ?_⟩
            · have := dpAll_len hA
              show (ys.length : Int) < 2 ^ 62
              have e62 : (2 : Int) ^ 62 = 4611686018427387904 := by decide
              omega
            · rintro j σ H1 hj ⟨v, rfl, rfl⟩
              have hjd : j < ds.length := by rw [← dpAll_len hA]; exact hj
              obtain ⟨v1, h1, p1⟩ := dpAll_get hA' (k := j) (d := ds[j]) (by simp [hjd])
              obtain ⟨v2, h2, p2⟩ := dpAll_get hA (k := j) (d := ds[j]) (by simp [hjd])
              refine ⟨_, rfl, _, rfl, a', xs, _, v1, rfl, rfl, hT', at_of (by omega) h1, _, rfl, _, rfl, a, ys, _, v2, rfl, rfl, hT, at_of (by omega) h2, v1, v2, ds[j], m', rfl, p1, p2, htd _ (List.getElem_mem hjd), by omega, _, rfl, iteF ?_⟩
              exact ⟨_, rfl, rfl⟩
            · rintro σ H1 ⟨v, rfl, rfl⟩
              exact kq
end
/-! ### the row of drawn numbers, a draw, the next one -/
abbrev S_law_numbers : Stmt := topS 9
abbrev N_law_numbers : List Str := ["script", "row", "cell", "left", "k", "mixed"]
abbrev P_law_numbers : List Str := ["script"]
theorem sc_law_numbers : FnScope N_law_numbers P_law_numbers (defScope S_law_numbers) := ⟨rfl, rfl, rfl, by decide +kernel, rfl, by decide +kernel, by decide +kernel⟩
abbrev S_law_draw : Stmt := topS 10
abbrev N_law_draw : List Str := ["row", "at", "limit", "mixed"]
abbrev P_law_draw : List Str := ["row", "at", "limit"]
theorem sc_law_draw : FnScope N_law_draw P_law_draw (defScope S_law_draw) := ⟨rfl, rfl, rfl, by decide +kernel, rfl, by decide +kernel, by decide +kernel⟩
abbrev S_law_take : Stmt := topS 11
abbrev N_law_take : List Str := ["row", "spot", "limit"]
abbrev P_law_take : List Str := ["row", "spot", "limit"]
theorem sc_law_take : FnScope N_law_take P_law_take (defScope S_law_take) := ⟨rfl, rfl, rfl, by decide +kernel, rfl, by decide +kernel, by decide +kernel⟩
theorem small_log {i : Int} (h0 : 0 ≤ i) (h : i < 4294967296) : i.natAbs.log2 < 64 := PySem.Flt.log2_lt_of (by decide) (by omega)
theorem mulB_small {i j : Int} (h0 : 0 ≤ i) (h1 : i < 4294967296) (h2 : 0 ≤ j) (h3 : j < 4294967296) : CMulB i j := by
  have a := small_log h0 h1
  have b := small_log h2 h3
  unfold CMulB
  omega
theorem nums_at {ns : List Int} {i : Nat} (h : i < ns.length) : ∃ z, ns[i]? = some z ∧ (ns.map V.int)[i]? = some (V.int z) ∧ z ∈ ns :=
  ⟨ns[i], by simp [h], by simp [h], List.getElem_mem h⟩
theorem bits_log {z : Int} (h : Builtin.Int.intBits z ≤ 1048576) : z.natAbs.log2 < 1048577 := by
  by_cases z0 : z = 0
  · subst z0; decide
  · unfold Builtin.Int.intBits at h
    rw [if_neg (by simpa using z0)] at h
    omega
/-- the row so far -/
def Row0 (m : Nat) (ns : List Int) : Prop := ns.length ≤ m ∧ ∀ n ∈ ns, 0 ≤ n ∧ n < 2147483648
theorem Row0.more {m : Nat} {ns : List Int} {x : Int} (h : Row0 m ns) (h0 : 0 ≤ x) (h1 : x < 2147483648) : Row0 (m + 1) (ns ++ [x]) := by
  refine ⟨by rw [List.length_append, List.length_singleton]; have := h.1; omega, fun n hn => ?_⟩
  rcases List.mem_append.mp hn with q | q
  · exact h.2 n q
  · rw [List.mem_singleton.mp q]; exact ⟨h0, h1⟩
theorem Row0.mono {m m' : Nat} {ns : List Int} (h : Row0 m ns) (hm : m ≤ m') : Row0 m' ns := ⟨Nat.le_trans h.1 hm, h.2⟩
section
variable {P : Program} {w : World} {K : PySem.W.Frag} {mg : Str → Option Value} {base : Heap}
theorem cal_numbers (T : Bi mg) (D : Def K mg "_law_numbers" S_law_numbers P_law_numbers) : Cal P w K mg base CX0 "_law_numbers" 1 P_law_numbers (spNumbers K) := by
  refine D.cal sc_law_numbers (fun vs H Q E h => ?_) (fun f cdv A outer s H vs Q E hr h => ?_)
  · obtain ⟨a, ns, rfl, _⟩ := h; rfl
  · obtain ⟨a, ns, rfl, hS, hl, hb, kq⟩ := h
    refine ⟨_, (pss_cons (ps_set (i := 1) sc_law_numbers.nd rfl (Or.inl rfl) (pe_lst pa_nil))
  (pss_cons (ps_for PassesOwn.never rfl (pi_list (pe_slice sl_list (pv 0) po_none (po_some pe_int))) (pg_name (i := 2) sc_law_numbers.nd rfl (Or.inl rfl)) (pss_one (ps_if (pt_cmpR op_ge (pv 2) (pe_op op_pow pe_int pe_int) (nomark _)) (pss_cons (ps_set (i := 3) sc_law_numbers.nd rfl (Or.inl rfl) (pv 2))
  (pss_one (ps_for PassesOwn.never rfl (pi_range1 (by rfl) T.range (pa_cons pe_int pa_nil)) (pg_name (i := 4) sc_law_numbers.nd rfl (Or.inl rfl)) (pss_cons (ps_if (pt_cmpR op_eq (pv 3) pe_int (nomark _)) (pss_one ps_break) pss_nil)
  (pss_cons (ps_expr (pe_bm PySem.F.plainAttrs_list PySem.F.slot_list_append PySem.F.type_list_append mt_append (pv 1) (pa_cons (pe_op op_mod (pe_callTy (T := "int") call_int1 (by rfl) T.int (by decide +kernel) (pa_cons (pv 3) pa_nil)) pe_int) pa_nil)))
  (pss_one (ps_set (i := 3) sc_law_numbers.nd rfl (Or.inl rfl) (pe_op op_fdiv (pv 3) pe_int)))))))) (pss_one (ps_for PassesOwn.never rfl (pi_range1 (by rfl) T.range (pa_cons pe_int pa_nil)) (pg_name (i := 4) sc_law_numbers.nd rfl (Or.inl rfl)) (pss_cons (ps_set (i := 5) sc_law_numbers.nd rfl (Or.inl rfl) (pe_op op_mod (pe_callTy (T := "int") call_int1 (by rfl) T.int (by decide +kernel) (pa_cons (pe_op op_add (pe_op op_add (pe_op op_mulB (pv 2) pe_int) (pe_op op_mulB (pv 4) pe_int)) pe_int) pa_nil)) pe_int))
  (pss_one (ps_expr (pe_bm PySem.F.plainAttrs_list PySem.F.slot_list_append PySem.F.type_list_append mt_append (pv 1) (pa_cons (pe_op op_mod (pe_callTy (T := "int") call_int1 (by rfl) T.int (by decide +kernel) (pa_cons (pe_op op_add (pe_op op_mulB (pv 5) pe_int) (pv 4)) pa_nil)) pe_int) pa_nil))))))))))
  (pss_cons (ps_if (pt_cmpR op_eq (pe_callB (id := "len") call_len_seq (by rfl) T.len (by decide +kernel) (pa_cons (pv 1) pa_nil)) pe_int (nomark _)) (pss_one (ps_expr (pe_bm PySem.F.plainAttrs_list PySem.F.slot_list_append PySem.F.type_list_append mt_append (pv 1) (pa_cons pe_int pa_nil)))) pss_nil)
  (pss_one (ps_ret (pv 1)))))), ?_⟩
    refine ⟨Nat.zero_le _, fun p hp => ?_⟩
    have hS1 : SqL K (upd H p (.lst [])) a (ns.map V.int) := (Same.new hp).seq hS
    refine ⟨_, rfl, 63, rfl, a, _, rfl, hS1, fun q hq => ?_⟩
    have pq : p ≠ q := ne_of_none upd_same hq
    obtain ⟨ms, hms, hml, hmb⟩ : ∃ ms : List Int, cutV (ns.map V.int) none (some 63) = ms.map V.int ∧ ms.length ≤ 63 ∧ ∀ z ∈ ms, Builtin.Int.intBits z ≤ 1048576 := by
      refine ⟨(ns.drop (HT.sIx (ns.map V.int).length 0 none)).take (HT.sIx (ns.map V.int).length (ns.map V.int).length (some 63) - HT.sIx (ns.map V.int).length 0 none), ?_, ?_, fun z hz => ?_⟩
      · unfold cutV; rw [← List.map_drop, ← List.map_take]
      · rw [List.length_take, List.length_drop]; omega
      · exact hb z (List.mem_of_mem_drop (List.mem_of_mem_take hz))
    have s0 : Same H (upd (upd H p (.lst [])) q (.lst (cutV (ns.map V.int) none (some 63)))) := (Same.new hp).trans (Same.new hq)
    refine ⟨q, rfl, ⟨_, SqL.of upd_same⟩, for_list (K := K) (a := q) (xs := ms.map V.int) (fun i σ H' => ∃ (rs : List Int) (v2 v3 v4 v5 : Option V), σ = [some (.ref a), some (.ref p), v2, v3, v4, v5] ∧ Row0 (60 * i) rs ∧ H' p = some (.lst (rs.map V.int)) ∧ H' q = some (.lst (ms.map V.int)) ∧ (∀ b o, H b = some o → H' b = some o))
      ⟨[], none, none, none, none, rfl, ⟨Nat.zero_le _, fun n hn => nomatch hn⟩, by rw [upd_ne pq]; exact upd_same, by rw [← hms]; exact upd_same, s0⟩ (fun i σ H' _ ⟨_, _, _, _, _, _, _, _, e, _⟩ => SqL.of e) ?_ ?_⟩
    · rintro i y σ H1 hi ⟨rs, v2, v3, v4, v5, rfl, hr0, h1p, h1q, h1s⟩
      have him : i < ms.length := by
        have z := (List.getElem?_eq_some_iff.mp hi).1
        rw [List.length_map] at z; exact z
      obtain ⟨z, _, e2, hz⟩ := nums_at him
      rw [e2] at hi
      obtain rfl := Option.some.inj hi
      have hzb := bits_log (hmb z hz)
      have c48 : (48271 : Int).natAbs.log2 < 64 := small_log (by decide) (by decide)
      -- what both inner loops keep
      refine ⟨_, rfl, _, _, rfl, rfl, ⟨by decide, by decide, by decide⟩, _, _, rfl, rfl, _, rfl, ?_⟩
      refine ite2 (fun _ => ?_) (fun _ => ?_)
      · refine ⟨_, rfl, 60, rfl, by decide, by decide, for_range (lo := 0) (n := 60) (fun j σ H' => ∃ (rs : List Int) (l : Int) (v4 v5 : Option V), σ = [some (.ref a), some (.ref p), some (.int z), some (.int l), v4, v5] ∧ Row0 (60 * i + j) rs ∧ H' p = some (.lst (rs.map V.int)) ∧ H' q = some (.lst (ms.map V.int)) ∧ (∀ b o, H b = some o → H' b = some o))
          ⟨rs, z, v4, v5, rfl, hr0, h1p, h1q, h1s⟩ ?_ ?_⟩
        · rintro j σ H2 hj ⟨rs, l, v4, v5, rfl, hr0, h2p, h2q, h2s⟩
          refine ⟨_, rfl, rfl, _, rfl, ?_⟩
          refine ite2 (fun _ => ?_) (fun _ => ?_)
          · exact ⟨rs, _, _, _, _, rfl, hr0.mono (by omega), h2p, h2q, h2s⟩
          · have l0 : 0 ≤ l % 997 := Int.emod_nonneg _ (by decide)
            have l1 : l % 997 < 997 := Int.emod_lt_of_pos _ (by decide)
            refine ⟨_, rfl, .inl ⟨rfl, _, SqL.of h2p⟩, _, rfl, .inl ⟨_, rfl, _, _, rfl, rfl, by show (0 : Int) < 997; decide, p, _, _, rfl, rfl, h2p, ?_, ?_⟩⟩
            · rw [List.length_map]; exact Nat.lt_of_le_of_lt hr0.1 (Nat.lt_of_le_of_lt (by omega : 60 * i + j ≤ 4000) (by decide))
            · refine ⟨_, rfl, _, _, rfl, rfl, ⟨by decide, by decide⟩, ?_⟩
              refine ⟨rs ++ [l % 997], _, _, _, rfl, hr0.more l0 (by omega), ?_, ?_, fun b o e => ?_⟩
              · rw [upd_same, List.map_append]; rfl
              · rw [upd_ne pq.symm]; exact h2q
              · rw [upd_ne (ne_of_none e hp)]; exact h2s b o e
        · rintro σ H2 ⟨rs, l, v4, v5, rfl, hr0, h2p, h2q, h2s⟩
          exact ⟨rs, _, _, _, _, rfl, hr0.mono (by omega), h2p, h2q, h2s⟩
      · refine ⟨4, rfl, by decide, by decide, for_range (lo := 0) (n := 4) (fun j σ H' => ∃ (rs : List Int) (v3 v4 v5 : Option V), σ = [some (.ref a), some (.ref p), some (.int z), v3, v4, v5] ∧ Row0 (60 * i + j) rs ∧ H' p = some (.lst (rs.map V.int)) ∧ H' q = some (.lst (ms.map V.int)) ∧ (∀ b o, H b = some o → H' b = some o))
          ⟨rs, v3, v4, v5, rfl, hr0, h1p, h1q, h1s⟩ ?_ ?_⟩
        · rintro j σ H2 hj ⟨rs, v3, v4, v5, rfl, hr0, h2p, h2q, h2s⟩
          refine ⟨_, rfl, _, _, rfl, rfl, ?_, _, rfl, _, _, rfl, rfl, ?_, ?_⟩
          · show z.natAbs.log2 + (48271 : Int).natAbs.log2 < 100000000; omega
          · exact mulB_small (by omega) (by omega) (by decide) (by decide)
          · have m0 : 0 ≤ (z * 48271 + (0 + (j : Int)) * 69621 + 11) % 2147483647 := Int.emod_nonneg _ (by decide)
            have m1 : (z * 48271 + (0 + (j : Int)) * 69621 + 11) % 2147483647 < 2147483647 := Int.emod_lt_of_pos _ (by decide)
            refine ⟨_, _, rfl, rfl, _, _, rfl, rfl, .inl ⟨_, rfl, _, _, rfl, rfl, by show (0 : Int) < 2147483647; decide, ?_⟩⟩
            refine ⟨_, rfl, .inl ⟨rfl, _, SqL.of h2p⟩, _, rfl, _, _, rfl, rfl, mulB_small m0 (by omega) (by decide) (by decide), _, rfl, _, _, rfl, rfl, .inl ⟨_, rfl, _, _, rfl, rfl, by show (0 : Int) < 2147483629; decide, p, _, _, rfl, rfl, h2p, ?_, ?_⟩⟩
            · rw [List.length_map]; exact Nat.lt_of_le_of_lt hr0.1 (Nat.lt_of_le_of_lt (by omega : 60 * i + j ≤ 4000) (by decide))
            · have x0 : 0 ≤ ((z * 48271 + (0 + (j : Int)) * 69621 + 11) % 2147483647 * 16807 + (0 + (j : Int))) % 2147483629 := Int.emod_nonneg _ (by decide)
              have x1 : ((z * 48271 + (0 + (j : Int)) * 69621 + 11) % 2147483647 * 16807 + (0 + (j : Int))) % 2147483629 < 2147483629 := Int.emod_lt_of_pos _ (by decide)
              refine ⟨rs ++ [((z * 48271 + (0 + (j : Int)) * 69621 + 11) % 2147483647 * 16807 + (0 + (j : Int))) % 2147483629], _, _, _, rfl, hr0.more x0 (by omega), ?_, ?_, fun b o e => ?_⟩
              · rw [upd_same, List.map_append]; rfl
              · rw [upd_ne pq.symm]; exact h2q
              · rw [upd_ne (ne_of_none e hp)]; exact h2s b o e
        · rintro σ H2 ⟨rs, v3, v4, v5, rfl, hr0, h2p, h2q, h2s⟩
          exact ⟨rs, _, _, _, _, rfl, hr0.mono (by omega), h2p, h2q, h2s⟩
    · rintro σ H1 ⟨rs, v2, v3, v4, v5, rfl, hr0, h1p, h1q, h1s⟩
      refine ⟨_, rfl, p, _, rfl, .inl (SqL.of h1p), rfl, _, rfl, ?_⟩
      rw [List.length_map] at hr0
      refine ite2 (fun c => ?_) (fun c => ?_)
      · refine ⟨_, rfl, .inl ⟨rfl, _, SqL.of h1p⟩, p, _, _, rfl, rfl, h1p, ?_, ?_⟩
        · rw [List.length_map]; exact Nat.lt_of_le_of_lt hr0.1 (Nat.lt_of_le_of_lt (by omega : 60 * ms.length ≤ 4000) (by decide))
        · refine ⟨_, rfl, kq _ p (rs ++ [0]) (fun b o e => ?_) hp ⟨by rw [List.length_append, List.length_singleton]; omega, ?_, fun n hn => ?_⟩ ?_⟩
          · rw [upd_ne (ne_of_none e hp)]; exact h1s b o e
          · have := hr0.1; rw [List.length_append, List.length_singleton]; omega
          · exact (hr0.more (x := 0) (by decide) (by decide)).2 n hn
          · rw [upd_same, List.map_append]; rfl
      · refine ⟨_, rfl, kq _ p rs h1s hp ⟨?_, ?_, hr0.2⟩ h1p⟩
        · rcases Nat.eq_zero_or_pos rs.length with z | z
          · exact absurd (by rw [List.length_map, z]; rfl) c
          · exact z
        · have := hr0.1; omega
theorem cal_draw (T : Bi mg) (D : Def K mg "_law_draw" S_law_draw P_law_draw) : Cal P w K mg base CX0 "_law_draw" 1 P_law_draw (spDraw K) := by
  refine D.cal sc_law_draw (fun vs H Q E h => ?_) (fun f cdv A outer s H vs Q E hr h => ?_)
  · obtain ⟨r, ns, n, lim, rfl, _⟩ := h; rfl
  · obtain ⟨r, ns, n, lim, rfl, hS, ok, hlim, kq⟩ := h
    have hlim' : (fun (_ : Int) j => 0 < j) (0 : Int) lim := hlim
    refine ⟨_, (pss_cons (ps_if (pt_cmpR op_lt (pv 1) (pe_callB (id := "len") call_len_seq (by rfl) T.len (by decide +kernel) (pa_cons (pv 0) pa_nil)) (nomark _)) (pss_one (ps_ret (pe_op op_mod (pe_callTy (T := "int") call_int1 (by rfl) T.int (by decide +kernel) (pa_cons (pe_ix ix_list (pv 0) (pv 1) (fun _ _ => rfl)) pa_nil)) (pv 2)))) pss_nil)
  (pss_cons (ps_set (i := 3) sc_law_draw.nd rfl (Or.inl rfl) (pe_op op_mod (pe_callTy (T := "int") call_int1 (by rfl) T.int (by decide +kernel) (pa_cons (pe_op op_add (pe_op op_add (pe_op op_mul (pe_ix ix_list (pv 0) (pe_op op_mod (pe_callTy (T := "int") call_int1 (by rfl) T.int (by decide +kernel) (pa_cons (pv 1) pa_nil)) (pe_callB (id := "len") call_len_seq (by rfl) T.len (by decide +kernel) (pa_cons (pv 0) pa_nil))) (fun _ _ => rfl)) pe_int) (pe_op op_mul (pv 1) pe_int)) pe_int) pa_nil)) pe_int))
  (pss_one (ps_ret (pe_op op_mod (pe_callTy (T := "int") call_int1 (by rfl) T.int (by decide +kernel) (pa_cons (pe_op op_mod (pe_callTy (T := "int") call_int1 (by rfl) T.int (by decide +kernel) (pa_cons (pe_op op_add (pe_op op_mul (pv 3) pe_int) (pv 1)) pa_nil)) pe_int) pa_nil)) (pv 2)))))), ?_⟩
    refine ⟨_, rfl, _, rfl, r, _, rfl, .inl hS, _, _, rfl, rfl, _, rfl, ?_⟩
    refine ite2 (fun c => ?_) (fun c => ?_)
    · have c' : n < ns.length := by
        have z := of_decide_eq_true c
        rw [List.length_map] at z
        omega
      obtain ⟨z, _, hz, _⟩ := nums_at c'
      refine ⟨_, rfl, _, rfl, r, _, _, _, rfl, rfl, hS, at_of rfl hz, .inl ⟨_, rfl, _, rfl, _, _, rfl, rfl, hlim, ?_⟩⟩
      exact kq _ (Int.emod_nonneg _ (by omega)) (Int.emod_lt_of_pos _ hlim)
    · have hl : (0 : Int) < ((ns.map V.int).length : Int) := by rw [List.length_map]; have := ok.1; omega
      have hm : n % ns.length < ns.length := Nat.mod_lt _ ok.1
      obtain ⟨z, _, hz, hzm⟩ := nums_at hm
      have e : ((n : Int) % ((ns.map V.int).length : Int)) = ((n % ns.length : Nat) : Int) := by rw [List.length_map]; omega
      refine ⟨_, rfl, _, rfl, .inl ⟨_, rfl, _, rfl, r, _, rfl, .inl hS, _, _, rfl, rfl, hl, r, _, _, _, rfl, rfl, hS, at_of e hz, _, _, rfl, rfl, .inr ⟨by decide, by decide⟩, _, rfl, _, _, rfl, rfl, .inr ⟨by decide, by decide⟩, _, _, rfl, rfl, _, _, rfl, rfl,
        .inl ⟨_, rfl, _, _, rfl, rfl, by show (0 : Int) < 2147483399; decide, ?_⟩⟩⟩
      refine ⟨_, rfl, _, _, rfl, rfl, .inr ⟨by decide, by decide⟩, _, rfl, _, _, rfl, rfl, .inl ⟨_, rfl, _, _, rfl, rfl, by show (0 : Int) < 2147483647; decide, .inl ⟨_, rfl, _, rfl, _, _, rfl, rfl, hlim, ?_⟩⟩⟩
      exact kq _ (Int.emod_nonneg _ (by omega)) (Int.emod_lt_of_pos _ hlim)
theorem cal_take (T : Bi mg) (C_law_draw : Cal P w K mg base CX0 "_law_draw" 1 P_law_draw (spDraw K)) (D : Def K mg "_law_take" S_law_take P_law_take) : Cal P w K mg base CX0 "_law_take" 2 P_law_take spTake := by
  refine D.cal sc_law_take (fun vs H Q E h => ?_) (fun f cdv A outer s H vs Q E hr h => ?_)
  · obtain ⟨r, sp, lim, rfl, _⟩ := h; rfl
  · obtain ⟨r, sp, lim, rfl, ⟨ne, ⟨ns, ok, er⟩, n, en⟩, hlim, kq⟩ := h
    refine ⟨_, (pss_cons (ps_asg (pe_op op_add (pe_ix ix_list (pv 1) pe_int (fun _ _ => rfl)) pe_int) (pg_sub (pv 1) pe_int set_list))
  (pss_one (ps_ret (pe_fn C_law_draw hr (pa_cons (pv 0) (pa_cons (pe_op op_sub (pe_ix ix_list (pv 1) pe_int (fun _ _ => rfl)) pe_int) (pa_cons (pv 2) pa_nil))))))), ?_⟩
    refine ⟨_, rfl, sp, _, _, _, rfl, rfl, SqL.of en, at_of (j := 0) rfl rfl, _, _, rfl, rfl, _, rfl, sp, _, _, 0, rfl, rfl, en, rfl, ?_⟩
    have e2 : upd H sp (.lst ([V.int (n : Int)].set 0 (.int ((n : Int) + 1)))) sp = some (.lst [.int (((n + 1 : Nat) : Int))]) := by rw [upd_same]; rfl
    have er2 : upd H sp (.lst ([V.int (n : Int)].set 0 (.int ((n : Int) + 1)))) r = some (.lst (ns.map V.int)) := by rw [upd_ne ne]; exact er
    refine ⟨_, rfl, _, rfl, sp, _, _, _, rfl, rfl, SqL.of e2, at_of (j := 0) rfl rfl, _, _, rfl, rfl, _, rfl, r, ns, n, lim, ?_, SqL.of er2, ok, hlim, fun x h0 h1 => ?_⟩
    · show [V.ref r, V.int (((n + 1 : Nat) : Int) - 1), V.int lim] = _
      rw [show (((n + 1 : Nat) : Int) - 1) = (n : Int) by omega]
    · exact kq x _ h0 h1 Grow.at ⟨ne, ⟨ns, ok, er2⟩, n + 1, e2⟩ fun b hb => upd_ne hb
end
end Mw
set_option Elab.async false
set_option maxRecDepth 100000
set_option maxHeartbeats 1000000
namespace Mw
open PySem L2
/-! ### methodworlds.errors -/
abbrev S_BadValue_init : Stmt := inClass (topS 2) 0
abbrev N_BadValue_init : List Str := ["self", "at"]
abbrev P_BadValue_init : List Str := ["self", "at"]
theorem sc_BadValue_init : FnScope N_BadValue_init P_BadValue_init (defScope S_BadValue_init) := ⟨rfl, rfl, rfl, by decide +kernel, rfl, by decide +kernel, by decide +kernel⟩
abbrev S_BadState_init : Stmt := inClass (topS 3) 0
abbrev N_BadState_init : List Str := ["self", "at"]
abbrev P_BadState_init : List Str := ["self", "at"]
theorem sc_BadState_init : FnScope N_BadState_init P_BadState_init (defScope S_BadState_init) := ⟨rfl, rfl, rfl, by decide +kernel, rfl, by decide +kernel, by decide +kernel⟩
section
variable {P : Program} {w : World} {K : PySem.W.Frag} {mg : Str → Option Value} {base : Heap}
theorem exc_BadValue {C : Addr} (D : XDef K mg "BadValue" "BadValue.__init__" C S_BadValue_init P_BadValue_init) (nA : PySem.W.findIn K (.ref C) "at" = some none) : ExC P w K mg base "BadValue" C P_BadValue_init (spIni1 K C "at") := by
  have T := D.2.1
  refine D.ok sc_BadValue_init (fun vs H Q E h => ?_) (fun f cdv A outer s H vs Q E hr h => ?_)
  · obtain ⟨a, v, rfl, _⟩ := h; rfl
  · obtain ⟨a, v, rfl, ha, kq⟩ := h
    exact ⟨_, (pss_one (ps_put (pv 0) (pv 1))), _, rfl, _, rfl, a, C, rfl, T, nA, .inl ⟨ha, kq⟩⟩
theorem exc_BadState {C : Addr} (D : XDef K mg "BadState" "BadState.__init__" C S_BadState_init P_BadState_init) (nA : PySem.W.findIn K (.ref C) "at" = some none) : ExC P w K mg base "BadState" C P_BadState_init (spIni1 K C "at") := by
  have T := D.2.1
  refine D.ok sc_BadState_init (fun vs H Q E h => ?_) (fun f cdv A outer s H vs Q E hr h => ?_)
  · obtain ⟨a, v, rfl, _⟩ := h; rfl
  · obtain ⟨a, v, rfl, ha, kq⟩ := h
    exact ⟨_, (pss_one (ps_put (pv 0) (pv 1))), _, rfl, _, rfl, a, C, rfl, T, nA, .inl ⟨ha, kq⟩⟩
end
abbrev S_BadSyntax_init : Stmt := inClass (topS 4) 0
abbrev N_BadSyntax_init : List Str := ["self", "at"]
abbrev P_BadSyntax_init : List Str := ["self", "at"]
theorem sc_BadSyntax_init : FnScope N_BadSyntax_init P_BadSyntax_init (defScope S_BadSyntax_init) := ⟨rfl, rfl, rfl, by decide +kernel, rfl, by decide +kernel, by decide +kernel⟩
abbrev S_TooMany_init : Stmt := inClass (topS 6) 0
abbrev N_TooMany_init : List Str := ["self", "word"]
abbrev P_TooMany_init : List Str := ["self", "word"]
theorem sc_TooMany_init : FnScope N_TooMany_init P_TooMany_init (defScope S_TooMany_init) := ⟨rfl, rfl, rfl, by decide +kernel, rfl, by decide +kernel, by decide +kernel⟩
section
variable {P : Program} {w : World} {K : PySem.W.Frag} {mg : Str → Option Value} {base : Heap}
theorem exc_BadSyntax {C : Addr} (D : XDef K mg "BadSyntax" "BadSyntax.__init__" C S_BadSyntax_init P_BadSyntax_init) (nA : PySem.W.findIn K (.ref C) "at" = some none) : ExC P w K mg base "BadSyntax" C P_BadSyntax_init (spIni1 K C "at") := by
  have T := D.2.1
  refine D.ok sc_BadSyntax_init (fun vs H Q E h => ?_) (fun f cdv A outer s H vs Q E hr h => ?_)
  · obtain ⟨a, v, rfl, _⟩ := h; rfl
  · obtain ⟨a, v, rfl, ha, kq⟩ := h
    exact ⟨_, (pss_one (ps_put (pv 0) (pv 1))), _, rfl, _, rfl, a, C, rfl, T, nA, .inl ⟨ha, kq⟩⟩
theorem exc_TooMany {C : Addr} (D : XDef K mg "TooMany" "TooMany.__init__" C S_TooMany_init P_TooMany_init) (nA : PySem.W.findIn K (.ref C) "word" = some none) : ExC P w K mg base "TooMany" C P_TooMany_init (spIni1 K C "word") := by
  have T := D.2.1
  refine D.ok sc_TooMany_init (fun vs H Q E h => ?_) (fun f cdv A outer s H vs Q E hr h => ?_)
  · obtain ⟨a, v, rfl, _⟩ := h; rfl
  · obtain ⟨a, v, rfl, ha, kq⟩ := h
    exact ⟨_, (pss_one (ps_put (pv 0) (pv 1))), _, rfl, _, rfl, a, C, rfl, T, nA, .inl ⟨ha, kq⟩⟩
end
abbrev S_BadMethod_init : Stmt := inClass (topS 5) 0
abbrev N_BadMethod_init : List Str := ["self", "task", "method"]
abbrev P_BadMethod_init : List Str := ["self", "task", "method"]
theorem sc_BadMethod_init : FnScope N_BadMethod_init P_BadMethod_init (defScope S_BadMethod_init) := ⟨rfl, rfl, rfl, by decide +kernel, rfl, by decide +kernel, by decide +kernel⟩
section
variable {P : Program} {w : World} {K : PySem.W.Frag} {mg : Str → Option Value} {base : Heap}
theorem exc_BadMethod {C : Addr} (D : XDef K mg "BadMethod" "BadMethod.__init__" C S_BadMethod_init P_BadMethod_init) (n1 : PySem.W.findIn K (.ref C) "task" = some none) (n2 : PySem.W.findIn K (.ref C) "method" = some none) : ExC P w K mg base "BadMethod" C P_BadMethod_init (spIni2 K C "task" "method") := by
  have T := D.2.1
  refine D.ok sc_BadMethod_init (fun vs H Q E h => ?_) (fun f cdv A outer s H vs Q E hr h => ?_)
  · obtain ⟨a, v, u, rfl, _⟩ := h; rfl
  · obtain ⟨a, v, u, rfl, ha, kq⟩ := h
    refine ⟨_, (pss_cons (ps_put (pv 0) (pv 1))
  (pss_one (ps_put (pv 0) (pv 2)))), _, rfl, _, rfl, a, C, rfl, T, n1, .inl ⟨ha, fun dx hdx hne => ?_⟩⟩
    refine ⟨_, rfl, _, rfl, a, C, rfl, T, n2, .inr ⟨dx, _, upd_same, by rw [upd_ne hne]; exact upd_same, by show 1 ≤ 900; decide, kq dx hdx hne⟩⟩
end
abbrev S_law_wide : Stmt := topS 12
abbrev N_law_wide : List Str := ["row", "spot", "limit", "first", "second", "third"]
abbrev P_law_wide : List Str := ["row", "spot", "limit"]
theorem sc_law_wide : FnScope N_law_wide P_law_wide (defScope S_law_wide) := ⟨rfl, rfl, rfl, by decide +kernel, rfl, by decide +kernel, by decide +kernel⟩
abbrev S_law_raised : Stmt := topS 13
abbrev N_law_raised : List Str := ["kind", "value"]
abbrev P_law_raised : List Str := ["kind", "value"]
theorem sc_law_raised : FnScope N_law_raised P_law_raised (defScope S_law_raised) := ⟨rfl, rfl, rfl, by decide +kernel, rfl, by decide +kernel, by decide +kernel⟩
section
variable {P : Program} {w : World} {K : PySem.W.Frag} {mg : Str → Option Value} {base : Heap}
/-- _law_wide(row, spot, limit) -/
def spWide : Sp := fun vs H Q _ => ∃ (r sp : Addr) (lim : Int), vs = [.ref r, .ref sp, .int lim] ∧ Rolls r sp H ∧ 0 < lim ∧ ∀ (x : Int) (H' : Hp), 0 ≤ x → x < lim → Grow sp H H' → Rolls r sp H' → Q (.int x) H'
theorem cal_wide (T : Bi mg) (C_law_take : Cal P w K mg base CX0 "_law_take" 2 P_law_take spTake) (D : Def K mg "_law_wide" S_law_wide P_law_wide) : Cal P w K mg base CX0 "_law_wide" 3 P_law_wide spWide := by
  refine D.cal sc_law_wide (fun vs H Q E h => ?_) (fun f cdv A outer s H vs Q E hr h => ?_)
  · obtain ⟨r, sp, lim, rfl, _⟩ := h; rfl
  · obtain ⟨r, sp, lim, rfl, R, hlim, kq⟩ := h
    refine ⟨_, (pss_cons (ps_set (i := 3) sc_law_wide.nd rfl (Or.inl rfl) (pe_fn C_law_take hr (pa_cons (pv 0) (pa_cons (pv 1) (pa_cons pe_int pa_nil)))))
  (pss_cons (ps_set (i := 4) sc_law_wide.nd rfl (Or.inl rfl) (pe_fn C_law_take hr (pa_cons (pv 0) (pa_cons (pv 1) (pa_cons pe_int pa_nil)))))
  (pss_cons (ps_set (i := 5) sc_law_wide.nd rfl (Or.inl rfl) (pe_fn C_law_take hr (pa_cons (pv 0) (pa_cons (pv 1) (pa_cons pe_int pa_nil)))))
  (pss_one (ps_ret (pe_op op_mod (pe_callTy (T := "int") call_int1 (by rfl) T.int (by decide +kernel) (pa_cons (pe_op op_add (pe_op op_add (pe_op op_mulB (pv 3) pe_int) (pe_op op_mulB (pv 4) pe_int)) (pv 5)) pa_nil)) (pv 2))))))), ?_⟩
    refine ⟨_, rfl, _, rfl, r, sp, 997, rfl, R, by decide, fun x H1 x0 x1 g1 R1 _ => ?_⟩
    refine ⟨_, rfl, _, rfl, r, sp, 997, rfl, R1, by decide, fun y H2 y0 y1 g2 R2 _ => ?_⟩
    refine ⟨_, rfl, _, rfl, r, sp, 997, rfl, R2, by decide, fun z H3 z0 z1 g3 R3 _ => ?_⟩
    refine ⟨_, rfl, _, _, rfl, rfl, mulB_small x0 (by omega) (by decide) (by decide), _, rfl, _, _, rfl, rfl, mulB_small y0 (by omega) (by decide) (by decide), _, _, rfl, rfl, _, rfl, _, _, rfl, rfl, .inl ⟨_, rfl, _, rfl, _, _, rfl, rfl, hlim, ?_⟩⟩
    exact kq _ _ (Int.emod_nonneg _ (by omega)) (Int.emod_lt_of_pos _ hlim) ((g1.trans g2).trans g3) R3
/-- _law_raised(kind, value): one of the five -/
def spRaised (K : PySem.W.Frag) (cs : Nat → Addr) : Sp := fun vs H _ E => ∃ (k : Nat) (v : V), vs = [.int (k : Int), v] ∧
  ((k < 3 ∧ ∀ d H', Same H H' → H d = none → H' d = some (.xd [("at", v)]) → E (.ref (cs k)) (some d) H') ∨
   (k = 3 ∧ ∃ (t : Addr) (v1 v2 : V), v = .ref t ∧ SqT K H t [v1, v2] ∧ ∀ d H', Same H H' → H d = none → H' d = some (.xd [("method", v2), ("task", v1)]) → E (.ref (cs 3)) (some d) H') ∨
   (k = 4 ∧ ∀ d H', Same H H' → H d = none → H' d = some (.xd [("word", v)]) → E (.ref (cs 4)) (some d) H'))
theorem cal_raised {cs : Nat → Addr} (X_BadValue : ExC P w K mg base "BadValue" (cs 0) P_BadValue_init (spIni1 K (cs 0) "at")) (X_BadState : ExC P w K mg base "BadState" (cs 1) P_BadState_init (spIni1 K (cs 1) "at"))
    (X_BadSyntax : ExC P w K mg base "BadSyntax" (cs 2) P_BadSyntax_init (spIni1 K (cs 2) "at")) (X_BadMethod : ExC P w K mg base "BadMethod" (cs 3) P_BadMethod_init (spIni2 K (cs 3) "task" "method")) (X_TooMany : ExC P w K mg base "TooMany" (cs 4) P_TooMany_init (spIni1 K (cs 4) "word"))
    (D : Def K mg "_law_raised" S_law_raised P_law_raised) : Cal P w K mg base (L2N.CX P w) "_law_raised" 4 P_law_raised (spRaised K cs) := by
  refine D.calN sc_law_raised (fun vs H Q E h => ?_) (fun f cdv A outer s H vs Q E hr h => ?_)
  · obtain ⟨k, v, rfl, _⟩ := h; rfl
  · obtain ⟨k, v, rfl, h⟩ := h
    refine ⟨_, (pss_cons (ps_if (pt_cmpR op_eq (pv 0) pe_int (nomark _)) (pss_one (L2N.ps_raise rfl (L2N.takes_of rfl rfl rfl rfl) (pmk_exN (k := 1) X_BadValue (hr.mono (by omega)) (pa_cons (pv 1) pa_nil)))) pss_nil)
  (pss_cons (ps_if (pt_cmpR op_eq (pv 0) pe_int (nomark _)) (pss_one (L2N.ps_raise rfl (L2N.takes_of rfl rfl rfl rfl) (pmk_exN (k := 1) X_BadState (hr.mono (by omega)) (pa_cons (pv 1) pa_nil)))) pss_nil)
  (pss_cons (ps_if (pt_cmpR op_eq (pv 0) pe_int (nomark _)) (pss_one (L2N.ps_raise rfl (L2N.takes_of rfl rfl rfl rfl) (pmk_exN (k := 1) X_BadSyntax (hr.mono (by omega)) (pa_cons (pv 1) pa_nil)))) pss_nil)
  (pss_cons (ps_if (pt_cmpR op_eq (pv 0) pe_int (nomark _)) (pss_one (L2N.ps_raise rfl (L2N.takes_of rfl rfl rfl rfl) (pmk_exN (k := 1) X_BadMethod (hr.mono (by omega)) (pa_cons (pe_ix ix_tup (pv 1) pe_int (fun _ _ => rfl)) (pa_cons (pe_ix ix_tup (pv 1) pe_int (fun _ _ => rfl)) pa_nil))))) pss_nil)
  (pss_one (L2N.ps_raise rfl (L2N.takes_of rfl rfl rfl rfl) (pmk_exN (k := 1) X_TooMany (hr.mono (by omega)) (pa_cons (pv 1) pa_nil)))))))), ?_⟩
    have ne : ∀ {i j : Nat}, i ≠ j → decide (V.int (i : Int) = V.int (j : Int)) = false := fun {i j} q => decide_eq_false fun z => q (by injection z with z; omega)
    rcases h with ⟨hk, h⟩ | ⟨rfl, t, v1, v2, rfl, hq, h⟩ | ⟨rfl, h⟩
    · have : k = 0 ∨ k = 1 ∨ k = 2 := by omega
      rcases this with rfl | rfl | rfl
      · exact ⟨_, rfl, rfl, _, rfl, iteT ⟨_, rfl, by show 1 ≤ 1000; decide, made1 h⟩⟩
      · exact ⟨_, rfl, rfl, _, rfl, iteF ⟨_, rfl, rfl, _, rfl, iteT ⟨_, rfl, by show 1 ≤ 1000; decide, made1 h⟩⟩⟩
      · exact ⟨_, rfl, rfl, _, rfl, iteF ⟨_, rfl, rfl, _, rfl, iteF ⟨_, rfl, rfl, _, rfl, iteT ⟨_, rfl, by show 1 ≤ 1000; decide, made1 h⟩⟩⟩⟩
    · refine ⟨_, rfl, rfl, _, rfl, iteF ⟨_, rfl, rfl, _, rfl, iteF ⟨_, rfl, rfl, _, rfl, iteF ⟨_, rfl, rfl, _, rfl, iteT ?_⟩⟩⟩⟩
      exact ⟨_, rfl, t, _, _, _, rfl, rfl, hq, at_of (j := 0) rfl rfl, _, rfl, t, _, _, _, rfl, rfl, hq, at_of (j := 1) rfl rfl, by show 2 ≤ 1000; decide, made2 h⟩
    · exact ⟨_, rfl, rfl, _, rfl, iteF ⟨_, rfl, rfl, _, rfl, iteF ⟨_, rfl, rfl, _, rfl, iteF ⟨_, rfl, rfl, _, rfl, iteF ⟨_, rfl, by show 1 ≤ 1000; decide, made1 h⟩⟩⟩⟩⟩
end
end Mw
set_option Elab.async false
set_option maxRecDepth 100000
set_option maxHeartbeats 1000000
namespace Mw
open PySem L2
abbrev S_law : Stmt := topS 14
abbrev N_law : List Str := ["script", "row", "spot", "kind", "value", "error", "own", "k"]
abbrev P_law : List Str := ["script"]
theorem sc_law : FnScope N_law P_law (defScope S_law) := ⟨rfl, rfl, rfl, by decide +kernel, rfl, by decide +kernel, by decide +kernel⟩
section
variable {P : Program} {w : World} {K : PySem.W.Frag} {mg : Str → Option Value} {base : Heap}
/-- the classes where they stand -/
structure Xs (mg : Str → Option Value) (cs : Nat → Addr) (cM : Addr) : Prop extends Bi mg where
  g_MethodError : mg "MethodError" = some (.ref cM)
  g_BadValue : mg "BadValue" = some (.ref (cs 0))
  g_BadState : mg "BadState" = some (.ref (cs 1))
  g_BadSyntax : mg "BadSyntax" = some (.ref (cs 2))
  g_BadMethod : mg "BadMethod" = some (.ref (cs 3))
  g_TooMany : mg "TooMany" = some (.ref (cs 4))
/-- what the written part says of them -/
structure Kn (K : PySem.W.Frag) (cs : Nat → Addr) (cM : Addr) : Prop where
  ask : ∀ i, i < 5 → AskE K (cs i)
  xf : ∀ i, i < 5 → XfC K (cs i)
  sub : ∀ i, i < 5 → PySem.W.exmOne K (.ref (cs i)) (.ref cM) = some true
  own : ∀ i j, i < 5 → j < 5 → PySem.W.kitOne K (.ref (cs i)) (.ref (cs j)) = some (decide (i = j))
  ve : ∀ i, i < 5 → PySem.W.kitOne K (.ref (cs i)) (.type "ValueError") = some false
  le : ∀ i, i < 5 → PySem.W.kitOne K (.ref (cs i)) (.type "LookupError") = some false
  ae : ∀ i, i < 5 → PySem.W.kitOne K (.ref (cs i)) (.type "ArithmeticError") = some false
  at_ : ∀ i, i < 3 → PySem.W.findIn K (.ref (cs i)) "at" = some none
  task : PySem.W.findIn K (.ref (cs 3)) "task" = some none
  method : PySem.W.findIn K (.ref (cs 3)) "method" = some none
  word : PySem.W.findIn K (.ref (cs 4)) "word" = some none
/-- the reading of the suite -/
def tsLaw (K : PySem.W.Frag) (cs : Nat → Addr) (a : Addr) (cls : Value) (d : Option Addr) : TS :=
  tSeq (tAsg (tLst (tCons (tCB (rAsk K a cls d) (tCons (tVar 5) (tCons (tC (V.ref (cs 0))) tNil))) (tCons (tCB (rAsk K a cls d) (tCons (tVar 5) (tCons (tC (V.ref (cs 1))) tNil))) (tCons (tCB (rAsk K a cls d) (tCons (tVar 5) (tCons (tC (V.ref (cs 2))) tNil)))
      (tCons (tCB (rAsk K a cls d) (tCons (tVar 5) (tCons (tC (V.ref (cs 3))) tNil))) (tCons (tCB (rAsk K a cls d) (tCons (tVar 5) (tCons (tC (V.ref (cs 4))) tNil))) tNil)))))) (gName 6))
    (tSeq (tFor (iRng1 (tCons (tC (V.int 5)) tNil)) (gName 7) (tIfS (tTest (tOp rNe (tOp (rIxL K) (tVar 6) (tVar 7)) (tOp rEq (tVar 7) (tVar 3)))) (tRet (tC (V.bl false))) tNext))
      (tSeq (tIfS (tOr (tB (tCB (rAsk K a cls d) (tCons (tVar 5) (tCons (tC (V.ty "ValueError")) tNil)))) (tOr (tB (tCB (rAsk K a cls d) (tCons (tVar 5) (tCons (tC (V.ty "LookupError")) tNil)))) (tB (tCB (rAsk K a cls d) (tCons (tVar 5) (tCons (tC (V.ty "ArithmeticError")) tNil)))))) (tRet (tC (V.bl false))) tNext)
        (tSeq (tIfS (tTest (tOp rEq (tVar 3) (tC (V.int 4)))) (tRet (tCallS (spSo K 5) (fun _ => E0) (tCons (tXg K a cls d (Str.ofString "word") (tVar 5)) (tCons (tVar 4) tNil)))) tNext)
          (tSeq (tIfS (tTest (tOp rEq (tVar 3) (tC (V.int 3)))) (tRet (tCallS (spSo K 5) (fun _ => E0) (tCons (tTup (tCons (tXg K a cls d (Str.ofString "task") (tVar 5)) (tCons (tXg K a cls d (Str.ofString "method") (tVar 5)) tNil))) (tCons (tVar 4) tNil)))) tNext)
            (tRet (tCallS (spSo K 5) (fun _ => E0) (tCons (tXg K a cls d (Str.ofString "at") (tVar 5)) (tCons (tVar 4) tNil))))))))
/-- the value that goes with a kind -/
def Val (K : PySem.W.Frag) (i : Nat) (v : V) (H : Hp) : Prop := (i < 3 ∧ ∃ z, v = .int z) ∨ (i = 3 ∧ ∃ (t : Addr) (y z : Int), v = .ref t ∧ SqT K H t [.int y, .int z]) ∨ (i = 4 ∧ ∃ x, v = .str x)
/-- .. and the attributes that the error then has -/
def Vf (K : PySem.W.Frag) (i : Nat) (v : V) (H : Hp) (fs : List (Str × V)) : Prop := (i < 3 ∧ ∃ z, v = .int z ∧ fs = ([(("at" : Str), v)] : List (Str × V))) ∨
  (i = 3 ∧ ∃ (t : Addr) (y z : Int), v = .ref t ∧ SqT K H t [.int y, .int z] ∧ fs = ([(("method" : Str), .int z), (("task" : Str), .int y)] : List (Str × V))) ∨ (i = 4 ∧ ∃ x, v = .str x ∧ fs = ([(("word" : Str), v)] : List (Str × V)))
theorem suite_ok {cs : Nat → Addr} {cM : Addr} (Z : Kn K cs cM) {i : Nat} (hi : i < 5) {a dd ea : Addr} {v : V} {fs : List (Str × V)} {H : Hp} {D : Ends} {v0 v1 v2 : Option V} (hv : Vf K i v H fs) (hdd : H dd = some (.xd fs)) (kq : ∀ H', D.rt (.bl true) H') :
    tsLaw K cs ea (.ref (cs i)) (some dd) D [v0, v1, v2, some (.int (i : Int)), some v, some (.ref ea), none, none] H := by
  refine ⟨_, rfl, cs i, dd, fs, _, _, _, rfl, rfl, hdd, Z.ask i hi, rfl, fun u h => h, Z.own i 0 hi (by decide), _, rfl, cs i, dd, fs, _, _, _, rfl, rfl, hdd, Z.ask i hi, rfl, fun u h => h, Z.own i 1 hi (by decide), ?_⟩
  refine ⟨_, rfl, cs i, dd, fs, _, _, _, rfl, rfl, hdd, Z.ask i hi, rfl, fun u h => h, Z.own i 2 hi (by decide), _, rfl, cs i, dd, fs, _, _, _, rfl, rfl, hdd, Z.ask i hi, rfl, fun u h => h, Z.own i 3 hi (by decide), ?_⟩
  refine ⟨_, rfl, cs i, dd, fs, _, _, _, rfl, rfl, hdd, Z.ask i hi, rfl, fun u h => h, Z.own i 4 hi (by decide), by show 5 ≤ sizeLine; decide, fun O hO => ?_⟩
  have s1 : Same H (upd H O (.lst [.bl (decide (i = 0)), .bl (decide (i = 1)), .bl (decide (i = 2)), .bl (decide (i = 3)), .bl (decide (i = 4))])) := Same.new hO
  have hO1 : upd H O (.lst [.bl (decide (i = 0)), .bl (decide (i = 1)), .bl (decide (i = 2)), .bl (decide (i = 3)), .bl (decide (i = 4))]) O = some (.lst [.bl (decide (i = 0)), .bl (decide (i = 1)), .bl (decide (i = 2)), .bl (decide (i = 3)), .bl (decide (i = 4))]) := upd_same
  have hdd1 := s1 _ _ hdd
  refine ⟨5, rfl, by decide, by decide, for_range (lo := 0) (n := 5) (fun j σ H' => (∃ v7 : Option V, σ = [v0, v1, v2, some (.int (i : Int)), some v, some (.ref ea), some (.ref O), v7]) ∧ H' = upd H O (.lst [.bl (decide (i = 0)), .bl (decide (i = 1)), .bl (decide (i = 2)), .bl (decide (i = 3)), .bl (decide (i = 4))])) ⟨⟨_, rfl⟩, rfl⟩ ?_ ?_⟩
  · rintro j σ H' hj ⟨⟨v7, rfl⟩, rfl⟩
    have hget : ([.bl (decide (i = 0)), .bl (decide (i = 1)), .bl (decide (i = 2)), .bl (decide (i = 3)), .bl (decide (i = 4))] : List V)[j]? = some (.bl (decide (i = j))) := by
      have : j = 0 ∨ j = 1 ∨ j = 2 ∨ j = 3 ∨ j = 4 := by omega
      rcases this with rfl | rfl | rfl | rfl | rfl <;> rfl
    have e1 : decide (V.int (0 + (j : Int)) = V.int (i : Int)) = decide (i = j) := by
      by_cases q : i = j
      · rw [q, Int.zero_add, decide_eq_true rfl, decide_eq_true rfl]
      · rw [decide_eq_false q]
        exact decide_eq_false fun z => q (by injection z with z; omega)
    refine ⟨_, rfl, _, rfl, O, _, _, _, rfl, rfl, SqL.of hO1, at_of (j := j) (by omega) hget, _, rfl, _, rfl, rfl, rfl, _, rfl, ?_⟩
    rw [e1]
    refine ite2 (fun c => ?_) (fun c => ⟨⟨_, rfl⟩, rfl⟩)
    simp at c
  · rintro σ H' ⟨⟨v7, rfl⟩, rfl⟩
    refine ⟨_, rfl, cs i, dd, fs, _, _, _, rfl, rfl, hdd1, Z.ask i hi, rfl, fun u h => h, Z.ve i hi, _, rfl, iteF ?_⟩
    refine ⟨_, rfl, cs i, dd, fs, _, _, _, rfl, rfl, hdd1, Z.ask i hi, rfl, fun u h => h, Z.le i hi, _, rfl, iteF ?_⟩
    refine ⟨_, rfl, cs i, dd, fs, _, _, _, rfl, rfl, hdd1, Z.ask i hi, rfl, fun u h => h, Z.ae i hi, _, rfl, iteF ?_⟩
    rcases hv with ⟨i3, z, rfl, rfl⟩ | ⟨rfl, t, y, z, rfl, hq, rfl⟩ | ⟨rfl, x, rfl, rfl⟩
    · skip
      refine ⟨_, rfl, rfl, _, rfl, ite2 (fun c => absurd (of_decide_eq_true c) fun q => by injection q with q; omega) (fun _ => ?_)⟩
      refine ⟨_, rfl, rfl, _, rfl, ite2 (fun c => absurd (of_decide_eq_true c) fun q => by injection q with q; omega) (fun _ => ?_)⟩
      exact ⟨_, rfl, rfl, cs i, dd, _, .int z, rfl, Z.xf i hi, Z.at_ i i3, rfl, hdd1, rfl, _, rfl, _, _, .int z, 0, rfl, .int z, .int z, .int z, by decide, kq _⟩
    · skip
      refine ⟨_, rfl, rfl, _, rfl, iteF ⟨_, rfl, rfl, _, rfl, iteT ?_⟩⟩
      refine ⟨_, rfl, rfl, cs 3, dd, _, .int y, rfl, Z.xf 3 hi, Z.task, rfl, hdd1, rfl, _, rfl, rfl, cs 3, dd, _, .int z, rfl, Z.xf 3 hi, Z.method, rfl, hdd1, rfl, by show 2 ≤ sizeLine; decide, fun p hp => ?_⟩
      have s2 := Same.new (o := .tup [.int y, .int z]) hp
      exact ⟨_, rfl, .ref p, .ref t, .tuple [.int y, .int z], 1, rfl, .tup (SqT.of upd_same) (.cons (.int y) (.cons (.int z) .nil)), .tup (sqT_same (s1.trans s2) hq) (.cons (.int y) (.cons (.int z) .nil)), (.tup (n := 0) (by show 2 ≤ 1000; decide) (fun e he => by simp at he; rcases he with rfl | rfl; exact .int y; exact .int z)), by decide, kq _⟩
    · skip
      refine ⟨_, rfl, rfl, _, rfl, iteT ?_⟩
      exact ⟨_, rfl, rfl, cs 4, dd, _, .str x, rfl, Z.xf 4 hi, Z.word, rfl, hdd1, rfl, _, rfl, _, _, .str x, 0, rfl, .str x, .str x, .str x, by decide, kq _⟩
theorem fn_law {cs : Nat → Addr} {cM : Addr} {k : Nat} (T : Xs mg cs cM) (Z : Kn K cs cM) (C_law_numbers : Cal P w K mg base CX0 "_law_numbers" k P_law_numbers (spNumbers K)) (C_law_take : Cal P w K mg base CX0 "_law_take" k P_law_take spTake) (C_law_wide : Cal P w K mg base CX0 "_law_wide" k P_law_wide spWide)
    (C_law_raised : Cal P w K mg base (L2N.CX P w) "_law_raised" k P_law_raised (spRaised K cs)) (C_law_so : CalH P w K mg base "_law_so" k P_law_so (spSo K 5))
    {fa : Addr} {fd : FuncData} (F : Fun K "law" "law" S_law fa fd) : FnOk P w K mg base CX0 (k + 1) fa fd P_law (spLaw K) := by
  refine F.ok sc_law (fun vs H Q E h => ?_) (fun cdv A outer s H vs Q E hr h => ?_)
  · obtain ⟨a, ns, rfl, _⟩ := h; rfl
  · obtain ⟨a, ns, rfl, hs, hl, hb, kq⟩ := h
    refine ⟨_, (pss_cons (ps_set (i := 1) sc_law.nd rfl (Or.inl rfl) (pe_fn C_law_numbers hr (pa_cons (pv 0) pa_nil)))
  (pss_cons (ps_set (i := 2) sc_law.nd rfl (Or.inl rfl) (pe_lst (pa_cons pe_int pa_nil)))
  (pss_cons (ps_set (i := 3) sc_law.nd rfl (Or.inl rfl) (pe_fn C_law_take hr (pa_cons (pv 1) (pa_cons (pv 2) (pa_cons pe_int pa_nil)))))
  (pss_cons (ps_set (i := 4) sc_law.nd rfl (Or.inl rfl) (pe_op op_sub (pe_fn C_law_wide hr (pa_cons (pv 1) (pa_cons (pv 2) (pa_cons (pe_op op_pow pe_int pe_int) pa_nil)))) (pe_op op_mul pe_int (pe_op op_pow pe_int pe_int))))
  (pss_cons (ps_if (pt_cmpR op_eq (pv 3) pe_int (nomark _)) (pss_one (ps_set (i := 4) sc_law.nd rfl (Or.inl rfl) (pe_tup (pa_cons (pv 4) (pa_cons (pe_fn C_law_wide hr (pa_cons (pv 1) (pa_cons (pv 2) (pa_cons pe_int pa_nil)))) pa_nil))))) pss_nil)
  (pss_cons (ps_if (pt_cmpR op_eq (pv 3) pe_int (nomark _)) (pss_one (ps_set (i := 4) sc_law.nd rfl (Or.inl rfl) (pe_ix ix_list (pe_lst (pa_cons pe_str (pa_cons pe_str (pa_cons pe_str pa_nil)))) (pe_fn C_law_take hr (pa_cons (pv 1) (pa_cons (pv 2) (pa_cons pe_int pa_nil)))) (fun _ _ => rfl)))) pss_nil)
  (pss_cons (L2N.ps_try_as (i := 5) rfl rfl sc_law.nd rfl rfl ⟨by rfl, by decide, .inl T.g_MethodError⟩ takesN0
  (fun W pn xe tk _ => (pss_one (ps_expr (pe_fnN tk C_law_raised hr (pa_cons (pv 3) (pa_cons (pv 4) pa_nil))))))
  (fun a oe cls d pn hz hf => (pss_cons (ps_set (i := 6) sc_law.nd rfl (Or.inl rfl) (pe_lst (pa_cons (pe_callB (id := "isinstance") (r := rAsk K a cls d) (call_ask hz.zc hf) (by rfl) T.isinstance (by decide +kernel) (pa_cons (pv 5) (pa_cons (pe_gref T.g_BadValue) pa_nil))) (pa_cons (pe_callB (id := "isinstance") (r := rAsk K a cls d) (call_ask hz.zc hf) (by rfl) T.isinstance (by decide +kernel) (pa_cons (pv 5) (pa_cons (pe_gref T.g_BadState) pa_nil))) (pa_cons (pe_callB (id := "isinstance") (r := rAsk K a cls d) (call_ask hz.zc hf) (by rfl) T.isinstance (by decide +kernel) (pa_cons (pv 5) (pa_cons (pe_gref T.g_BadSyntax) pa_nil))) (pa_cons (pe_callB (id := "isinstance") (r := rAsk K a cls d) (call_ask hz.zc hf) (by rfl) T.isinstance (by decide +kernel) (pa_cons (pv 5) (pa_cons (pe_gref T.g_BadMethod) pa_nil))) (pa_cons (pe_callB (id := "isinstance") (r := rAsk K a cls d) (call_ask hz.zc hf) (by rfl) T.isinstance (by decide +kernel) (pa_cons (pv 5) (pa_cons (pe_gref T.g_TooMany) pa_nil))) pa_nil)))))))
  (pss_cons (L2H.ps_forH PassesOwn.never (hot_suite hz hf) (L2H.pi_range1H (by rfl) T.range (pa_cons pe_int pa_nil)) (pg_name (i := 7) sc_law.nd rfl (Or.inl rfl)) (pss_one (ps_if (pt_cmpR op_ne (pe_ix (r := rIxL K) ix_list (pv 6) (pv 7) (fun _ _ => rfl)) (pe_cmpR op_eq (pv 7) (pv 3) (nomark _)) (nomark _)) (pss_one (ps_ret pe_bl)) pss_nil)))
  (pss_cons (ps_if (PW.pt (pw_or (pt_val (pe_callB (id := "isinstance") (r := rAsk K a cls d) (call_ask hz.zc hf) (by rfl) T.isinstance (by decide +kernel) (pa_cons (pv 5) (pa_cons (pe_bltn (v := .ty "ValueError") (by rfl) T.ValueError (by decide +kernel) rfl) pa_nil)))) (pw_or (pt_val (pe_callB (id := "isinstance") (r := rAsk K a cls d) (call_ask hz.zc hf) (by rfl) T.isinstance (by decide +kernel) (pa_cons (pv 5) (pa_cons (pe_bltn (v := .ty "LookupError") (by rfl) T.LookupError (by decide +kernel) rfl) pa_nil)))) (pw_or1 (pt_val (pe_callB (id := "isinstance") (r := rAsk K a cls d) (call_ask hz.zc hf) (by rfl) T.isinstance (by decide +kernel) (pa_cons (pv 5) (pa_cons (pe_bltn (v := .ty "ArithmeticError") (by rfl) T.ArithmeticError (by decide +kernel) rfl) pa_nil)))))))) (pss_one (ps_ret pe_bl)) pss_nil)
  (pss_cons (ps_if (pt_cmpR op_eq (pv 3) pe_int (nomark _)) (pss_one (ps_ret (pe_fnH (hot_suite hz hf) C_law_so (L2H.roomH_mark hr _) (pa_cons (show PE _ _ (tXg K a cls d "word" _) from pe_xg hz.zc hf (pv 5)) (pa_cons (pv 4) pa_nil))))) pss_nil)
  (pss_cons (ps_if (pt_cmpR op_eq (pv 3) pe_int (nomark _)) (pss_one (ps_ret (pe_fnH (hot_suite hz hf) C_law_so (L2H.roomH_mark hr _) (pa_cons (pe_tup (pa_cons (show PE _ _ (tXg K a cls d "task" _) from pe_xg hz.zc hf (pv 5)) (pa_cons (show PE _ _ (tXg K a cls d "method" _) from pe_xg hz.zc hf (pv 5)) pa_nil))) (pa_cons (pv 4) pa_nil))))) pss_nil)
  (pss_one (ps_ret (pe_fnH (hot_suite hz hf) C_law_so (L2H.roomH_mark hr _) (pa_cons (show PE _ _ (tXg K a cls d "at" _) from pe_xg hz.zc hf (pv 5)) (pa_cons (pv 4) pa_nil))))))))))))
  (pss_one (ps_ret pe_bl))))))))), ?_⟩
    have e62 : (2 : Int) ^ 62 = 4611686018427387904 := by decide
    refine ⟨_, rfl, a, ns, rfl, hs, hl, hb, fun H1 r ms s1 hr0 ok er => ?_⟩
    refine ⟨by show 1 ≤ sizeLine; decide, fun sp hsp => ?_⟩
    have er1 : upd H1 sp (.lst [.int 0]) r = some (.lst (ms.map V.int)) := by rw [upd_ne (ne_of_none er hsp)]; exact er
    have R0 : Rolls r sp (upd H1 sp (.lst [.int 0])) := ⟨ne_of_none er hsp, ⟨ms, ok, er1⟩, 0, upd_same⟩
    refine ⟨_, rfl, _, rfl, r, sp, 5, rfl, R0, by decide, fun x H3 x0 x1 g3 R3 e3 => ?_⟩
    obtain ⟨i, rfl⟩ : ∃ i : Nat, x = (i : Int) := ⟨x.toNat, by omega⟩
    have hi : i < 5 := by omega
    refine ⟨_, rfl, _, rfl, _, _, rfl, rfl, ⟨by decide, by decide, by decide⟩, r, sp, _, rfl, R3, by decide, fun z H4 z0 z1 g4 R4 => ⟨_, _, rfl, rfl, ⟨by decide, by decide, by decide⟩, _, _, rfl, rfl, .inr ⟨by decide, by decide⟩, _, _, rfl, rfl, ?_⟩⟩
    have fin : ∀ (v : V) (H9 : Hp), Val K i v H9 → ∀ D0 : Ends, (∀ H', D0.rt (.bl true) H') → (tDrop (tCallS (spRaised K cs) (WE (wAs K (Value.ref cM) 5 (fun a cls d => tsLaw K cs a cls d) (fun _ _ _ _ => False) D0)) (tCons (tVar 3) (tCons (tVar 4) tNil)))) D0 [some (.ref a), some (.ref r), some (.ref sp), some (.int (i : Int)), some v, none, none, none] H9 := by
      intro v H9 hv D0 k0
      refine ⟨_, rfl, _, rfl, i, v, rfl, ?_⟩
      have go : ∀ (d : Addr) (H' : Hp) (fs : List (Str × V)), H' d = some (.xd fs) → Vf K i v H' fs → WE (wAs K (Value.ref cM) 5 (fun a cls d => tsLaw K cs a cls d) (fun _ _ _ _ => False) D0) [some (.ref a), some (.ref r), some (.ref sp), some (.int (i : Int)), some v, none, none, none] (.ref (cs i)) (some d) H' := by
        intro d H' fs hd hf
        exact ⟨true, Z.sub i hi, fun _ ea hea => suite_ok (a := a) Z hi hf hd k0, fun q => by cases q⟩
      rcases hv with ⟨i3, z, rfl⟩ | ⟨rfl, t, y, z, rfl, hq⟩ | ⟨rfl, x, rfl⟩
      · exact .inl ⟨i3, fun d H' s' _ hd => go d H' _ hd (.inl ⟨i3, _, rfl, rfl⟩)⟩
      · exact .inr (.inl ⟨rfl, t, _, _, rfl, hq, fun d H' s' _ hd => go d H' _ hd (.inr (.inl ⟨rfl, t, _, _, rfl, sqT_same s' hq, rfl⟩))⟩)
      · exact .inr (.inr ⟨rfl, fun d H' s' _ hd => go d H' _ hd (.inr (.inr ⟨rfl, _, rfl, rfl⟩))⟩)
    have cases5 : i < 3 ∨ i = 3 ∨ i = 4 := by omega
    rcases cases5 with i3 | rfl | rfl
    · refine ⟨_, rfl, rfl, _, rfl, ite2 (fun c => absurd (of_decide_eq_true c) fun q => by injection q with q; omega) (fun _ => ?_)⟩
      refine ⟨_, rfl, rfl, _, rfl, ite2 (fun c => absurd (of_decide_eq_true c) fun q => by injection q with q; omega) (fun _ => ?_)⟩
      exact fin _ _ (.inl ⟨i3, _, rfl⟩) _ kq
    · refine ⟨_, rfl, rfl, _, rfl, iteT ⟨_, rfl, _, rfl, _, rfl, r, sp, 2000, rfl, R4, by decide, fun z2 H5 z20 z21 g5 R5 => ⟨by show 2 ≤ sizeLine; decide, fun t ht => ?_⟩⟩⟩
      refine ⟨_, rfl, rfl, _, rfl, iteF ?_⟩
      exact fin _ _ (.inr (.inl ⟨rfl, t, _, _, rfl, SqT.of upd_same⟩)) _ kq
    · refine ⟨_, rfl, rfl, _, rfl, iteF ⟨_, rfl, rfl, _, rfl, iteT ⟨by show 3 ≤ sizeLine; decide, fun L hL => ⟨_, rfl, _, rfl, r, sp, 3, rfl, R4.new hL, by decide, fun z2 H5 z20 z21 g5 R5 _ => ?_⟩⟩⟩⟩
      obtain ⟨l4, hl4⟩ := R4.lst
      have hL5 := g5 _ _ (ne_of_none hl4 hL).symm upd_same
      obtain ⟨x, hx⟩ : ∃ x, ([.str "deeds", .str "nodes", .str "methods"] : List V)[z2.toNat]? = some (.str x) := by
        have : z2 = 0 ∨ z2 = 1 ∨ z2 = 2 := by omega
        rcases this with rfl | rfl | rfl <;> exact ⟨_, rfl⟩
      refine ⟨L, _, z2, _, rfl, rfl, SqL.of hL5, at_of (j := z2.toNat) (by omega) hx, ?_⟩
      exact fin _ _ (.inr (.inr ⟨rfl, x, rfl⟩)) _ kq
end
end Mw
set_option Elab.async false
set_option maxRecDepth 100000
set_option maxHeartbeats 4000000
namespace Mw
open PySem L2
def cs5 (a b c d e : Addr) : Nat → Addr
  | 0 => a
  | 1 => b
  | 2 => c
  | 3 => d
  | _ => e
theorem five {p : Nat → Prop} (h0 : p 0) (h1 : p 1) (h2 : p 2) (h3 : p 3) (h4 : p 4) : ∀ i, i < 5 → p i
  | 0, _ => h0
  | 1, _ => h1
  | 2, _ => h2
  | 3, _ => h3
  | 4, _ => h4
  | n + 5, h => absurd h (by omega)
theorem three {p : Nat → Prop} (h0 : p 0) (h1 : p 1) (h2 : p 2) : ∀ i, i < 3 → p i
  | 0, _ => h0
  | 1, _ => h1
  | 2, _ => h2
  | n + 3, h => absurd h (by omega)
theorem all_mk {P : Program} {w : World} {K : PySem.W.Frag} {h : Heap} {mg : Str → Option Value} {fa : Addr} (KX : K.In h) (G : h.Ns mainGlobals mg) (hfa : mg "law" = some (.ref fa))
    {C_MethodError : Addr}
    {f_law_so : Addr} {oc_law_so kV_law_so dc_law_so pm_law_so cd_law_so ct_law_so : Value} {od_law_so an_law_so : Option Addr} {sl_law_so : Array (Option Value)}
    {f_law_numbers : Addr} {oc_law_numbers kV_law_numbers dc_law_numbers pm_law_numbers cd_law_numbers ct_law_numbers : Value} {od_law_numbers an_law_numbers : Option Addr} {sl_law_numbers : Array (Option Value)}
    {f_law_draw : Addr} {oc_law_draw kV_law_draw dc_law_draw pm_law_draw cd_law_draw ct_law_draw : Value} {od_law_draw an_law_draw : Option Addr} {sl_law_draw : Array (Option Value)}
    {f_law_take : Addr} {oc_law_take kV_law_take dc_law_take pm_law_take cd_law_take ct_law_take : Value} {od_law_take an_law_take : Option Addr} {sl_law_take : Array (Option Value)}
    {f_law_wide : Addr} {oc_law_wide kV_law_wide dc_law_wide pm_law_wide cd_law_wide ct_law_wide : Value} {od_law_wide an_law_wide : Option Addr} {sl_law_wide : Array (Option Value)}
    {f_law_raised : Addr} {oc_law_raised kV_law_raised dc_law_raised pm_law_raised cd_law_raised ct_law_raised : Value} {od_law_raised an_law_raised : Option Addr} {sl_law_raised : Array (Option Value)}
    {f_law : Addr} {oc_law kV_law dc_law pm_law cd_law ct_law : Value} {od_law an_law : Option Addr} {sl_law : Array (Option Value)}
    {C_BadValue : Addr} {nm_BadValue q_BadValue : Str} {N_BadValue : Addr} {bs_BadValue : List Value} {sn_BadValue : List Str} {su_BadValue : List Value} {ab_BadValue : Bool} {co_BadValue : Option Bool} {dd_BadValue : Option Addr} {m0_BadValue m1_BadValue m2_BadValue m3_BadValue m5_BadValue : Option Value}
    {f_BadValue_init : Addr} {oc_BadValue_init kV_BadValue_init dc_BadValue_init pm_BadValue_init cd_BadValue_init ct_BadValue_init : Value} {od_BadValue_init an_BadValue_init : Option Addr} {sl_BadValue_init : Array (Option Value)}
    {C_BadState : Addr} {nm_BadState q_BadState : Str} {N_BadState : Addr} {bs_BadState : List Value} {sn_BadState : List Str} {su_BadState : List Value} {ab_BadState : Bool} {co_BadState : Option Bool} {dd_BadState : Option Addr} {m0_BadState m1_BadState m2_BadState m3_BadState m5_BadState : Option Value}
    {f_BadState_init : Addr} {oc_BadState_init kV_BadState_init dc_BadState_init pm_BadState_init cd_BadState_init ct_BadState_init : Value} {od_BadState_init an_BadState_init : Option Addr} {sl_BadState_init : Array (Option Value)}
    {C_BadSyntax : Addr} {nm_BadSyntax q_BadSyntax : Str} {N_BadSyntax : Addr} {bs_BadSyntax : List Value} {sn_BadSyntax : List Str} {su_BadSyntax : List Value} {ab_BadSyntax : Bool} {co_BadSyntax : Option Bool} {dd_BadSyntax : Option Addr} {m0_BadSyntax m1_BadSyntax m2_BadSyntax m3_BadSyntax m5_BadSyntax : Option Value}
    {f_BadSyntax_init : Addr} {oc_BadSyntax_init kV_BadSyntax_init dc_BadSyntax_init pm_BadSyntax_init cd_BadSyntax_init ct_BadSyntax_init : Value} {od_BadSyntax_init an_BadSyntax_init : Option Addr} {sl_BadSyntax_init : Array (Option Value)}
    {C_BadMethod : Addr} {nm_BadMethod q_BadMethod : Str} {N_BadMethod : Addr} {bs_BadMethod : List Value} {sn_BadMethod : List Str} {su_BadMethod : List Value} {ab_BadMethod : Bool} {co_BadMethod : Option Bool} {dd_BadMethod : Option Addr} {m0_BadMethod m1_BadMethod m2_BadMethod m3_BadMethod m5_BadMethod : Option Value}
    {f_BadMethod_init : Addr} {oc_BadMethod_init kV_BadMethod_init dc_BadMethod_init pm_BadMethod_init cd_BadMethod_init ct_BadMethod_init : Value} {od_BadMethod_init an_BadMethod_init : Option Addr} {sl_BadMethod_init : Array (Option Value)}
    {C_TooMany : Addr} {nm_TooMany q_TooMany : Str} {N_TooMany : Addr} {bs_TooMany : List Value} {sn_TooMany : List Str} {su_TooMany : List Value} {ab_TooMany : Bool} {co_TooMany : Option Bool} {dd_TooMany : Option Addr} {m0_TooMany m1_TooMany m2_TooMany m3_TooMany m5_TooMany : Option Value}
    {f_TooMany_init : Addr} {oc_TooMany_init kV_TooMany_init dc_TooMany_init pm_TooMany_init cd_TooMany_init ct_TooMany_init : Value} {od_TooMany_init an_TooMany_init : Option Addr} {sl_TooMany_init : Array (Option Value)}
    (a_law_so : PySem.W.nsIn K mainGlobals "_law_so" = some (some (.ref f_law_so)))
    (l_law_so : K.lookup f_law_so = some ⟨oc_law_so, od_law_so, .func (PySem.W.fnOf "_law_so" "_law_so" (defArgs S_law_so) (defBody S_law_so) (defScope S_law_so) .none kV_law_so dc_law_so pm_law_so an_law_so cd_law_so ct_law_so), sl_law_so⟩)
    (c_law_so : PySem.W.codeIn K cd_law_so "_law_so" = true)
    (k_law_so : PySem.W.keepIn K (.ref f_law_so) = true)
    (a_law_numbers : PySem.W.nsIn K mainGlobals "_law_numbers" = some (some (.ref f_law_numbers)))
    (l_law_numbers : K.lookup f_law_numbers = some ⟨oc_law_numbers, od_law_numbers, .func (PySem.W.fnOf "_law_numbers" "_law_numbers" (defArgs S_law_numbers) (defBody S_law_numbers) (defScope S_law_numbers) .none kV_law_numbers dc_law_numbers pm_law_numbers an_law_numbers cd_law_numbers ct_law_numbers), sl_law_numbers⟩)
    (c_law_numbers : PySem.W.codeIn K cd_law_numbers "_law_numbers" = true)
    (k_law_numbers : PySem.W.keepIn K (.ref f_law_numbers) = true)
    (a_law_draw : PySem.W.nsIn K mainGlobals "_law_draw" = some (some (.ref f_law_draw)))
    (l_law_draw : K.lookup f_law_draw = some ⟨oc_law_draw, od_law_draw, .func (PySem.W.fnOf "_law_draw" "_law_draw" (defArgs S_law_draw) (defBody S_law_draw) (defScope S_law_draw) .none kV_law_draw dc_law_draw pm_law_draw an_law_draw cd_law_draw ct_law_draw), sl_law_draw⟩)
    (c_law_draw : PySem.W.codeIn K cd_law_draw "_law_draw" = true)
    (k_law_draw : PySem.W.keepIn K (.ref f_law_draw) = true)
    (a_law_take : PySem.W.nsIn K mainGlobals "_law_take" = some (some (.ref f_law_take)))
    (l_law_take : K.lookup f_law_take = some ⟨oc_law_take, od_law_take, .func (PySem.W.fnOf "_law_take" "_law_take" (defArgs S_law_take) (defBody S_law_take) (defScope S_law_take) .none kV_law_take dc_law_take pm_law_take an_law_take cd_law_take ct_law_take), sl_law_take⟩)
    (c_law_take : PySem.W.codeIn K cd_law_take "_law_take" = true)
    (k_law_take : PySem.W.keepIn K (.ref f_law_take) = true)
    (a_law_wide : PySem.W.nsIn K mainGlobals "_law_wide" = some (some (.ref f_law_wide)))
    (l_law_wide : K.lookup f_law_wide = some ⟨oc_law_wide, od_law_wide, .func (PySem.W.fnOf "_law_wide" "_law_wide" (defArgs S_law_wide) (defBody S_law_wide) (defScope S_law_wide) .none kV_law_wide dc_law_wide pm_law_wide an_law_wide cd_law_wide ct_law_wide), sl_law_wide⟩)
    (c_law_wide : PySem.W.codeIn K cd_law_wide "_law_wide" = true)
    (k_law_wide : PySem.W.keepIn K (.ref f_law_wide) = true)
    (a_law_raised : PySem.W.nsIn K mainGlobals "_law_raised" = some (some (.ref f_law_raised)))
    (l_law_raised : K.lookup f_law_raised = some ⟨oc_law_raised, od_law_raised, .func (PySem.W.fnOf "_law_raised" "_law_raised" (defArgs S_law_raised) (defBody S_law_raised) (defScope S_law_raised) .none kV_law_raised dc_law_raised pm_law_raised an_law_raised cd_law_raised ct_law_raised), sl_law_raised⟩)
    (c_law_raised : PySem.W.codeIn K cd_law_raised "_law_raised" = true)
    (k_law_raised : PySem.W.keepIn K (.ref f_law_raised) = true)
    (a_law : PySem.W.nsIn K mainGlobals "law" = some (some (.ref f_law)))
    (l_law : K.lookup f_law = some ⟨oc_law, od_law, .func (PySem.W.fnOf "law" "law" (defArgs S_law) (defBody S_law) (defScope S_law) .none kV_law dc_law pm_law an_law cd_law ct_law), sl_law⟩)
    (c_law : PySem.W.codeIn K cd_law "law" = true)
    (k_law : PySem.W.keepIn K (.ref f_law) = true)
    (g_BadValue : PySem.W.nsIn K mainGlobals "BadValue" = some (some (.ref C_BadValue)))
    (x_BadValue : K.lookup C_BadValue = some (excClassObj nm_BadValue q_BadValue C_BadValue N_BadValue bs_BadValue [.ref C_MethodError, .type "Exception", .type "BaseException", .type "object"] true sn_BadValue su_BadValue ab_BadValue co_BadValue dd_BadValue m0_BadValue m1_BadValue m2_BadValue m3_BadValue m5_BadValue "Exception.__new__"))
    (sa_BadValue : PySem.W.findIn K (.ref C_BadValue) "__setattr__" = some (some (.builtin "object.__setattr__")))
    (ec_BadValue : PySem.W.subIn K (.ref C_BadValue) (.type "BaseException") = some true)
    (ty_BadValue : PySem.W.typeIn K (.ref C_BadValue) = some (.type "type"))
    (kc_BadValue : PySem.W.keepIn K (.ref C_BadValue) = true)
    (ic_BadValue : PySem.W.findIn K (.ref C_BadValue) "__init__" = some (some (.ref f_BadValue_init)))
    (ti_BadValue : PySem.W.typeIn K (.ref f_BadValue_init) = some (.type "function"))
    (l_BadValue_init : K.lookup f_BadValue_init = some ⟨oc_BadValue_init, od_BadValue_init, .func (PySem.W.fnOf "__init__" "BadValue.__init__" (defArgs S_BadValue_init) (defBody S_BadValue_init) (defScope S_BadValue_init) .none kV_BadValue_init dc_BadValue_init pm_BadValue_init an_BadValue_init cd_BadValue_init ct_BadValue_init), sl_BadValue_init⟩)
    (c_BadValue_init : PySem.W.codeIn K cd_BadValue_init "BadValue.__init__" = true)
    (k_BadValue_init : PySem.W.keepIn K (.ref f_BadValue_init) = true)
    (nat_BadValue : PySem.W.findIn K (.ref C_BadValue) "at" = some none)
    (g_BadState : PySem.W.nsIn K mainGlobals "BadState" = some (some (.ref C_BadState)))
    (x_BadState : K.lookup C_BadState = some (excClassObj nm_BadState q_BadState C_BadState N_BadState bs_BadState [.ref C_MethodError, .type "Exception", .type "BaseException", .type "object"] true sn_BadState su_BadState ab_BadState co_BadState dd_BadState m0_BadState m1_BadState m2_BadState m3_BadState m5_BadState "Exception.__new__"))
    (sa_BadState : PySem.W.findIn K (.ref C_BadState) "__setattr__" = some (some (.builtin "object.__setattr__")))
    (ec_BadState : PySem.W.subIn K (.ref C_BadState) (.type "BaseException") = some true)
    (ty_BadState : PySem.W.typeIn K (.ref C_BadState) = some (.type "type"))
    (kc_BadState : PySem.W.keepIn K (.ref C_BadState) = true)
    (ic_BadState : PySem.W.findIn K (.ref C_BadState) "__init__" = some (some (.ref f_BadState_init)))
    (ti_BadState : PySem.W.typeIn K (.ref f_BadState_init) = some (.type "function"))
    (l_BadState_init : K.lookup f_BadState_init = some ⟨oc_BadState_init, od_BadState_init, .func (PySem.W.fnOf "__init__" "BadState.__init__" (defArgs S_BadState_init) (defBody S_BadState_init) (defScope S_BadState_init) .none kV_BadState_init dc_BadState_init pm_BadState_init an_BadState_init cd_BadState_init ct_BadState_init), sl_BadState_init⟩)
    (c_BadState_init : PySem.W.codeIn K cd_BadState_init "BadState.__init__" = true)
    (k_BadState_init : PySem.W.keepIn K (.ref f_BadState_init) = true)
    (nat_BadState : PySem.W.findIn K (.ref C_BadState) "at" = some none)
    (g_BadSyntax : PySem.W.nsIn K mainGlobals "BadSyntax" = some (some (.ref C_BadSyntax)))
    (x_BadSyntax : K.lookup C_BadSyntax = some (excClassObj nm_BadSyntax q_BadSyntax C_BadSyntax N_BadSyntax bs_BadSyntax [.ref C_MethodError, .type "Exception", .type "BaseException", .type "object"] true sn_BadSyntax su_BadSyntax ab_BadSyntax co_BadSyntax dd_BadSyntax m0_BadSyntax m1_BadSyntax m2_BadSyntax m3_BadSyntax m5_BadSyntax "Exception.__new__"))
    (sa_BadSyntax : PySem.W.findIn K (.ref C_BadSyntax) "__setattr__" = some (some (.builtin "object.__setattr__")))
    (ec_BadSyntax : PySem.W.subIn K (.ref C_BadSyntax) (.type "BaseException") = some true)
    (ty_BadSyntax : PySem.W.typeIn K (.ref C_BadSyntax) = some (.type "type"))
    (kc_BadSyntax : PySem.W.keepIn K (.ref C_BadSyntax) = true)
    (ic_BadSyntax : PySem.W.findIn K (.ref C_BadSyntax) "__init__" = some (some (.ref f_BadSyntax_init)))
    (ti_BadSyntax : PySem.W.typeIn K (.ref f_BadSyntax_init) = some (.type "function"))
    (l_BadSyntax_init : K.lookup f_BadSyntax_init = some ⟨oc_BadSyntax_init, od_BadSyntax_init, .func (PySem.W.fnOf "__init__" "BadSyntax.__init__" (defArgs S_BadSyntax_init) (defBody S_BadSyntax_init) (defScope S_BadSyntax_init) .none kV_BadSyntax_init dc_BadSyntax_init pm_BadSyntax_init an_BadSyntax_init cd_BadSyntax_init ct_BadSyntax_init), sl_BadSyntax_init⟩)
    (c_BadSyntax_init : PySem.W.codeIn K cd_BadSyntax_init "BadSyntax.__init__" = true)
    (k_BadSyntax_init : PySem.W.keepIn K (.ref f_BadSyntax_init) = true)
    (nat_BadSyntax : PySem.W.findIn K (.ref C_BadSyntax) "at" = some none)
    (g_BadMethod : PySem.W.nsIn K mainGlobals "BadMethod" = some (some (.ref C_BadMethod)))
    (x_BadMethod : K.lookup C_BadMethod = some (excClassObj nm_BadMethod q_BadMethod C_BadMethod N_BadMethod bs_BadMethod [.ref C_MethodError, .type "Exception", .type "BaseException", .type "object"] true sn_BadMethod su_BadMethod ab_BadMethod co_BadMethod dd_BadMethod m0_BadMethod m1_BadMethod m2_BadMethod m3_BadMethod m5_BadMethod "Exception.__new__"))
    (sa_BadMethod : PySem.W.findIn K (.ref C_BadMethod) "__setattr__" = some (some (.builtin "object.__setattr__")))
    (ec_BadMethod : PySem.W.subIn K (.ref C_BadMethod) (.type "BaseException") = some true)
    (ty_BadMethod : PySem.W.typeIn K (.ref C_BadMethod) = some (.type "type"))
    (kc_BadMethod : PySem.W.keepIn K (.ref C_BadMethod) = true)
    (ic_BadMethod : PySem.W.findIn K (.ref C_BadMethod) "__init__" = some (some (.ref f_BadMethod_init)))
    (ti_BadMethod : PySem.W.typeIn K (.ref f_BadMethod_init) = some (.type "function"))
    (l_BadMethod_init : K.lookup f_BadMethod_init = some ⟨oc_BadMethod_init, od_BadMethod_init, .func (PySem.W.fnOf "__init__" "BadMethod.__init__" (defArgs S_BadMethod_init) (defBody S_BadMethod_init) (defScope S_BadMethod_init) .none kV_BadMethod_init dc_BadMethod_init pm_BadMethod_init an_BadMethod_init cd_BadMethod_init ct_BadMethod_init), sl_BadMethod_init⟩)
    (c_BadMethod_init : PySem.W.codeIn K cd_BadMethod_init "BadMethod.__init__" = true)
    (k_BadMethod_init : PySem.W.keepIn K (.ref f_BadMethod_init) = true)
    (ntask_BadMethod : PySem.W.findIn K (.ref C_BadMethod) "task" = some none)
    (nmethod_BadMethod : PySem.W.findIn K (.ref C_BadMethod) "method" = some none)
    (g_TooMany : PySem.W.nsIn K mainGlobals "TooMany" = some (some (.ref C_TooMany)))
    (x_TooMany : K.lookup C_TooMany = some (excClassObj nm_TooMany q_TooMany C_TooMany N_TooMany bs_TooMany [.ref C_MethodError, .type "Exception", .type "BaseException", .type "object"] true sn_TooMany su_TooMany ab_TooMany co_TooMany dd_TooMany m0_TooMany m1_TooMany m2_TooMany m3_TooMany m5_TooMany "Exception.__new__"))
    (sa_TooMany : PySem.W.findIn K (.ref C_TooMany) "__setattr__" = some (some (.builtin "object.__setattr__")))
    (ec_TooMany : PySem.W.subIn K (.ref C_TooMany) (.type "BaseException") = some true)
    (ty_TooMany : PySem.W.typeIn K (.ref C_TooMany) = some (.type "type"))
    (kc_TooMany : PySem.W.keepIn K (.ref C_TooMany) = true)
    (ic_TooMany : PySem.W.findIn K (.ref C_TooMany) "__init__" = some (some (.ref f_TooMany_init)))
    (ti_TooMany : PySem.W.typeIn K (.ref f_TooMany_init) = some (.type "function"))
    (l_TooMany_init : K.lookup f_TooMany_init = some ⟨oc_TooMany_init, od_TooMany_init, .func (PySem.W.fnOf "__init__" "TooMany.__init__" (defArgs S_TooMany_init) (defBody S_TooMany_init) (defScope S_TooMany_init) .none kV_TooMany_init dc_TooMany_init pm_TooMany_init an_TooMany_init cd_TooMany_init ct_TooMany_init), sl_TooMany_init⟩)
    (c_TooMany_init : PySem.W.codeIn K cd_TooMany_init "TooMany.__init__" = true)
    (k_TooMany_init : PySem.W.keepIn K (.ref f_TooMany_init) = true)
    (nword_TooMany : PySem.W.findIn K (.ref C_TooMany) "word" = some none)
    (g_MethodError : PySem.W.nsIn K mainGlobals "MethodError" = some (some (.ref C_MethodError)))
    (k2_BadValue : PySem.W.findIn K (.ref C_BadValue) "__getattribute__" = some (some (.builtin "BaseException.__getattribute__")))
    (k3_BadValue : PySem.W.findIn K (.ref C_BadValue) "__getattr__" = some none)
    (k4_BadValue : PySem.W.findIn K (.ref C_BadValue) "__class__" = some (some (.builtin "object.__class__")))
    (k5_BadValue : PySem.W.mroIn K C_BadValue (.type "object") = some true)
    (k6_BadValue : PySem.W.hasDictIn K C_BadValue = true)
    (k7_BadValue : PySem.W.subIn K (.ref C_BadValue) (.ref C_MethodError) = some true)
    (q_BadValue_BadValue : PySem.W.subIn K (.ref C_BadValue) (.ref C_BadValue) = some true)
    (q_BadValue_BadState : PySem.W.subIn K (.ref C_BadValue) (.ref C_BadState) = some false)
    (q_BadValue_BadSyntax : PySem.W.subIn K (.ref C_BadValue) (.ref C_BadSyntax) = some false)
    (q_BadValue_BadMethod : PySem.W.subIn K (.ref C_BadValue) (.ref C_BadMethod) = some false)
    (q_BadValue_TooMany : PySem.W.subIn K (.ref C_BadValue) (.ref C_TooMany) = some false)
    (r_BadValue_ValueError : PySem.W.subIn K (.ref C_BadValue) (.type "ValueError") = some false)
    (r_BadValue_LookupError : PySem.W.subIn K (.ref C_BadValue) (.type "LookupError") = some false)
    (r_BadValue_ArithmeticError : PySem.W.subIn K (.ref C_BadValue) (.type "ArithmeticError") = some false)
    (k2_BadState : PySem.W.findIn K (.ref C_BadState) "__getattribute__" = some (some (.builtin "BaseException.__getattribute__")))
    (k3_BadState : PySem.W.findIn K (.ref C_BadState) "__getattr__" = some none)
    (k4_BadState : PySem.W.findIn K (.ref C_BadState) "__class__" = some (some (.builtin "object.__class__")))
    (k5_BadState : PySem.W.mroIn K C_BadState (.type "object") = some true)
    (k6_BadState : PySem.W.hasDictIn K C_BadState = true)
    (k7_BadState : PySem.W.subIn K (.ref C_BadState) (.ref C_MethodError) = some true)
    (q_BadState_BadValue : PySem.W.subIn K (.ref C_BadState) (.ref C_BadValue) = some false)
    (q_BadState_BadState : PySem.W.subIn K (.ref C_BadState) (.ref C_BadState) = some true)
    (q_BadState_BadSyntax : PySem.W.subIn K (.ref C_BadState) (.ref C_BadSyntax) = some false)
    (q_BadState_BadMethod : PySem.W.subIn K (.ref C_BadState) (.ref C_BadMethod) = some false)
    (q_BadState_TooMany : PySem.W.subIn K (.ref C_BadState) (.ref C_TooMany) = some false)
    (r_BadState_ValueError : PySem.W.subIn K (.ref C_BadState) (.type "ValueError") = some false)
    (r_BadState_LookupError : PySem.W.subIn K (.ref C_BadState) (.type "LookupError") = some false)
    (r_BadState_ArithmeticError : PySem.W.subIn K (.ref C_BadState) (.type "ArithmeticError") = some false)
    (k2_BadSyntax : PySem.W.findIn K (.ref C_BadSyntax) "__getattribute__" = some (some (.builtin "BaseException.__getattribute__")))
    (k3_BadSyntax : PySem.W.findIn K (.ref C_BadSyntax) "__getattr__" = some none)
    (k4_BadSyntax : PySem.W.findIn K (.ref C_BadSyntax) "__class__" = some (some (.builtin "object.__class__")))
    (k5_BadSyntax : PySem.W.mroIn K C_BadSyntax (.type "object") = some true)
    (k6_BadSyntax : PySem.W.hasDictIn K C_BadSyntax = true)
    (k7_BadSyntax : PySem.W.subIn K (.ref C_BadSyntax) (.ref C_MethodError) = some true)
    (q_BadSyntax_BadValue : PySem.W.subIn K (.ref C_BadSyntax) (.ref C_BadValue) = some false)
    (q_BadSyntax_BadState : PySem.W.subIn K (.ref C_BadSyntax) (.ref C_BadState) = some false)
    (q_BadSyntax_BadSyntax : PySem.W.subIn K (.ref C_BadSyntax) (.ref C_BadSyntax) = some true)
    (q_BadSyntax_BadMethod : PySem.W.subIn K (.ref C_BadSyntax) (.ref C_BadMethod) = some false)
    (q_BadSyntax_TooMany : PySem.W.subIn K (.ref C_BadSyntax) (.ref C_TooMany) = some false)
    (r_BadSyntax_ValueError : PySem.W.subIn K (.ref C_BadSyntax) (.type "ValueError") = some false)
    (r_BadSyntax_LookupError : PySem.W.subIn K (.ref C_BadSyntax) (.type "LookupError") = some false)
    (r_BadSyntax_ArithmeticError : PySem.W.subIn K (.ref C_BadSyntax) (.type "ArithmeticError") = some false)
    (k2_BadMethod : PySem.W.findIn K (.ref C_BadMethod) "__getattribute__" = some (some (.builtin "BaseException.__getattribute__")))
    (k3_BadMethod : PySem.W.findIn K (.ref C_BadMethod) "__getattr__" = some none)
    (k4_BadMethod : PySem.W.findIn K (.ref C_BadMethod) "__class__" = some (some (.builtin "object.__class__")))
    (k5_BadMethod : PySem.W.mroIn K C_BadMethod (.type "object") = some true)
    (k6_BadMethod : PySem.W.hasDictIn K C_BadMethod = true)
    (k7_BadMethod : PySem.W.subIn K (.ref C_BadMethod) (.ref C_MethodError) = some true)
    (q_BadMethod_BadValue : PySem.W.subIn K (.ref C_BadMethod) (.ref C_BadValue) = some false)
    (q_BadMethod_BadState : PySem.W.subIn K (.ref C_BadMethod) (.ref C_BadState) = some false)
    (q_BadMethod_BadSyntax : PySem.W.subIn K (.ref C_BadMethod) (.ref C_BadSyntax) = some false)
    (q_BadMethod_BadMethod : PySem.W.subIn K (.ref C_BadMethod) (.ref C_BadMethod) = some true)
    (q_BadMethod_TooMany : PySem.W.subIn K (.ref C_BadMethod) (.ref C_TooMany) = some false)
    (r_BadMethod_ValueError : PySem.W.subIn K (.ref C_BadMethod) (.type "ValueError") = some false)
    (r_BadMethod_LookupError : PySem.W.subIn K (.ref C_BadMethod) (.type "LookupError") = some false)
    (r_BadMethod_ArithmeticError : PySem.W.subIn K (.ref C_BadMethod) (.type "ArithmeticError") = some false)
    (k2_TooMany : PySem.W.findIn K (.ref C_TooMany) "__getattribute__" = some (some (.builtin "BaseException.__getattribute__")))
    (k3_TooMany : PySem.W.findIn K (.ref C_TooMany) "__getattr__" = some none)
    (k4_TooMany : PySem.W.findIn K (.ref C_TooMany) "__class__" = some (some (.builtin "object.__class__")))
    (k5_TooMany : PySem.W.mroIn K C_TooMany (.type "object") = some true)
    (k6_TooMany : PySem.W.hasDictIn K C_TooMany = true)
    (k7_TooMany : PySem.W.subIn K (.ref C_TooMany) (.ref C_MethodError) = some true)
    (q_TooMany_BadValue : PySem.W.subIn K (.ref C_TooMany) (.ref C_BadValue) = some false)
    (q_TooMany_BadState : PySem.W.subIn K (.ref C_TooMany) (.ref C_BadState) = some false)
    (q_TooMany_BadSyntax : PySem.W.subIn K (.ref C_TooMany) (.ref C_BadSyntax) = some false)
    (q_TooMany_BadMethod : PySem.W.subIn K (.ref C_TooMany) (.ref C_BadMethod) = some false)
    (q_TooMany_TooMany : PySem.W.subIn K (.ref C_TooMany) (.ref C_TooMany) = some true)
    (r_TooMany_ValueError : PySem.W.subIn K (.ref C_TooMany) (.type "ValueError") = some false)
    (r_TooMany_LookupError : PySem.W.subIn K (.ref C_TooMany) (.type "LookupError") = some false)
    (r_TooMany_ArithmeticError : PySem.W.subIn K (.ref C_TooMany) (.type "ArithmeticError") = some false)
    (m1 : PySem.W.subIn K (.ref C_MethodError) (.type "BaseException") = some true)
    (m2 : PySem.W.hasDictIn K C_MethodError = true)
    (m3 : PySem.W.typeIn K (.ref C_MethodError) = some (.type "type"))
    (oc1 : PySem.W.specialIn K (.builtin "object.__class__") "__get__" = some (some (.builtin "getset_descriptor.__get__")))
    (oc2 : PySem.W.takesIn K (.builtin "object.__class__") = some true)
    (z_len : PySem.W.nsIn K mainGlobals "len" = some none)
    (z_range : PySem.W.nsIn K mainGlobals "range" = some none)
    (z_int : PySem.W.nsIn K mainGlobals "int" = some none)
    (z_bool : PySem.W.nsIn K mainGlobals "bool" = some none)
    (z_str : PySem.W.nsIn K mainGlobals "str" = some none)
    (z_tuple : PySem.W.nsIn K mainGlobals "tuple" = some none)
    (z_isinstance : PySem.W.nsIn K mainGlobals "isinstance" = some none)
    (z_ValueError : PySem.W.nsIn K mainGlobals "ValueError" = some none)
    (z_LookupError : PySem.W.nsIn K mainGlobals "LookupError" = some none)
    (z_ArithmeticError : PySem.W.nsIn K mainGlobals "ArithmeticError" = some none) :
    ∃ fd : FuncData, (∀ (s : Shared) (v : Value), BindsTo s fd ⟨[v], []⟩ [("script", v)]) ∧ ∀ base : Heap, K.In base → base.Ns mainGlobals mg → FnOk P w K mg base CX0 60 fa fd ["script"] (spLaw K) := by
  have B : Bi mg := ⟨PySem.W.mg_none_of KX G z_len, PySem.W.mg_none_of KX G z_range, PySem.W.mg_none_of KX G z_int, PySem.W.mg_none_of KX G z_bool, PySem.W.mg_none_of KX G z_str, PySem.W.mg_none_of KX G z_tuple, PySem.W.mg_none_of KX G z_isinstance, PySem.W.mg_none_of KX G z_ValueError, PySem.W.mg_none_of KX G z_LookupError, PySem.W.mg_none_of KX G z_ArithmeticError⟩
  have T : Xs mg (cs5 C_BadValue C_BadState C_BadSyntax C_BadMethod C_TooMany) C_MethodError := ⟨B, PySem.W.mg_of KX G g_MethodError, PySem.W.mg_of KX G g_BadValue, PySem.W.mg_of KX G g_BadState, PySem.W.mg_of KX G g_BadSyntax, PySem.W.mg_of KX G g_BadMethod, PySem.W.mg_of KX G g_TooMany⟩
  have Z : Kn K (cs5 C_BadValue C_BadState C_BadSyntax C_BadMethod C_TooMany) C_MethodError := ⟨(five ⟨cls_some k6_BadValue, k2_BadValue, k3_BadValue, ec_BadValue, k4_BadValue, oc1, oc2, k5_BadValue⟩ ⟨cls_some k6_BadState, k2_BadState, k3_BadState, ec_BadState, k4_BadState, oc1, oc2, k5_BadState⟩ ⟨cls_some k6_BadSyntax, k2_BadSyntax, k3_BadSyntax, ec_BadSyntax, k4_BadSyntax, oc1, oc2, k5_BadSyntax⟩ ⟨cls_some k6_BadMethod, k2_BadMethod, k3_BadMethod, ec_BadMethod, k4_BadMethod, oc1, oc2, k5_BadMethod⟩ ⟨cls_some k6_TooMany, k2_TooMany, k3_TooMany, ec_TooMany, k4_TooMany, oc1, oc2, k5_TooMany⟩), (five ⟨k2_BadValue, k3_BadValue, ec_BadValue, k6_BadValue⟩ ⟨k2_BadState, k3_BadState, ec_BadState, k6_BadState⟩ ⟨k2_BadSyntax, k3_BadSyntax, ec_BadSyntax, k6_BadSyntax⟩ ⟨k2_BadMethod, k3_BadMethod, ec_BadMethod, k6_BadMethod⟩ ⟨k2_TooMany, k3_TooMany, ec_TooMany, k6_TooMany⟩), (five (PySem.W.exm_ref m1 m2 m3 k7_BadValue) (PySem.W.exm_ref m1 m2 m3 k7_BadState) (PySem.W.exm_ref m1 m2 m3 k7_BadSyntax) (PySem.W.exm_ref m1 m2 m3 k7_BadMethod) (PySem.W.exm_ref m1 m2 m3 k7_TooMany)), fun i j hi hj => five (p := fun i => ∀ j, j < 5 → PySem.W.kitOne K (.ref (cs5 C_BadValue C_BadState C_BadSyntax C_BadMethod C_TooMany i)) (.ref (cs5 C_BadValue C_BadState C_BadSyntax C_BadMethod C_TooMany j)) = some (decide (i = j))) (five (kit_yes k6_BadValue ty_BadValue q_BadValue_BadValue) (kit_no k6_BadState ty_BadState q_BadValue_BadValue q_BadValue_BadState) (kit_no k6_BadSyntax ty_BadSyntax q_BadValue_BadValue q_BadValue_BadSyntax) (kit_no k6_BadMethod ty_BadMethod q_BadValue_BadValue q_BadValue_BadMethod) (kit_no k6_TooMany ty_TooMany q_BadValue_BadValue q_BadValue_TooMany)) (five (kit_no k6_BadValue ty_BadValue q_BadState_BadState q_BadState_BadValue) (kit_yes k6_BadState ty_BadState q_BadState_BadState) (kit_no k6_BadSyntax ty_BadSyntax q_BadState_BadState q_BadState_BadSyntax) (kit_no k6_BadMethod ty_BadMethod q_BadState_BadState q_BadState_BadMethod) (kit_no k6_TooMany ty_TooMany q_BadState_BadState q_BadState_TooMany)) (five (kit_no k6_BadValue ty_BadValue q_BadSyntax_BadSyntax q_BadSyntax_BadValue) (kit_no k6_BadState ty_BadState q_BadSyntax_BadSyntax q_BadSyntax_BadState) (kit_yes k6_BadSyntax ty_BadSyntax q_BadSyntax_BadSyntax) (kit_no k6_BadMethod ty_BadMethod q_BadSyntax_BadSyntax q_BadSyntax_BadMethod) (kit_no k6_TooMany ty_TooMany q_BadSyntax_BadSyntax q_BadSyntax_TooMany)) (five (kit_no k6_BadValue ty_BadValue q_BadMethod_BadMethod q_BadMethod_BadValue) (kit_no k6_BadState ty_BadState q_BadMethod_BadMethod q_BadMethod_BadState) (kit_no k6_BadSyntax ty_BadSyntax q_BadMethod_BadMethod q_BadMethod_BadSyntax) (kit_yes k6_BadMethod ty_BadMethod q_BadMethod_BadMethod) (kit_no k6_TooMany ty_TooMany q_BadMethod_BadMethod q_BadMethod_TooMany)) (five (kit_no k6_BadValue ty_BadValue q_TooMany_TooMany q_TooMany_BadValue) (kit_no k6_BadState ty_BadState q_TooMany_TooMany q_TooMany_BadState) (kit_no k6_BadSyntax ty_BadSyntax q_TooMany_TooMany q_TooMany_BadSyntax) (kit_no k6_BadMethod ty_BadMethod q_TooMany_TooMany q_TooMany_BadMethod) (kit_yes k6_TooMany ty_TooMany q_TooMany_TooMany)) i hi j hj, (five (kit_tys (by decide +kernel) r_BadValue_ValueError) (kit_tys (by decide +kernel) r_BadState_ValueError) (kit_tys (by decide +kernel) r_BadSyntax_ValueError) (kit_tys (by decide +kernel) r_BadMethod_ValueError) (kit_tys (by decide +kernel) r_TooMany_ValueError)), (five (kit_tys (by decide +kernel) r_BadValue_LookupError) (kit_tys (by decide +kernel) r_BadState_LookupError) (kit_tys (by decide +kernel) r_BadSyntax_LookupError) (kit_tys (by decide +kernel) r_BadMethod_LookupError) (kit_tys (by decide +kernel) r_TooMany_LookupError)), (five (kit_tys (by decide +kernel) r_BadValue_ArithmeticError) (kit_tys (by decide +kernel) r_BadState_ArithmeticError) (kit_tys (by decide +kernel) r_BadSyntax_ArithmeticError) (kit_tys (by decide +kernel) r_BadMethod_ArithmeticError) (kit_tys (by decide +kernel) r_TooMany_ArithmeticError)), (three nat_BadValue nat_BadState nat_BadSyntax), ntask_BadMethod, nmethod_BadMethod, nword_TooMany⟩
  have D_law_so : Def K mg "_law_so" S_law_so P_law_so := Def.mk KX G a_law_so l_law_so c_law_so k_law_so (fun _ _ _ _ _ _ us hl => match us, hl with | [_, _], _ => rfl)
  have D_law_numbers : Def K mg "_law_numbers" S_law_numbers P_law_numbers := Def.mk KX G a_law_numbers l_law_numbers c_law_numbers k_law_numbers (fun _ _ _ _ _ _ us hl => match us, hl with | [_], _ => rfl)
  have D_law_draw : Def K mg "_law_draw" S_law_draw P_law_draw := Def.mk KX G a_law_draw l_law_draw c_law_draw k_law_draw (fun _ _ _ _ _ _ us hl => match us, hl with | [_, _, _], _ => rfl)
  have D_law_take : Def K mg "_law_take" S_law_take P_law_take := Def.mk KX G a_law_take l_law_take c_law_take k_law_take (fun _ _ _ _ _ _ us hl => match us, hl with | [_, _, _], _ => rfl)
  have D_law_wide : Def K mg "_law_wide" S_law_wide P_law_wide := Def.mk KX G a_law_wide l_law_wide c_law_wide k_law_wide (fun _ _ _ _ _ _ us hl => match us, hl with | [_, _, _], _ => rfl)
  have D_law_raised : Def K mg "_law_raised" S_law_raised P_law_raised := Def.mk KX G a_law_raised l_law_raised c_law_raised k_law_raised (fun _ _ _ _ _ _ us hl => match us, hl with | [_, _], _ => rfl)
  have D_BadValue : XDef K mg "BadValue" "BadValue.__init__" C_BadValue S_BadValue_init P_BadValue_init := ⟨PySem.W.mg_of KX G g_BadValue, ⟨⟨_, _, _, _, [C_MethodError], _, _, _, _, _, _, _, _, _, _, x_BadValue⟩, sa_BadValue, ec_BadValue, ty_BadValue, kc_BadValue⟩, _, _, ic_BadValue, ti_BadValue, fun_mk (st := S_BadValue_init) l_BadValue_init c_BadValue_init k_BadValue_init, (fun_mk (st := S_BadValue_init) l_BadValue_init c_BadValue_init k_BadValue_init).binds (fun _ _ _ _ _ _ us hl => match us, hl with | [_, _], _ => rfl)⟩
  have D_BadState : XDef K mg "BadState" "BadState.__init__" C_BadState S_BadState_init P_BadState_init := ⟨PySem.W.mg_of KX G g_BadState, ⟨⟨_, _, _, _, [C_MethodError], _, _, _, _, _, _, _, _, _, _, x_BadState⟩, sa_BadState, ec_BadState, ty_BadState, kc_BadState⟩, _, _, ic_BadState, ti_BadState, fun_mk (st := S_BadState_init) l_BadState_init c_BadState_init k_BadState_init, (fun_mk (st := S_BadState_init) l_BadState_init c_BadState_init k_BadState_init).binds (fun _ _ _ _ _ _ us hl => match us, hl with | [_, _], _ => rfl)⟩
  have D_BadSyntax : XDef K mg "BadSyntax" "BadSyntax.__init__" C_BadSyntax S_BadSyntax_init P_BadSyntax_init := ⟨PySem.W.mg_of KX G g_BadSyntax, ⟨⟨_, _, _, _, [C_MethodError], _, _, _, _, _, _, _, _, _, _, x_BadSyntax⟩, sa_BadSyntax, ec_BadSyntax, ty_BadSyntax, kc_BadSyntax⟩, _, _, ic_BadSyntax, ti_BadSyntax, fun_mk (st := S_BadSyntax_init) l_BadSyntax_init c_BadSyntax_init k_BadSyntax_init, (fun_mk (st := S_BadSyntax_init) l_BadSyntax_init c_BadSyntax_init k_BadSyntax_init).binds (fun _ _ _ _ _ _ us hl => match us, hl with | [_, _], _ => rfl)⟩
  have D_BadMethod : XDef K mg "BadMethod" "BadMethod.__init__" C_BadMethod S_BadMethod_init P_BadMethod_init := ⟨PySem.W.mg_of KX G g_BadMethod, ⟨⟨_, _, _, _, [C_MethodError], _, _, _, _, _, _, _, _, _, _, x_BadMethod⟩, sa_BadMethod, ec_BadMethod, ty_BadMethod, kc_BadMethod⟩, _, _, ic_BadMethod, ti_BadMethod, fun_mk (st := S_BadMethod_init) l_BadMethod_init c_BadMethod_init k_BadMethod_init, (fun_mk (st := S_BadMethod_init) l_BadMethod_init c_BadMethod_init k_BadMethod_init).binds (fun _ _ _ _ _ _ us hl => match us, hl with | [_, _, _], _ => rfl)⟩
  have D_TooMany : XDef K mg "TooMany" "TooMany.__init__" C_TooMany S_TooMany_init P_TooMany_init := ⟨PySem.W.mg_of KX G g_TooMany, ⟨⟨_, _, _, _, [C_MethodError], _, _, _, _, _, _, _, _, _, _, x_TooMany⟩, sa_TooMany, ec_TooMany, ty_TooMany, kc_TooMany⟩, _, _, ic_TooMany, ti_TooMany, fun_mk (st := S_TooMany_init) l_TooMany_init c_TooMany_init k_TooMany_init, (fun_mk (st := S_TooMany_init) l_TooMany_init c_TooMany_init k_TooMany_init).binds (fun _ _ _ _ _ _ us hl => match us, hl with | [_, _], _ => rfl)⟩
  obtain rfl : f_law = fa := by have z := PySem.W.mg_of KX G a_law; rw [hfa] at z; cases z; rfl
  obtain ⟨fd, hfd, F⟩ : ∃ fd, (∀ (s : Shared) (v : Value), BindsTo s fd ⟨[v], []⟩ [("script", v)]) ∧ Fun K "law" "law" S_law f_law fd := by
    refine ⟨_, ?_, fun_mk (st := S_law) l_law c_law k_law⟩
    exact fun s v => .of_eq rfl
  refine ⟨fd, hfd, fun base _ _ => ?_⟩
  have X_BadValue := exc_BadValue (P := P) (w := w) (base := base) D_BadValue nat_BadValue
  have X_BadState := exc_BadState (P := P) (w := w) (base := base) D_BadState nat_BadState
  have X_BadSyntax := exc_BadSyntax (P := P) (w := w) (base := base) D_BadSyntax nat_BadSyntax
  have X_BadMethod := exc_BadMethod (P := P) (w := w) (base := base) D_BadMethod ntask_BadMethod nmethod_BadMethod
  have X_TooMany := exc_TooMany (P := P) (w := w) (base := base) D_TooMany nword_TooMany
  have C_law_numbers := cal_numbers (P := P) (w := w) (base := base) B D_law_numbers
  have C_law_draw := cal_draw (P := P) (w := w) (base := base) B D_law_draw
  have C_law_take := cal_take B C_law_draw D_law_take
  have C_law_wide := cal_wide B C_law_take D_law_wide
  have C_law_raised := cal_raised (cs := cs5 C_BadValue C_BadState C_BadSyntax C_BadMethod C_TooMany) X_BadValue X_BadState X_BadSyntax X_BadMethod X_TooMany D_law_raised
  have C_law_so := calH_so (P := P) (w := w) (base := base) B D_law_so 5
  exact (fn_law (k := 5) T Z (C_law_numbers.mono (by omega)) (C_law_take.mono (by omega)) (C_law_wide.mono (by omega)) (C_law_raised.mono (by omega)) C_law_so F).mono (by omega)
end Mw
open PySem PySem.W PyProof.Rows in
set_option maxRecDepth 100000 in
set_option maxHeartbeats 0 in
theorem PySem.Challenge.cw_methodworlds_k00_errors_holds : PySem.Challenge.rw_methodworlds_k00_errors.Holds := by
  w_on; o_law; k_head; (case hw => w_witness2)
  k_fill
  refine Mw.walkL (l := PySem.Challenge.rw_methodworlds_k00_errors) rfl rfl (fun w h Y => PySem.W.kIn_of Y) ?F
  case F =>
    intro w mg fa h KX G hmg
    refine' Mw.all_mk KX G hmg ?a_law_so ?l_law_so ?c_law_so ?k_law_so ?a_law_numbers ?l_law_numbers ?c_law_numbers ?k_law_numbers ?a_law_draw ?l_law_draw ?c_law_draw ?k_law_draw ?a_law_take ?l_law_take ?c_law_take ?k_law_take ?a_law_wide ?l_law_wide ?c_law_wide ?k_law_wide ?a_law_raised ?l_law_raised ?c_law_raised ?k_law_raised ?a_law ?l_law ?c_law ?k_law ?g_BadValue ?x_BadValue ?sa_BadValue ?ec_BadValue ?ty_BadValue ?kc_BadValue ?ic_BadValue ?ti_BadValue ?l_BadValue_init ?c_BadValue_init ?k_BadValue_init ?nat_BadValue ?g_BadState ?x_BadState ?sa_BadState ?ec_BadState ?ty_BadState ?kc_BadState ?ic_BadState ?ti_BadState ?l_BadState_init ?c_BadState_init ?k_BadState_init ?nat_BadState ?g_BadSyntax ?x_BadSyntax ?sa_BadSyntax ?ec_BadSyntax ?ty_BadSyntax ?kc_BadSyntax ?ic_BadSyntax ?ti_BadSyntax ?l_BadSyntax_init ?c_BadSyntax_init ?k_BadSyntax_init ?nat_BadSyntax ?g_BadMethod ?x_BadMethod ?sa_BadMethod ?ec_BadMethod ?ty_BadMethod ?kc_BadMethod ?ic_BadMethod ?ti_BadMethod ?l_BadMethod_init ?c_BadMethod_init ?k_BadMethod_init ?ntask_BadMethod ?nmethod_BadMethod ?g_TooMany ?x_TooMany ?sa_TooMany ?ec_TooMany ?ty_TooMany ?kc_TooMany ?ic_TooMany ?ti_TooMany ?l_TooMany_init ?c_TooMany_init ?k_TooMany_init ?nword_TooMany ?g_MethodError ?k2_BadValue ?k3_BadValue ?k4_BadValue ?k5_BadValue ?k6_BadValue ?k7_BadValue ?q_BadValue_BadValue ?q_BadValue_BadState ?q_BadValue_BadSyntax ?q_BadValue_BadMethod ?q_BadValue_TooMany ?r_BadValue_ValueError ?r_BadValue_LookupError ?r_BadValue_ArithmeticError ?k2_BadState ?k3_BadState ?k4_BadState ?k5_BadState ?k6_BadState ?k7_BadState ?q_BadState_BadValue ?q_BadState_BadState ?q_BadState_BadSyntax ?q_BadState_BadMethod ?q_BadState_TooMany ?r_BadState_ValueError ?r_BadState_LookupError ?r_BadState_ArithmeticError ?k2_BadSyntax ?k3_BadSyntax ?k4_BadSyntax ?k5_BadSyntax ?k6_BadSyntax ?k7_BadSyntax ?q_BadSyntax_BadValue ?q_BadSyntax_BadState ?q_BadSyntax_BadSyntax ?q_BadSyntax_BadMethod ?q_BadSyntax_TooMany ?r_BadSyntax_ValueError ?r_BadSyntax_LookupError ?r_BadSyntax_ArithmeticError ?k2_BadMethod ?k3_BadMethod ?k4_BadMethod ?k5_BadMethod ?k6_BadMethod ?k7_BadMethod ?q_BadMethod_BadValue ?q_BadMethod_BadState ?q_BadMethod_BadSyntax ?q_BadMethod_BadMethod ?q_BadMethod_TooMany ?r_BadMethod_ValueError ?r_BadMethod_LookupError ?r_BadMethod_ArithmeticError ?k2_TooMany ?k3_TooMany ?k4_TooMany ?k5_TooMany ?k6_TooMany ?k7_TooMany ?q_TooMany_BadValue ?q_TooMany_BadState ?q_TooMany_BadSyntax ?q_TooMany_BadMethod ?q_TooMany_TooMany ?r_TooMany_ValueError ?r_TooMany_LookupError ?r_TooMany_ArithmeticError ?m1 ?m2 ?m3 ?oc1 ?oc2 ?z_len ?z_range ?z_int ?z_bool ?z_str ?z_tuple ?z_isinstance ?z_ValueError ?z_LookupError ?z_ArithmeticError
    (case a_law_so => k_is)
    (case l_law_so => k_is)
    (case c_law_so => k_is)
    (case k_law_so => k_is)
    (case a_law_numbers => k_is)
    (case l_law_numbers => k_is)
    (case c_law_numbers => k_is)
    (case k_law_numbers => k_is)
    (case a_law_draw => k_is)
    (case l_law_draw => k_is)
    (case c_law_draw => k_is)
    (case k_law_draw => k_is)
    (case a_law_take => k_is)
    (case l_law_take => k_is)
    (case c_law_take => k_is)
    (case k_law_take => k_is)
    (case a_law_wide => k_is)
    (case l_law_wide => k_is)
    (case c_law_wide => k_is)
    (case k_law_wide => k_is)
    (case a_law_raised => k_is)
    (case l_law_raised => k_is)
    (case c_law_raised => k_is)
    (case k_law_raised => k_is)
    (case a_law => k_is)
    (case l_law => k_is)
    (case c_law => k_is)
    (case k_law => k_is)
    (case g_BadValue => k_is)
    (case x_BadValue => k_is)
    (case sa_BadValue => k_is)
    (case ec_BadValue => k_is)
    (case ty_BadValue => k_is)
    (case kc_BadValue => k_is)
    (case ic_BadValue => k_is)
    (case ti_BadValue => k_is)
    (case l_BadValue_init => k_is)
    (case c_BadValue_init => k_is)
    (case k_BadValue_init => k_is)
    (case nat_BadValue => k_is)
    (case g_BadState => k_is)
    (case x_BadState => k_is)
    (case sa_BadState => k_is)
    (case ec_BadState => k_is)
    (case ty_BadState => k_is)
    (case kc_BadState => k_is)
    (case ic_BadState => k_is)
    (case ti_BadState => k_is)
    (case l_BadState_init => k_is)
    (case c_BadState_init => k_is)
    (case k_BadState_init => k_is)
    (case nat_BadState => k_is)
    (case g_BadSyntax => k_is)
    (case x_BadSyntax => k_is)
    (case sa_BadSyntax => k_is)
    (case ec_BadSyntax => k_is)
    (case ty_BadSyntax => k_is)
    (case kc_BadSyntax => k_is)
    (case ic_BadSyntax => k_is)
    (case ti_BadSyntax => k_is)
    (case l_BadSyntax_init => k_is)
    (case c_BadSyntax_init => k_is)
    (case k_BadSyntax_init => k_is)
    (case nat_BadSyntax => k_is)
    (case g_BadMethod => k_is)
    (case x_BadMethod => k_is)
    (case sa_BadMethod => k_is)
    (case ec_BadMethod => k_is)
    (case ty_BadMethod => k_is)
    (case kc_BadMethod => k_is)
    (case ic_BadMethod => k_is)
    (case ti_BadMethod => k_is)
    (case l_BadMethod_init => k_is)
    (case c_BadMethod_init => k_is)
    (case k_BadMethod_init => k_is)
    (case ntask_BadMethod => k_is)
    (case nmethod_BadMethod => k_is)
    (case g_TooMany => k_is)
    (case x_TooMany => k_is)
    (case sa_TooMany => k_is)
    (case ec_TooMany => k_is)
    (case ty_TooMany => k_is)
    (case kc_TooMany => k_is)
    (case ic_TooMany => k_is)
    (case ti_TooMany => k_is)
    (case l_TooMany_init => k_is)
    (case c_TooMany_init => k_is)
    (case k_TooMany_init => k_is)
    (case nword_TooMany => k_is)
    (case g_MethodError => k_is)
    (case k2_BadValue => k_is)
    (case k3_BadValue => k_is)
    (case k4_BadValue => k_is)
    (case k5_BadValue => k_is)
    (case k6_BadValue => k_is)
    (case k7_BadValue => k_is)
    (case q_BadValue_BadValue => k_is)
    (case q_BadValue_BadState => k_is)
    (case q_BadValue_BadSyntax => k_is)
    (case q_BadValue_BadMethod => k_is)
    (case q_BadValue_TooMany => k_is)
    (case r_BadValue_ValueError => k_is)
    (case r_BadValue_LookupError => k_is)
    (case r_BadValue_ArithmeticError => k_is)
    (case k2_BadState => k_is)
    (case k3_BadState => k_is)
    (case k4_BadState => k_is)
    (case k5_BadState => k_is)
    (case k6_BadState => k_is)
    (case k7_BadState => k_is)
    (case q_BadState_BadValue => k_is)
    (case q_BadState_BadState => k_is)
    (case q_BadState_BadSyntax => k_is)
    (case q_BadState_BadMethod => k_is)
    (case q_BadState_TooMany => k_is)
    (case r_BadState_ValueError => k_is)
    (case r_BadState_LookupError => k_is)
    (case r_BadState_ArithmeticError => k_is)
    (case k2_BadSyntax => k_is)
    (case k3_BadSyntax => k_is)
    (case k4_BadSyntax => k_is)
    (case k5_BadSyntax => k_is)
    (case k6_BadSyntax => k_is)
    (case k7_BadSyntax => k_is)
    (case q_BadSyntax_BadValue => k_is)
    (case q_BadSyntax_BadState => k_is)
    (case q_BadSyntax_BadSyntax => k_is)
    (case q_BadSyntax_BadMethod => k_is)
    (case q_BadSyntax_TooMany => k_is)
    (case r_BadSyntax_ValueError => k_is)
    (case r_BadSyntax_LookupError => k_is)
    (case r_BadSyntax_ArithmeticError => k_is)
    (case k2_BadMethod => k_is)
    (case k3_BadMethod => k_is)
    (case k4_BadMethod => k_is)
    (case k5_BadMethod => k_is)
    (case k6_BadMethod => k_is)
    (case k7_BadMethod => k_is)
    (case q_BadMethod_BadValue => k_is)
    (case q_BadMethod_BadState => k_is)
    (case q_BadMethod_BadSyntax => k_is)
    (case q_BadMethod_BadMethod => k_is)
    (case q_BadMethod_TooMany => k_is)
    (case r_BadMethod_ValueError => k_is)
    (case r_BadMethod_LookupError => k_is)
    (case r_BadMethod_ArithmeticError => k_is)
    (case k2_TooMany => k_is)
    (case k3_TooMany => k_is)
    (case k4_TooMany => k_is)
    (case k5_TooMany => k_is)
    (case k6_TooMany => k_is)
    (case k7_TooMany => k_is)
    (case q_TooMany_BadValue => k_is)
    (case q_TooMany_BadState => k_is)
    (case q_TooMany_BadSyntax => k_is)
    (case q_TooMany_BadMethod => k_is)
    (case q_TooMany_TooMany => k_is)
    (case r_TooMany_ValueError => k_is)
    (case r_TooMany_LookupError => k_is)
    (case r_TooMany_ArithmeticError => k_is)
    (case m1 => k_is)
    (case m2 => k_is)
    (case m3 => k_is)
    (case oc1 => k_is)
    (case oc2 => k_is)
    (case z_len => k_is)
    (case z_range => k_is)
    (case z_int => k_is)
    (case z_bool => k_is)
    (case z_str => k_is)
    (case z_tuple => k_is)
    (case z_isinstance => k_is)
    (case z_ValueError => k_is)
    (case z_LookupError => k_is)
    (case z_ArithmeticError => k_is)
