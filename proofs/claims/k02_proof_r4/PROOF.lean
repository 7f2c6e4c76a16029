import PyProof.Rows.All
import Wide.All
import OpenK.AllK
import Wide.FinOn
import HandS.WordsList
import HandS.Exc
import HandS.ExcInit
import KE.KExcIs
import HandS.ForMost
import HandS.ForExc
import HandS.IsInst
import HandS.Wide
import HandS.EndBits
import KE.GoesEnum
import HandS.TryOnly
import HandS.Iter
import HandS.Property
import HandS.Deep
import HandS.ExcField
import HandS.ExcCtx
import HandS.HotCalls
import HandS.ExcInitHot
import HandS.TryMany
import PySem.Challenge.RW_methodworlds_k02_refusals_of_books
import HandS.ExcIs
set_option Elab.async false
set_option linter.all false
set_option maxRecDepth 100000
set_option maxHeartbeats 4000000
/-! Own exception classes over Exception whose __init__ stores fields: made, stored to, asked by isinstance. -/
namespace Mw
open PySem PySem.Spec PyProof.Rows L2
open PySem.Builtin PySem.Builtin.ObjectAttr
abbrev St := L2.St
abbrev tlEx : List Value := [.type "Exception", .type "BaseException", .type "object"]
theorem tl_pass (self : Value) : ∀ cs : List Addr, refuseLoop self "__setattr__" (cs.map Value.ref ++ tlEx) = pure ()
  | [] => F.store_Exception.passes self
  | c :: cs => (refuseLoop_ref ..).trans (tl_pass self cs)
theorem tl_has (X : String) : ∀ cs : List Addr, (cs.map Value.ref ++ tlEx).contains (.type X) = tlEx.contains (.type X)
  | [] => rfl
  | c :: cs => by
    show ((Value.ref c) :: (cs.map Value.ref ++ tlEx)).contains (.type X) = _
    rw [List.contains_cons, tl_has X cs]; rfl
theorem tl_ne : ∀ cs : List Addr, (cs.map Value.ref ++ tlEx).isEmpty = false
  | [] => rfl
  | _ :: _ => rfl
section
variable {prog : Program} {w : World} {A : Around} {R : Result → Shared → Prop} {hp : Heap} {g : Array GenState} {d : Drawn} {t : Nat} {os : OsState}
theorem ex_osa {K : W.Frag} {fld : Str} {tk : Tok} {u : Value} {x C : Addr} {fv : Array Value} {cd : ClassData} {cs : List Addr}
    (KX : K.In hp) (hx : hp.get? x = some { cls := .ref C, data := .fields fv }) (hcd : W.clsIn K C = some cd) (hm : cd.mro = cs.map Value.ref ++ tlEx) (hh : cd.hasDict = true) (hno : W.findIn K (.ref C) fld = some none)
    (hq : ∀ h' tk' dx, (∀ b o, b ≠ x → hp.get? b = some o → h'.get? b = some o) → hp.objs.size ≤ dx → dx ≠ x → h'.get? x = some { cls := .ref C, dict := some dx, data := .fields fv } →
      h'.Ns1 dx (fun y => if y = fld then some u else none) → R (.ok (.ret .none)) ⟨h', g, d, tk', os⟩) :
    codeAny (model prog w) A (.call (.builtin "object.__setattr__") ⟨[.ref x, .str fld tk, u], []⟩) R ⟨hp, g, d, t, os⟩ := by
  have I0 : W.InstAt hp x { cls := .ref C, data := .fields fv } C none := ⟨hx, rfl, rfl, trivial⟩
  have S0 := F.store_object
  have hne : cd.mro.isEmpty = false := by rw [hm]; exact tl_ne cs
  have hob0 : cd.mro.contains (.type "object") = true := by rw [hm, tl_has]; decide +kernel
  have xne : x ≠ hp.objs.size := Nat.ne_of_lt (Heap.lt_size hx)
  have sub0 : W.Looks (model prog w) hp (isInstance (.ref x) (.type "object")) true := I0.type.andThen (W.looks_mroIn KX (by unfold W.mroIn; rw [hcd, Option.bind_some, if_neg (by rw [hne]; decide), hob0]))
  refine codeAny_call_builtin S0.slot.plain S0.entry (@W.check_slot (model prog w) _ _ ⟨hp, g, d, t, os⟩ "object.__setattr__" "object" "__setattr__" (.ref x) [.str fld tk, u] [] _ S0.kind S0.split sub0 (S0.args (.ref x) (.str fld tk) u) ?_)
  have mr0 : W.Looks (model prog w) hp (mroOf (.ref C)) cd.mro := (W.looks_clsIn KX hcd).andThen .now
  have st0 : W.Looks (model prog w) hp (storeTaker? none) none := .now
  have cl0 : W.Looks (model prog w) hp (classData C) cd := W.looks_clsIn KX hcd
  rw [W.osa_eq, refuse_eq]
  refine wpAny_bind (wpAny_bind (I0.type.at (wpAny_bind (mr0.at ?_))))
  rw [hm, tl_pass _ cs]
  refine wpAny_pure (wpAny_bind (I0.type.at (wpAny_bind ((W.looks_findIn KX hno).at (wpAny_bind (st0.at ?_))))))
  show wpAny _ _ (storeInOwnDict (.ref x) (.ref C) (.str fld tk) fld u false) _ _ _
  obtain ⟨c1, c2, c3, c4, c5, c6, c7, c8, c9, c10, c11⟩ := cd
  dsimp only at hh
  subst hh
  unfold storeInOwnDict ownDictForStores
  repeat (first | with_reducible refine PySem.HandSPX.store_in_new ?_ ?_ | with_reducible refine wpAny_loadPart_at hx ?_ | with_reducible refine cl0.at ?_ | wp_step)
  · exact ⟨_, #[], _, (Heap.get?_update_ne _ _ _ _ xne.symm).trans (Heap.get?_push_at rfl rfl), rfl, fun e he => absurd he (by simp), fun _ => rfl⟩
  · intro h' tk' ns' sb
    have hx1 : (hp.push { cls := .type "dict", data := .dict #[] }).get? x = some { cls := .ref C, data := .fields fv } := Heap.get?_push_of_some _ hx
    refine hq h' tk' hp.objs.size (fun b o hb ho => ?_) (Nat.le_refl _) xne.symm ?_ ns'
    · exact (sb.2 b (Nat.ne_of_lt (Heap.lt_size ho))).trans ((Heap.get?_update_ne _ _ _ _ hb).trans (Heap.get?_push_of_some _ ho))
    · exact (sb.2 x xne).trans (Heap.get?_update_self _ hx1 rfl)
theorem ex_osa2 {K : W.Frag} {fld : Str} {tk : Tok} {u : Value} {x C dx : Addr} {fv : Array Value} {cd : ClassData} {cs : List Addr} {m0 : Str → Option Value} {nl : List Str}
    (KX : K.In hp) (hx : hp.get? x = some { cls := .ref C, dict := some dx, data := .fields fv }) (hns : hp.Ns1 dx m0) (hw : Within m0 nl) (hz : nl.length ≤ 1000) (hcd : W.clsIn K C = some cd) (hm : cd.mro = cs.map Value.ref ++ tlEx) (hh : cd.hasDict = true)
    (hno : W.findIn K (.ref C) fld = some none)
    (hq : ∀ h' tk', (∀ b o, b ≠ dx → hp.get? b = some o → h'.get? b = some o) → h'.Ns1 dx (fun y => if y = fld then some u else m0 y) → R (.ok (.ret .none)) ⟨h', g, d, tk', os⟩) :
    codeAny (model prog w) A (.call (.builtin "object.__setattr__") ⟨[.ref x, .str fld tk, u], []⟩) R ⟨hp, g, d, t, os⟩ := by
  obtain ⟨oD, eD, pD, hoD, hdD, hcD⟩ := hns.count hw
  have I0 : W.InstAt hp x { cls := .ref C, dict := some dx, data := .fields fv } C (some oD) := ⟨hx, rfl, rfl, hoD⟩
  have S0 := F.store_object
  have hne : cd.mro.isEmpty = false := by rw [hm]; exact tl_ne cs
  have hob0 : cd.mro.contains (.type "object") = true := by rw [hm, tl_has]; decide +kernel
  have sub0 : W.Looks (model prog w) hp (isInstance (.ref x) (.type "object")) true := I0.type.andThen (W.looks_mroIn KX (by unfold W.mroIn; rw [hcd, Option.bind_some, if_neg (by rw [hne]; decide), hob0]))
  refine codeAny_call_builtin S0.slot.plain S0.entry (@W.check_slot (model prog w) _ _ ⟨hp, g, d, t, os⟩ "object.__setattr__" "object" "__setattr__" (.ref x) [.str fld tk, u] [] _ S0.kind S0.split sub0 (S0.args (.ref x) (.str fld tk) u) ?_)
  have mr0 : W.Looks (model prog w) hp (mroOf (.ref C)) cd.mro := (W.looks_clsIn KX hcd).andThen .now
  have st0 : W.Looks (model prog w) hp (storeTaker? none) none := .now
  have cl0 : W.Looks (model prog w) hp (classData C) cd := W.looks_clsIn KX hcd
  rw [W.osa_eq, refuse_eq]
  refine wpAny_bind (wpAny_bind (I0.type.at (wpAny_bind (mr0.at ?_))))
  rw [hm, tl_pass _ cs]
  refine wpAny_pure (wpAny_bind (I0.type.at (wpAny_bind ((W.looks_findIn KX hno).at (wpAny_bind (st0.at ?_))))))
  show wpAny _ _ (storeInOwnDict (.ref x) (.ref C) (.str fld tk) fld u false) _ _ _
  obtain ⟨c1, c2, c3, c4, c5, c6, c7, c8, c9, c10, c11⟩ := cd
  dsimp only at hh
  subst hh
  unfold storeInOwnDict ownDictForStores
  repeat (first | with_reducible refine PySem.OEX.store_in_old hns hw hz ?_ | with_reducible refine wpAny_loadPart_at hx ?_ | with_reducible refine cl0.at ?_ | wp_step)
  intro h' tk' ns' sb
  exact hq h' tk' (fun b o hb ho => (sb.2 b hb).trans ho) ns'
end
/-- what the written part says of such a class -/
structure ExM (K : PySem.W.Frag) (C : Addr) : Prop where
  cls : ∃ nm q N bs cs sn sub ab col dd k0 k1 k2 k3 k5, K.lookup C = some (excClassObj nm q C N bs ((cs : List Addr).map Value.ref ++ tlEx) true sn sub ab col dd k0 k1 k2 k3 k5 "Exception.__new__")
  sa : PySem.W.findIn K (.ref C) "__setattr__" = some (some (.builtin "object.__setattr__"))
  exC : PySem.W.subIn K (.ref C) (.type "BaseException") = some true
  tyC : PySem.W.typeIn K (.ref C) = some (.type "type")
  kC : PySem.W.keepIn K (.ref C) = true
section
variable {X : Cx} {pins : List (Addr × Obj)} {σ : St} {H : Hp} {s : Shared} {a C dx : Addr} {f : Str} {y : V} {u : Value} {fs : List (Str × V)} {Q : Unit → Shared → Prop} {E : Value → Shared → Prop} {A : Around}
theorem put_new (T : ExM X.K C) (I : Inv X pins σ H s) (e : H a = some (exo a C none)) (hno : PySem.W.findIn X.K (.ref C) f = some none) (ry : RelV y u)
    (h : ∀ dx s', H dx = none → dx ≠ a → Inv X pins σ (upd (upd H dx (exd dx [(f, y)])) a (exo a C (some dx))) s' → Q () s') : wpAny (model X.prog X.w) A (setAttr (.ref a) f u) Q E s := by
  obtain ⟨nm, q, N, bs, cs, sn, sub, ab, col, dd, k0, k1, k2, k3, k5, hC⟩ := T.cls
  have hcl : PySem.W.clsIn X.K C = some { name := nm, bases := bs, mro := .ref C :: (cs.map Value.ref ++ tlEx), ns := N, qualname := q, hasDict := true, slotNames := sn, subclasses := sub, abstract := ab, collection := col, hasDel := false } := by
    unfold PySem.W.clsIn; rw [hC] <;> rfl
  obtain ⟨t1, ho⟩ := exo_at I.hok e
  obtain ⟨hp, g, d, t, os⟩ := s
  refine PySem.W.set_plain I.kIn (ox := { cls := .ref C, dict := none, data := .fields #[.ref t1, .none, .none, .none, .bool false, .none] }) (od := none) ⟨ho, rfl, rfl, trivial⟩ T.sa ?_
  refine ex_osa (cs := C :: cs) I.kIn ho hcl rfl rfl hno (fun h' tk' dx k dn dne hx hn => ?_)
  have hnd : H dx = none := I.hok.fresh dn
  have nd : ∀ {b : Addr} {o : Obj}, hp.get? b = some o → b ≠ dx := fun {b o} z => Nat.ne_of_lt (Nat.lt_of_lt_of_le (Heap.lt_size z) dn)
  have na : ∀ {b : Addr}, H b = none → b ≠ a := fun {b} n z => by rw [z, e] at n; cases n
  have U1 : Un X.fs [] H (upd (upd H dx (exd dx [(f, y)])) a (exo a C (some dx))) hp h' :=
    ⟨fun b o z n _ _ => k b o (na n) z, fun b o z n _ _ => ⟨o.slots, k b o (na n) z⟩, fun b o z n _ => (upd_ne (na n)).trans ((upd_ne (nd z)).trans n),
      fun b o z _ => by
        by_cases hb : b = a
        · exact ⟨_, hb ▸ hx⟩
        · exact ⟨o, k b o hb z⟩,
      fun b xs z => (upd_ne (at_ne e z exo_tup)).trans ((upd_ne (ne_of_none z hnd)).trans z), fun b o v z => (upd_ne (at_ne e z exo_frz)).trans ((upd_ne (ne_of_none z hnd)).trans z),
      fun b ps z => ⟨#[], by rw [upd_ne (at_ne e z exo_tbl), upd_ne (ne_of_none z hnd), z]; simp⟩⟩
  refine h dx _ hnd dne (I.un (t' := tk') U1 fun b o z => ?_)
  by_cases hb : b = a
  · subst hb; rw [upd_same] at z; cases z; exact exo_ok hx
  · rw [upd_ne hb] at z
    by_cases hd : b = dx
    · subst hd; rw [upd_same] at z; cases z; exact exd_ok hn (relO_put (fs := []) ry fun g => True.intro)
    · rw [upd_ne hd] at z
      refine (I.hok b o z).stay (fun c v hc zz => k c v ?_ zz) (fun c hc => (upd_ne (at_ne e hc exo_own)).trans ((upd_ne (ne_of_none hc hnd)).trans hc)) (fun c xs hc => (upd_ne (at_ne e hc exo_tup)).trans ((upd_ne (ne_of_none hc hnd)).trans hc))
      rcases hc with hc | hc
      · exact hc ▸ hb
      · exact at_ne e hc exo_own
theorem put_old (T : ExM X.K C) (I : Inv X pins σ H s) (e : H a = some (exo a C (some dx))) (ed : H dx = some (exd dx fs)) (hl : fs.length ≤ 900) (hno : PySem.W.findIn X.K (.ref C) f = some none) (ry : RelV y u)
    (h : ∀ s', Inv X pins σ (upd H dx (exd dx ((f, y) :: fs))) s' → Q () s') : wpAny (model X.prog X.w) A (setAttr (.ref a) f u) Q E s := by
  obtain ⟨nm, q, N, bs, cs, sn, sub, ab, col, dd, k0, k1, k2, k3, k5, hC⟩ := T.cls
  have hcl : PySem.W.clsIn X.K C = some { name := nm, bases := bs, mro := .ref C :: (cs.map Value.ref ++ tlEx), ns := N, qualname := q, hasDict := true, slotNames := sn, subclasses := sub, abstract := ab, collection := col, hasDel := false } := by
    unfold PySem.W.clsIn; rw [hC] <;> rfl
  obtain ⟨t1, ho⟩ := exo_at I.hok e
  obtain ⟨mA, hns, rel⟩ := exd_at I.hok ed
  have hw := within_of rel
  obtain ⟨hp, g, d, t, os⟩ := s
  obtain ⟨oD, _, _, hoD, _, _⟩ := hns.count hw
  refine PySem.W.set_plain I.kIn (ox := { cls := .ref C, dict := some dx, data := .fields #[.ref t1, .none, .none, .none, .bool false, .none] }) (od := some oD) ⟨ho, rfl, rfl, hoD⟩ T.sa ?_
  refine ex_osa2 (cs := C :: cs) I.kIn ho hns hw (by rw [List.length_map]; omega) hcl rfl rfl hno (fun h' tk' k hn => ?_)
  obtain ⟨o9, e9, p9, q9, r9⟩ := id hn
  exact h _ (I.write (t' := tk') (x := dx) (e := dx) (o := exd dx ((f, y) :: fs)) (by rw [ed]; exact True.intro) (.inl rfl) k ⟨o9, q9⟩ (exd_ok hn (relO_put ry rel)))
end
/-- self.f = e in __init__ -/
def tPut (K : PySem.W.Frag) (f : Str) (to te : TE) : TS := fun D σ H => te σ H fun y H1 => to σ H1 fun x H2 => ∃ a C : Addr, x = .ref a ∧ ExM K C ∧ PySem.W.findIn K (.ref C) f = some none ∧
  ((H2 a = some (exo a C none) ∧ ∀ dx, H2 dx = none → dx ≠ a → D.nx σ (upd (upd H2 dx (exd dx [(f, y)])) a (exo a C (some dx)))) ∨
    ∃ (dx : Addr) (fs : List (Str × V)), H2 a = some (exo a C (some dx)) ∧ H2 dx = some (exd dx fs) ∧ fs.length ≤ 900 ∧ D.nx σ (upd H2 dx (exd dx ((f, y) :: fs))))
/-- C(e, ..), C's own __init__ keeping sp -/
def tMade (C : Addr) (sp : Sp) (ta : TA) : St → Hp → XK → Prop := fun σ H Q => ta σ H fun vs H1 => vs.length ≤ 1000 ∧ ∀ a, H1 a = none → sp (.ref a :: vs) (upd H1 a (exo a C none))
  (fun v H2 => v = .non ∧ ∃ (d : Addr) (fs : List (Str × V)), H2 a = some (exo a C (some d)) ∧ H2 d = some (exd d fs) ∧ H1 d = none ∧ Q (.ref C) (some d) (upd (del H2 a) d (.xd fs))) (fun _ _ _ => False)
section
variable {X : Cx} {o e : Expr} {es : List Expr} {to te : TE} {ta : TA} {f : Str} {p p' pos : Pos}
theorem ps_put (ho : PE X o to) (he : PE X e te) (hs : swapsWith e (some (.Attribute o f p')) pos.line X.env = pure false := by rfl) : PS X (.Assign [.Attribute o f p'] e pos) (tPut X.K f to te) := by
  refine ⟨fun pins s σ H D I h => ?_⟩
  refine plainObj_wpAny_Assign_Attribute (thn (he.run pins s σ H _ I h) fun v s1 ⟨y, H1, I1, r1, q1⟩ => thn (ho.run pins s1 σ H1 _ I1 q1) fun u s2 ⟨x, H2, I2, r2, a, C, ex, T, hno, q⟩ => ?_) hs
  subst ex
  obtain rfl : u = Value.ref a := r2
  rcases q with ⟨ea, q⟩ | ⟨dx, fs, ea, ed, hl, q⟩
  · exact put_new T I2 ea hno r1 fun dx s' n ne J => ⟨σ, _, J, q dx n ne⟩
  · exact put_old T I2 ea ed hl hno r1 fun s' J => ⟨σ, _, J, q⟩
theorem pmk_made {CX : CXT} {x : Str} {C fI : Addr} {k : Nat} {fd : FuncData} {ps : List Str} {sp : Sp} (T : ExM X.K C) (iC : PySem.W.findIn X.K (.ref C) "__init__" = some (some (.ref fI))) (tI : PySem.W.typeIn X.K (.ref fI) = some (.type "function"))
    (F1 : FnOk X.prog X.w X.K X.mg X.base CX k fI fd ps sp) (hr : Room (k + 1) X.A) (hb : Binds X.K fd ps []) (hx : Passes CX X (fun _ _ _ => False)) (hg : Gl X x) (hm : X.mg x = some (.ref C)) (ha : PA X (e :: es) ta)
    (hdb : (x == ("__debug__" : Str)) = false := by decide) (he : starEach (e :: es) X.env = (false, eval e X.env) :: starEach es X.env := by rfl) (hpl : (backTo pos (starEach es X.env)).any (·.1) = false := by rfl) :
    PMk X (.Call (.Name x p) (e :: es) [] pos) (tMade C sp ta) := by
  intro pins s σ H Q I h
  obtain ⟨nm, q, N, bs, cs, sn, sub, ab, col, dd, k0, k1, k2, k3, k5, hC⟩ := T.cls
  refine wpAny_Call_Name_kw (ld_glob I hg hm ?_ hdb)
  refine PySem.W.callWith_K (h₀ := X.base) I.ok.mod.kin T.kC (thn (ha.run pos pins s σ H _ I h) fun us s1 ⟨vs, H1, I1, r1, hz, q1⟩ => ⟨I1.kIn, ?_⟩) he hpl
  show wpAny _ _ (call (.ref C) us) _ _ _
  obtain ⟨hp, g, dr, tk, os⟩ := s1
  have sz : hp.objs.size ≤ hp.objs.size + 1 := Nat.le_succ _
  have hn : H1 (hp.objs.size + 1) = none := I1.hok.fresh sz
  have hq := q1 (hp.objs.size + 1) hn
  have kp : ∀ b o, hp.get? b = some o → ((hp.push (PySem.W.kdv_tup us)).push (PySem.HandSPX.excO C hp.objs.size)).get? b = some o := fun b o z => Heap.get?_push_of_some _ (Heap.get?_push_of_some _ z)
  have hget : ((hp.push (PySem.W.kdv_tup us)).push (PySem.HandSPX.excO C hp.objs.size)).get? (hp.objs.size + 1) = some (PySem.HandSPX.excO C hp.objs.size) := by heap_get
  have I2 : Inv X pins σ (upd H1 (hp.objs.size + 1) (exo (hp.objs.size + 1) C none)) ⟨(hp.push (PySem.W.kdv_tup us)).push (PySem.HandSPX.excO C hp.objs.size), g, dr, tk, os⟩ :=
    I1.laid (t' := tk) (a := hp.objs.size + 1) (o := exo (hp.objs.size + 1) C none) (h' := (hp.push (PySem.W.kdv_tup us)).push (PySem.HandSPX.excO C hp.objs.size)) kp sz (exo_ok hget)
  have r2 : Vals (V.ref (hp.objs.size + 1) :: vs) (Value.ref (hp.objs.size + 1) :: us) := .cons rfl r1
  have hl : (Value.ref (hp.objs.size + 1) :: us).length = ps.length := by
    have z := r2.length
    rw [F1.len _ _ _ _ hq] at z
    exact z.symm
  have hus : us.length ≤ sizeLine := by rw [← Paired.length r1, sizeLine_eq]; omega
  have bnd := hb ⟨(hp.push (PySem.W.kdv_tup us)).push (PySem.HandSPX.excO C hp.objs.size), g, dr, tk, os⟩ (Value.ref (hp.objs.size + 1) :: us) I2.kIn (by rw [List.append_nil]; exact hl)
  rw [List.append_nil] at bnd
  refine wpAny_call (PySem.HandSPX.call_own F.excBase_Exception (fun Y => tl_has Y cs) (I1.kIn _ _ hC) (PySem.W.looks_findIn I1.kIn iC) (fun self => PySem.W.bind_fn I1.kIn self tI) hus
    (codeAny_mono (F1.run _ X.stack _ _ ⟨Value.ref (hp.objs.size + 1) :: us, []⟩ (Value.ref (hp.objs.size + 1) :: us) _ _ (fun _ _ _ => False) (hr.make C us []) (I2.env0.make C us []) bnd r2 hq) fun r s' hq' => ?_))
  cases r with
  | error er => exact hx pins σ _ _ er s' I2 hq'
  | ok fl =>
    cases fl with
    | ret u =>
      obtain ⟨v, H2, os2, bare2, un2, hok2, rv, ev, d, fs, ea, ed, hd1, q2⟩ := hq'
      subst ev
      obtain ⟨h2, g2, d2, t2, os'⟩ := s'
      exact ⟨rv, mk_end (raises_own T.exC T.tyC) I1 sz kp un2 hok2 os2 bare2 ea ed hd1 q2⟩
    | next => exact False.elim hq'
    | brk => exact False.elim hq'
    | cont => exact False.elim hq'
end
/-- what the class at D must say, so that isinstance asks its instances rightly -/
structure AskE (K : PySem.W.Frag) (D : Addr) : Prop where
  hc : (PySem.W.clsIn K D).isSome = true
  hg : PySem.W.findIn K (.ref D) "__getattribute__" = some (some (.builtin "BaseException.__getattribute__"))
  hk : PySem.W.findIn K (.ref D) "__getattr__" = some none
  hs : PySem.W.subIn K (.ref D) (.type "BaseException") = some true
  ha : PySem.W.findIn K (.ref D) "__class__" = some (some (.builtin "object.__class__"))
  hn : PySem.W.specialIn K (.builtin "object.__class__") "__get__" = some (some (.builtin "getset_descriptor.__get__"))
  ht : PySem.W.takesIn K (.builtin "object.__class__") = some true
  hm : PySem.W.mroIn K D (.type "object") = some true
/-- isinstance(e, c), e the caught exception at a, whose class is at D and whose dict is at dd -/
def rAsk (K : PySem.W.Frag) (a : Addr) (cls : Value) (d : Option Addr) : List V → Hp → VK → Prop := fun xs H Q => ∃ (D dd : Addr) (fs : List (Str × V)) (c : V) (cv : Value) (b : Bool),
  cls = .ref D ∧ d = some dd ∧ H dd = some (.xd fs) ∧ AskE K D ∧ xs = [.ref a, c] ∧ (∀ u, RelV c u → u = cv) ∧ PySem.W.kitOne K (.ref D) cv = some b ∧ Q (.bl b) H
theorem call_ask {X : Cx} {a : Addr} {cls : Value} {d : Option Addr} {oe : Obj} {pn : List (Addr × Obj)} (hz : Zc cls d oe) (hf : ∃ vs, oe.data = .fields vs) : CallR (X.suite a ((a, oe) :: pn)) (.builtin "isinstance") (rAsk X.K a cls d) := by
  intro pins s σ H xs us Q I r h
  obtain ⟨D, dd, fs, c, cv, b, rfl, rfl, hdd, C, rfl, hcv, e, q⟩ := h
  obtain ⟨u1, u2, rfl, r1, r2⟩ := vals2 r
  obtain rfl : u1 = Value.ref a := r1
  obtain rfl := hcv _ r2
  obtain ⟨hget, _⟩ := I.pin (a, oe) (List.mem_append_left _ List.mem_cons_self)
  obtain ⟨vs, hv⟩ := hf
  obtain ⟨mA, hns, _⟩ := (show ObjOk X.prog X.w H s.heap dd (.xd fs) from I.hok dd _ hdd)
  obtain ⟨od, ho, _⟩ := lookIn_ns hns
  have J : PySem.W.InstAt s.heap a oe D (some od) := ⟨hget, hz.1, by unfold PySem.W.notCls; rw [hv] <;> rfl, by rw [hz.2]; exact ho⟩
  exact PySem.W.kia_one (PySem.W.kitx_exc C.hc C.hg C.hk C.hs C.ha C.hn C.ht C.hm) I.kIn J e (fun z => nomatch z) fun tk => ⟨.bl b, H, I.tok tk, rfl, q⟩
end Mw
set_option Elab.async false
set_option linter.all false
set_option maxRecDepth 100000
/-! Common words: a def where it stands, a callee by its promise, the drawn row and its place. -/
namespace Mw
open PySem L2
/-- a def of the module's top, where it stands -/
def Def (K : PySem.W.Frag) (mg : Str → Option Value) (x : Str) (st : Stmt) (ps : List Str) : Prop :=
  ∃ (f : Addr) (fd : FuncData), mg x = some (.ref f) ∧ Fun K x x st f fd ∧ Binds K fd ps []
/-- a def by its promise -/
def Cal (P : Program) (w : World) (K : PySem.W.Frag) (mg : Str → Option Value) (base : Heap) (CX : CXT) (x : Str) (k : Nat) (ps : List Str) (sp : Sp) : Prop :=
  ∃ (f : Addr) (fd : FuncData), mg x = some (.ref f) ∧ PySem.W.keepIn K (.ref f) = true ∧ Binds K fd ps [] ∧ FnOk P w K mg base CX k f fd ps sp
section
variable {P : Program} {w : World} {K : PySem.W.Frag} {mg : Str → Option Value} {base : Heap} {CX : CXT} {x : Str} {k : Nat} {ps : List Str} {sp : Sp}
theorem Cal.mono {j : Nat} (C : Cal P w K mg base CX x j ps sp) (h : j ≤ k) : Cal P w K mg base CX x k ps sp := by
  obtain ⟨f, fd, g, kp, b, F⟩ := C
  exact ⟨f, fd, g, kp, b, F.mono h⟩
theorem Cal.imp {sp' : Sp} (C : Cal P w K mg base CX x k ps sp) (h : ∀ vs H Q E, sp' vs H Q E → sp vs H Q E) : Cal P w K mg base CX x k ps sp' := by
  obtain ⟨f, fd, g, kp, b, F⟩ := C
  exact ⟨f, fd, g, kp, b, F.imp h⟩
/-- a def that raises nothing holds its promise -/
theorem Def.cal {st : Stmt} {N : List Str} (D : Def K mg x st ps) (S : FnScope N ps (defScope st)) (len : ∀ vs H Q E, sp vs H Q E → vs.length = ps.length)
    (hbody : ∀ (f : Addr) (cdv : Value) (A : Around) (outer : List Env) (s : Shared) (H : Hp) (vs : List V) (Q : VK) (E : XK), Room k (A.deeper (PyProof.Rows.envOfC x (defScope st) s.heap.objs.size f cdv)) → sp vs H Q E →
      ∃ t, PSs (cxOf CX0 P w K mg base N x (defScope st) f cdv A outer s H E).nox (defBody st) t ∧ t { nx := fun _ H' => Q .non H', rt := Q } (start N vs) H) : Cal P w K mg base CX0 x (k + 1) ps sp := by
  obtain ⟨f, fd, g, F, b⟩ := D
  exact ⟨f, fd, g, F.kp, b, F.ok S len (hbody f)⟩
theorem Def.calX {st : Stmt} {N : List Str} (D : Def K mg x st ps) (S : FnScope N ps (defScope st)) (len : ∀ vs H Q E, sp vs H Q E → vs.length = ps.length)
    (hbody : ∀ (f : Addr) (cdv : Value) (A : Around) (outer : List Env) (s : Shared) (H : Hp) (vs : List V) (Q : VK) (E : XK), Room k (A.deeper (PyProof.Rows.envOfC x (defScope st) s.heap.objs.size f cdv)) → sp vs H Q E →
      ∃ t, PSs (cxOf (L2.CX P w) P w K mg base N x (defScope st) f cdv A outer s H E) (defBody st) t ∧ t { nx := fun _ H' => Q .non H', rt := Q } (start N vs) H) : Cal P w K mg base (L2.CX P w) x (k + 1) ps sp := by
  obtain ⟨f, fd, g, F, b⟩ := D
  exact ⟨f, fd, g, F.kp, b, F.okX S len (hbody f)⟩
theorem Def.mk {h : Heap} {st : Stmt} {f : Addr} {oc : Value} {od an : Option Addr} {osl : Array (Option Value)} {kV doc pm cdv ct : Value} (KX : K.In h) (G : h.Ns mainGlobals mg) (a : PySem.W.nsIn K mainGlobals x = some (some (.ref f)))
    (l : K.lookup f = some ⟨oc, od, .func (PySem.W.fnOf x x (defArgs st) (defBody st) (defScope st) .none kV doc pm an cdv ct), osl⟩) (c : PySem.W.codeIn K cdv x = true) (kp : PySem.W.keepIn K (.ref f) = true)
    (b : ∀ (kV doc pm : Value) (an : Option Addr) (cdv ct : Value) (us : List Value), us.length = ps.length → bindArgs (PySem.W.fnOf x x (defArgs st) (defBody st) (defScope st) .none kV doc pm an cdv ct) ⟨us, []⟩ = pure (ps.zip us)) : Def K mg x st ps :=
  ⟨f, _, PySem.W.mg_of KX G a, fun_mk (st := st) l c kp, (fun_mk (st := st) l c kp).binds b⟩
end
section
variable {X : Cx} {x : Str} {k : Nat} {ps : List Str} {sp : Sp} {e : Expr} {es : List Expr} {t : TA} {p pos : Pos}
/-- the call of a def that raises nothing -/
theorem pe_fn (C : Cal X.prog X.w X.K X.mg X.base CX0 x k ps sp) (hr : Room k X.A) (ha : PA X (e :: es) t) (hg : Gl X x := by rfl)
    (hdb : (x == ("__debug__" : Str)) = false := by decide) (he : starEach (e :: es) X.env = (false, eval e X.env) :: starEach es X.env := by rfl) (hpl : (backTo pos (starEach es X.env)).any (·.1) = false := by rfl) :
    PE X (.Call (.Name x p) (e :: es) [] pos) (tCall sp [] E0 t) := by
  obtain ⟨f, fd, g, kp, b, F⟩ := C
  exact pe_call F hr hg g kp b .nil pass0 ha hdb he hpl
/-- the call of a def that may raise, where what it raises is wished for -/
theorem pe_fnS {W : WX} (C : Cal X.prog X.w X.K X.mg X.base (L2.CX X.prog X.w) x k ps sp) (hr : Room k X.A) (tk : Takes X W) (ha : PA X (e :: es) t) (hg : Gl X x := by rfl)
    (hdb : (x == ("__debug__" : Str)) = false := by decide) (he : starEach (e :: es) X.env = (false, eval e X.env) :: starEach es X.env := by rfl) (hpl : (backTo pos (starEach es X.env)).any (·.1) = false := by rfl) :
    PE X (.Call (.Name x p) (e :: es) [] pos) (tCallS sp (WE W) t) := by
  obtain ⟨f, fd, g, kp, b, F⟩ := C
  exact pe_callS F hr hg g kp b (fun σ => passAt tk σ) ha hdb he hpl
end
/-! ### products of any size -/
def CMulB (i j : Int) : Prop := i.natAbs.log2 + j.natAbs.log2 < 100000000
theorem CMulB.ok {i j : Int} (h : CMulB i j) : IntMulOk i j := by
  have b9 : ∀ x : Int, Builtin.Int.intBits x ≤ x.natAbs.log2 + 1 := fun x => by unfold Builtin.Int.intBits; split <;> omega
  have h1 := b9 i
  have h2 := b9 j
  have h3 : i.natAbs.log2 + j.natAbs.log2 < 100000000 := h
  have e9 : bitsLine = 134217728 := by decide
  unfold IntMulOk
  intro z
  rw [Bool.and_eq_true] at z
  have z2 : Builtin.Int.intTooBig _ = true := z.2
  unfold Builtin.Int.intTooBig at z2
  have z3 := of_decide_eq_true z2
  rw [e9] at z3
  omega
theorem op_mulB {X : Cx} : OpR X (binaryOp .Mult) (rI CMulB fun i j => .int (i * j)) := opI fun _ _ _ _ _ _ _ hc q => PyProof.Rows.mul_int q hc.ok
/-! ### heaps: all but one place stands -/
/-- all that was tracked is as it was, but at sp -/
def Grow (sp : Addr) (H H' : Hp) : Prop := ∀ b o, b ≠ sp → H b = some o → H' b = some o
theorem Grow.refl (sp : Addr) (H : Hp) : Grow sp H H := fun _ _ _ h => h
theorem Grow.trans {sp : Addr} {H H1 H2 : Hp} (a : Grow sp H H1) (b : Grow sp H1 H2) : Grow sp H H2 := fun c o n h => b c o n (a c o n h)
theorem Grow.new {sp p : Addr} {H : Hp} {o : HO} (h : H p = none) : Grow sp H (upd H p o) := fun b u _ e => by rw [upd_ne (ne_of_none e h)]; exact e
theorem Grow.at {sp : Addr} {H : Hp} {o : HO} : Grow sp H (upd H sp o) := fun b u n e => by rw [upd_ne n]; exact e
theorem Same.new {p : Addr} {H : Hp} {o : HO} (h : H p = none) : Same H (upd H p o) := fun b u e => by rw [upd_ne (ne_of_none e h)]; exact e
theorem Same.grow {sp : Addr} {H H' : Hp} (h : Same H H') : Grow sp H H' := fun b o _ e => h b o e
/-! ### the drawn row at r, the place in it at sp -/
/-- the row's numbers -/
def RowOk (ns : List Int) : Prop := 0 < ns.length ∧ ns.length ≤ 4000 ∧ ∀ n ∈ ns, 0 ≤ n ∧ n < 2147483648
def Rolls (r sp : Addr) (H : Hp) : Prop := r ≠ sp ∧ (∃ ns : List Int, RowOk ns ∧ H r = some (.lst (ns.map V.int))) ∧ ∃ n : Nat, H sp = some (.lst [.int n])
theorem Rolls.new {r sp p : Addr} {H : Hp} {o : HO} (R : Rolls r sp H) (h : H p = none) : Rolls r sp (upd H p o) := by
  obtain ⟨ne, ⟨ns, ok, e⟩, n, en⟩ := R
  exact ⟨ne, ⟨ns, ok, by rw [upd_ne (ne_of_none e h)]; exact e⟩, n, by rw [upd_ne (ne_of_none en h)]; exact en⟩
theorem Rolls.put {r sp p : Addr} {H : Hp} {o : HO} (R : Rolls r sp H) (h1 : r ≠ p) (h2 : sp ≠ p) : Rolls r sp (upd H p o) := by
  obtain ⟨ne, ⟨ns, ok, e⟩, n, en⟩ := R
  exact ⟨ne, ⟨ns, ok, by rw [upd_ne h1]; exact e⟩, n, by rw [upd_ne h2]; exact en⟩
theorem Rolls.row {K : PySem.W.Frag} {r sp : Addr} {H : Hp} (R : Rolls r sp H) : ∃ ns : List Int, RowOk ns ∧ SqL K H r (ns.map V.int) := by
  obtain ⟨_, ⟨ns, ok, e⟩, _⟩ := R
  exact ⟨ns, ok, SqL.of e⟩
/-! ### promises of the law's own helpers -/
/-- _law_numbers(script): a new list of drawn numbers -/
def spNumbers (K : PySem.W.Frag) : Sp := fun vs H Q _ => ∃ (a : Addr) (ns : List Int), vs = [.ref a] ∧ SqL K H a (ns.map V.int) ∧ ns.length ≤ 63 ∧ (∀ z ∈ ns, Builtin.Int.intBits z ≤ 1048576) ∧
  ∀ (H' : Hp) (r : Addr) (ms : List Int), Same H H' → H r = none → RowOk ms → H' r = some (.lst (ms.map V.int)) → Q (.ref r) H'
/-- _law_draw(row, at, limit) -/
def spDraw (K : PySem.W.Frag) : Sp := fun vs H Q _ => ∃ (r : Addr) (ns : List Int) (n : Nat) (lim : Int), vs = [.ref r, .int n, .int lim] ∧ SqL K H r (ns.map V.int) ∧ RowOk ns ∧ 0 < lim ∧
  ∀ x : Int, 0 ≤ x → x < lim → Q (.int x) H
/-- _law_take(row, spot, limit) -/
def spTake : Sp := fun vs H Q _ => ∃ (r sp : Addr) (lim : Int), vs = [.ref r, .ref sp, .int lim] ∧ Rolls r sp H ∧ 0 < lim ∧
  ∀ (x : Int) (H' : Hp), 0 ≤ x → x < lim → Grow sp H H' → Rolls r sp H' → (∀ b, b ≠ sp → H' b = H b) → Q (.int x) H'
end Mw
set_option Elab.async false
set_option linter.all false
set_option maxRecDepth 100000
/-! Data of None, bools, ints, texts and tuples; the promise of the law's own comparison. -/
namespace Mw
open PySem L2
/-- None, bools, ints, texts, tuples of these, at most so deep -/
inductive Td : Nat → PyData → Prop where
  | non {n : Nat} : Td n .none
  | bl {n : Nat} (b : Bool) : Td n (.bool b)
  | int {n : Nat} (i : Int) : Td n (.int i)
  | str {n : Nat} (x : Str) : Td n (.str x)
  | tup {n : Nat} {ds : List PyData} (z : ds.length ≤ 1000) (h : ∀ d ∈ ds, Td n d) : Td (n + 1) (.tuple ds)
theorem Td.mono {n m : Nat} {d : PyData} (h : Td n d) (k : n ≤ m) : Td m d := by
  induction h generalizing m with
  | non => exact .non
  | bl b => exact .bl b
  | int i => exact .int i
  | str x => exact .str x
  | tup z _ ih =>
    obtain ⟨m', rfl⟩ : ∃ m', m = m' + 1 := ⟨m - 1, by omega⟩
    exact .tup z fun d hd => ih d hd (by omega)
section
variable {K : PySem.W.Frag} {H H' : Hp}
theorem Rd.same {a : Addr} {u : HO} (e : Same H H') (h : Rd H a u) : Rd H' a u := by
  rcases h with h | ⟨o, h⟩
  · exact .inl (e _ _ h)
  · exact .inr ⟨o, e _ _ h⟩
theorem sqT_same {a : Addr} {xs : List V} (e : Same H H') (h : SqT K H a xs) : SqT K H' a xs := by
  rcases h with h | h
  · exact .inl (Rd.same e h)
  · exact .inr h
theorem ty_tup {a : Addr} {xs : List V} (h : SqT K H a xs) : TyX K H (.ref a) (.type "tuple") := by
  rcases h with (h | ⟨o, h⟩) | ⟨o, its, n, h, c, _⟩
  · exact .base (.tup h)
  · exact .fTuple h
  · exact .kTuple h c
theorem ty_lst {a : Addr} {xs : List V} (h : SqL K H a xs) : TyX K H (.ref a) (.type "list") := by
  rcases h with (h | ⟨o, h⟩) | ⟨o, its, n, h, c, _⟩
  · exact .base (.lst h)
  · exact .base (.frz h)
  · exact .kList h c
theorem dpAll_len : ∀ {vs : List V} {ds : List PyData}, DpAll K H vs ds → vs.length = ds.length
  | _, _, .nil => rfl
  | _, _, .cons _ t => by rw [List.length_cons, List.length_cons, dpAll_len t]
theorem dpAll_get : ∀ {vs : List V} {ds : List PyData} {k : Nat} {d : PyData}, DpAll K H vs ds → ds[k]? = some d → ∃ v, vs[k]? = some v ∧ Dp K H v d
  | _, _, _, _, .nil, h => by simp at h
  | _, _, 0, d, .cons h _, e => by simp at e; subst e; exact ⟨_, rfl, h⟩
  | _, _, k + 1, d, .cons _ t, e => by
    obtain ⟨v, h1, h2⟩ := dpAll_get (k := k) t (by simpa using e)
    exact ⟨v, by simpa using h1, h2⟩
theorem dpAll_append : ∀ {vs ws : List V} {ds es : List PyData}, DpAll K H vs ds → DpAll K H ws es → DpAll K H (vs ++ ws) (ds ++ es)
  | _, _, _, _, .nil, k => k
  | _, _, _, _, .cons h t, k => .cons h (dpAll_append t k)
theorem dpAll_one {v : V} {d : PyData} (h : Dp K H v d) : DpAll K H [v] [d] := .cons h .nil
mutual
theorem dp_same (e : Same H H') : ∀ {d : PyData} {v : V}, Dp K H v d → Dp K H' v d
  | _, _, .non => .non
  | _, _, .bl b => .bl b
  | _, _, .int i => .int i
  | _, _, .str x => .str x
  | _, _, .lst h t => .lst (e.seq h) (dpAll_same e t)
  | _, _, .tup h t => .tup (sqT_same e h) (dpAll_same e t)
theorem dpAll_same (e : Same H H') : ∀ {ds : List PyData} {vs : List V}, DpAll K H vs ds → DpAll K H' vs ds
  | _, _, .nil => .nil
  | _, _, .cons h t => .cons (dp_same e h) (dpAll_same e t)
end
end
/-- _law_so(found, meant): the same data below depth n: True -/
def spSo (K : PySem.W.Frag) (n : Nat) : Sp := fun vs H Q _ => ∃ (x y : V) (d : PyData) (m : Nat), vs = [x, y] ∧ Dp K H x d ∧ Dp K H y d ∧ Td m d ∧ m < n ∧ Q (.bl true) H
theorem eq_self {x : V} : (if decide (x = x) = true then True else False) := by simp
theorem Def.never {P : Program} {w : World} {K : PySem.W.Frag} {mg : Str → Option Value} {base : Heap} {CX : CXT} {x : Str} {st : Stmt} {ps : List Str} {k : Nat} {sp : Sp} (D : Def K mg x st ps) (hn : ∀ vs H Q E, ¬ sp vs H Q E) : Cal P w K mg base CX x k ps sp := by
  obtain ⟨f, fd, g, F, b⟩ := D
  exact ⟨f, fd, g, F.kp, b, fun vs H Q E h => absurd h (hn _ _ _ _), fun _ _ _ _ _ _ _ _ _ _ _ _ _ h => absurd h (hn _ _ _ _)⟩
end Mw
set_option Elab.async false
set_option linter.all false
set_option maxRecDepth 100000
set_option maxHeartbeats 2000000
/-! What stands as a list or as a tuple: walked, enumerated, unpacked. -/
namespace Mw
open PySem L2
/-- a list or a tuple at a -/
def Seq (K : PySem.W.Frag) (H : Hp) (a : Addr) (xs : List V) : Prop := SqL K H a xs ∨ SqT K H a xs
theorem Seq.same {K : PySem.W.Frag} {H H' : Hp} {a : Addr} {xs : List V} (e : Same H H') (h : Seq K H a xs) : Seq K H' a xs := by
  rcases h with h | h
  · exact .inl (e.seq h)
  · exact .inr (sqT_same e h)
/-! ### enumerate(v), v a list or a tuple -/
set_option maxHeartbeats 1000000 in
theorem meets_enum1 {v : Value} {o : Obj} {G : Heap → Prop} (B : Begins v o G) :
    Meets (Builtin.«enumerate.__new__» ⟨[.type "enumerate", v], []⟩) (fun _ R s => G s.heap ∧
      R (.ok (.ret (.ref (s.heap.push o).objs.size))) { s with heap := (s.heap.push o).push { cls := .type "enumerate", data := .fields #[.none, .bool false, .ref s.heap.objs.size, rawInt 0, .none, .none] } }) :=
  .of_wp fun prog w A R s h => by
    obtain ⟨hp, g, d, tk, os⟩ := s
    obtain ⟨g1, h⟩ := h
    have hsub9 := sub_enumerate
    have it9 : ∀ {A' : Around} {E : Value → Shared → Prop} {Q : Value → Shared → Prop}, Q (.ref hp.objs.size) ⟨hp.push o, g, d, tk, os⟩ → wpAny (model prog w) A' (pyIter v) Q E ⟨hp, g, d, tk, os⟩ :=
      fun q => B.iter prog w _ _ ⟨hp, g, d, tk, os⟩ _ g1 q
    wp_walk using it9
    refine wpAny_stack_any fun st => wpAny_pure ?_
    split
    · rename_i c _ _ _ _ _
      cases (c == Value.type "enumerate")
      · wp_walk using it9
        exact ⟨_, rfl, h⟩
      · wp_walk using it9
        exact ⟨_, rfl, h⟩
    · wp_walk using it9
      exact ⟨_, rfl, h⟩
theorem enum1_begins {prog : Program} {w : World} {A : Around} {E : Value → Shared → Prop} {s : Shared} {v : Value} {o : Obj} {G : Heap → Prop} {Q : Value → Shared → Prop} (B : Begins v o G) (g1 : G s.heap)
    (h : ∀ h', IsEnum h' (s.heap.objs.size + 1) s.heap.objs.size 0 .none → h'.get? s.heap.objs.size = some o → h'.objs.size = s.heap.objs.size + 2 →
      (∀ b o, s.heap.get? b = some o → h'.get? b = some o) → Q (.ref (s.heap.objs.size + 1)) { s with heap := h' }) :
    wpAny (model prog w) A (call (.type "enumerate") [v]) Q E s := by
  refine callType_new F.called_enumerate (by decide) (F.typeCall_enumerate_1 _) (F.newCall_enumerate_1 _) (fun obj => F.args_object_init_2 obj _) F.entry_enumerate_new (meets_enum1 B) ⟨g1, ?_⟩
  have z9 : (s.heap.push o).objs.size = s.heap.objs.size + 1 := Heap.size_push ..
  show _ ∧ _
  rw [z9]
  have he : IsEnum ((s.heap.push o).push { cls := .type "enumerate", data := .fields #[.none, .bool false, .ref s.heap.objs.size, rawInt 0, .none, .none] }) (s.heap.objs.size + 1) s.heap.objs.size 0 .none := by
    have y9 := Heap.get?_push_size (s.heap.push o) (o := { cls := .type "enumerate", data := .fields #[.none, .bool false, .ref s.heap.objs.size, rawInt 0, .none, .none] }) rfl
    rw [z9] at y9; exact y9
  exact ⟨⟨_, he, rfl⟩, h _ he (Heap.get?_push_of_some _ (Heap.get?_push_size _ B.free)) (by rw [Heap.size_push, z9]) fun b o x => Heap.get?_push_of_some _ (Heap.get?_push_of_some _ x)⟩
/-- the tuple at a, each item in a new pair -/
def IteT (K : PySem.W.Frag) (a : Addr) : It :=
  ⟨fun i H => ∃ (xs : List V) (x : V), SqT K H a xs ∧ xs[i]? = some x, fun i H v H' => ∃ T x, v = .ref T ∧ H T = none ∧ H' = upd H T (.tup [.int (i : Nat), x]) ∧ ∀ xs, SqT K H a xs → xs[i]? = some x, fun i H => ∃ xs : List V, SqT K H a xs ∧ xs.length ≤ i⟩
theorem turn_enumT {P : Program} {w : World} {K : PySem.W.Frag} {elts : List Expr} {kk : Nat} {tpos : Pos} (a e it : Addr) (hae : a ≠ e) (hai : a ≠ it) :
    Turn P w K (.Tuple elts kk tpos) (IteT K a) [e, it] e (fun i h => (∃ old, IsEnum h e it ((i : Nat) : Int) old) ∧ h.IsTupleIter it a i ∧ e ≠ it) where
  mem := List.mem_cons_self
  obj := fun i h st b hb => by
    obtain ⟨⟨old, he⟩, ⟨o, ho, hc, hd⟩, _⟩ := st
    have c9 : b = e ∨ b = it := by simpa using hb
    rcases c9 with rfl | rfl
    · exact ⟨_, he, fun v q => nomatch q⟩
    · exact ⟨o, ho, fun v q => by rw [hd] at q; cases q⟩
  keep := fun i h h' st k => let ⟨⟨old, he⟩, hi, hne⟩ := st; ⟨⟨old, k e (by simp) _ he⟩, hi.at fun o q => k it (by simp) o q, hne⟩
  item := by
    intro X hP hw hK hc i pins s σ H E I hf st hg
    subst hP hw hK
    obtain ⟨⟨old, he⟩, hit, hne⟩ := st
    obtain ⟨xs, x, hq, hx⟩ := hg
    obtain ⟨its, rv, p, hz⟩ := I.tuple hq
    obtain ⟨u, hu, ru⟩ := rv.get hx
    have le : e < s.heap.objs.size := Heap.lt_size he
    have li : it < s.heap.objs.size := by obtain ⟨_, q, _⟩ := hit; exact Heap.lt_size q
    have tp : s.heap.IsTuple a its.toArray := p
    have D9 := Draws.tuple (prog := X.prog) (w := X.w) (A := X.A.in1) (I.ok.hd hc) it a hai its.toArray
    have hlt : i < its.toArray.size := by
      have := (List.getElem?_eq_some_iff.mp hu).1
      simpa using this
    refine wpAny_pyNext_enum_itemD D9 he ⟨hit, tp⟩ hlt hne (by simp [hne, hae.symm]) fun u' h' tk hp' ho st' hT hsz hk => ?_
    have eu : u' = u := by
      have q9 : its[i]? = some u' := by simpa using hp'
      rw [hu] at q9; exact (Option.some.inj q9).symm
    subst eu
    refine ⟨_, rfl, wpAny_letOwnedTupleGo_enum (s := { s with heap := h', toks := tk + 1 }) ho fun h'' he' sb => ?_⟩
    have hT2 : h''.get? s.heap.objs.size = some { cls := .type "tuple", data := .seq #[.int i tk, u'] } := (sb.2 _ (Nat.ne_of_gt le)).trans hT
    have new : ObjOk X.prog X.w (upd H s.heap.objs.size (.tup [.int (i : Nat), x])) h'' s.heap.objs.size (.tup [.int (i : Nat), x]) :=
      ⟨by show 2 ≤ sizeLine; decide, [.int i tk, u'], .cons ⟨_, rfl⟩ (.cons ru .nil), ⟨_, hT2, rfl, _, rfl⟩⟩
    have I1 : Inv X pins σ (upd H s.heap.objs.size (.tup [.int (i : Nat), x])) { s with heap := h'', toks := tk + 1 } :=
      I.turnedNew (ch := [e, it]) (fun b ob hb q => (sb.2 b (fun z => hb (by simp [z]))).trans (hk b ob (fun z => hb (by simp [z])) (fun z => hb (by simp [z])) q)) hf (Nat.le_refl _) new
    refine ⟨.ref s.heap.objs.size, _, I1, rfl, ⟨_, x, rfl, I.hok.fresh (Nat.le_refl _), rfl, fun ys hy => by rw [I.tuple_inj hy hq]; exact hx⟩, ⟨⟨u', ?_⟩, st'.1.at fun o q => (sb.2 it (Ne.symm hne)).trans q, hne⟩, fun b hb => ?_⟩
    · have e1 : ((i + 1 : Nat) : Int) = (i : Int) + 1 := by omega
      rw [e1]; exact he'
    · have c9 : b = e ∨ b = it := by simpa using hb
      have hb9 : b < s.heap.objs.size := by rcases c9 with rfl | rfl <;> assumption
      rw [upd_ne (Nat.ne_of_lt hb9)]
      exact (hf b hb).1
  done := by
    intro X hP hw hK hc i pins s σ H E I hf st hg
    subst hP hw hK
    obtain ⟨⟨old, he⟩, hit, hne⟩ := st
    obtain ⟨xs, hq, hx⟩ := hg
    obtain ⟨its, rv, p, hz⟩ := I.tuple hq
    obtain ⟨f0, f1, f2, f3, f4, f5⟩ := hf it (by simp)
    have hl := rv.length
    have tp : s.heap.IsTuple a its.toArray := p
    have hT : s.TypeIs (.ref e) "enumerate" := ⟨_, he, rfl⟩
    unfold pyNext
    refine wpAny_bind (wpAny_attempt (wpAny_callSpecial?_slot (name := Str.ofString "__next__") hT F.slot_enumerate_next (wpAny_call_entry F.slot_enumerate_next hT F.entry_enumerate_next ?_ (F.args_enumerate_next_1 _))))
    show wpAny _ _ (field (.ref e) 2 >>= _) _ _ _
    refine wpAny_bind (wpAny_field he rfl (x := .ref it) rfl (wpAny_bind (wpAny_nextOf_tuple_end (I.ok.hd hc) hit tp (by simp; omega) fun h' x eb hx' => ?_)))
    obtain ⟨o, ho, hc⟩ := hx'
    refine wpAny_bind (wpAny_isInstance (T := "StopIteration") (b := true) ⟨o, ho, hc⟩ isSubtype_stop (wpAny_pure ?_))
    exact ⟨rfl, I.turned (t' := s.toks) (fun b o hb q => eb b o hb q) f0 f1 f3 f4 f5⟩
  self := fun A i s Q E st h => let ⟨⟨_, he⟩, _⟩ := st; wpAny_pyIter_enum he h
/-- enumerate(e), e a list or a tuple -/
def iEnumS (K : PySem.W.Frag) (ta : TA) : TI := fun σ H R => ta σ H fun vs H1 => ∃ a xs, vs = [.ref a] ∧ ((SqL K H1 a xs ∧ R (Ite K a) H1) ∨ (SqT K H1 a xs ∧ R (IteT K a) H1))
theorem pi_enumS {X : Cx} {e : Expr} {ta : TA} {p pos tpos : Pos} {elts : List Expr} {kk : Nat} (hg : Gl X "enumerate") (hm : X.mg "enumerate" = none) (ha : PA X [e] ta) (hs : starEach [e] X.env = [(false, eval e X.env)] := by rfl) :
    PI X (.Tuple elts kk tpos) (.Call (.Name "enumerate" p) [e] [] pos) (iEnumS X.K ta) := by
  refine ⟨fun pins s σ H R I h => ?_⟩
  refine PyProof.Rows.Call_ (ld_blt I hg hm PyProof.Rows.boot_enumerate (PyProof.Rows.callWith_type1 (thn (ha.run pos pins s σ H _ I h) fun us s1 ⟨vs, H1, I1, r1, a, xs, ex, q1⟩ => ?_) hs rfl))
  subst ex
  cases r1 with
  | cons r rr =>
    cases rr
    cases r
    rcases q1 with ⟨hq, q⟩ | ⟨hq, q⟩
    · obtain ⟨its, rv, p', hz⟩ := I1.list hq
      refine call_enumerate_list p'.isList fun h' he hit hsz hk => wpAny_pyIter_enum he ?_
      have I2 : Inv X pins σ H1 { s1 with heap := h' } := I1.kept (t' := s1.toks) hk
      refine ⟨s1.heap.objs.size + 1, [s1.heap.objs.size + 1, s1.heap.objs.size], _, _, H1, rfl, I2, turn_enum a (s1.heap.objs.size + 1) s1.heap.objs.size, ⟨⟨.none, he⟩, hit, Nat.succ_ne_self _⟩, fun b hb => ?_, q⟩
      have c9 : b = s1.heap.objs.size + 1 ∨ b = s1.heap.objs.size := by simpa using hb
      have l9 : s1.heap.objs.size ≤ b := by rcases c9 with rfl | rfl <;> omega
      exact I1.fpOk l9 (I1.hok.fresh l9)
    · obtain ⟨its, rv, p', hz⟩ := I1.tuple hq
      have tp : s1.heap.IsTuple a its.toArray := p'
      have la : a < s1.heap.objs.size := p'.lt
      refine enum1_begins (begins_tuple a its.toArray) tp fun h' he hg' hsz hk => wpAny_pyIter_enum he ?_
      have I2 : Inv X pins σ H1 { s1 with heap := h' } := I1.kept (t' := s1.toks) hk
      refine ⟨s1.heap.objs.size + 1, [s1.heap.objs.size + 1, s1.heap.objs.size], _, _, H1, rfl, I2, turn_enumT a (s1.heap.objs.size + 1) s1.heap.objs.size (Nat.ne_of_lt (Nat.lt_succ_of_lt la)) (Nat.ne_of_lt la), ⟨⟨.none, he⟩, ⟨_, hg', rfl, rfl⟩, Nat.succ_ne_self _⟩, fun b hb => ?_, q⟩
      have c9 : b = s1.heap.objs.size + 1 ∨ b = s1.heap.objs.size := by simpa using hb
      have l9 : s1.heap.objs.size ≤ b := by rcases c9 with rfl | rfl <;> omega
      exact I1.fpOk l9 (I1.hok.fresh l9)
/-- x of l, l a list or a tuple -/
def iSeq (K : PySem.W.Frag) (tl : TE) : TI := fun σ H R => tl σ H fun x H1 => ∃ a xs, x = .ref a ∧ ((SqL K H1 a xs ∧ R (Itl K a) H1) ∨ (SqT K H1 a xs ∧ R (Itt K a) H1))
theorem pi_seq {X : Cx} {tg l : Expr} {tl : TE} (hl : PE X l tl) : PI X tg l (iSeq X.K tl) := by
  refine ⟨fun pins s σ H R I h => thn (hl.run pins s σ H _ I h) fun v s1 ⟨x, H1, I1, r1, a, xs, ex, q1⟩ => ?_⟩
  subst ex
  cases r1
  rcases q1 with ⟨hq, q⟩ | ⟨hq, q⟩
  · obtain ⟨its, rv, p, hz⟩ := I1.list hq
    refine wpAny_pyIter_list p.isList ⟨s1.heap.objs.size, [s1.heap.objs.size], _, _, H1, rfl, I1.kept (t' := s1.toks) fun b o e => Heap.get?_push_of_some _ e, turn_list a _, ⟨_, Heap.get?_push_size _ rfl, rfl, rfl⟩, fun b hb => ?_, q⟩
    obtain rfl : b = s1.heap.objs.size := by simpa using hb
    exact I1.fpOk (Nat.le_refl _) (I1.hok.fresh (Nat.le_refl _))
  · obtain ⟨its, rv, p, hz⟩ := I1.tuple hq
    refine wpAny_pyIter_tuple (show s1.heap.IsTuple a its.toArray from p) ⟨s1.heap.objs.size, [s1.heap.objs.size], _, _, H1, rfl, I1.kept (t' := s1.toks) fun b o e => Heap.get?_push_of_some _ e, turn_tuple a _, ⟨_, Heap.get?_push_size _ rfl, rfl, rfl⟩, fun b hb => ?_, q⟩
    obtain rfl : b = s1.heap.objs.size := by simpa using hb
    exact I1.fpOk (Nat.le_refl _) (I1.hok.fresh (Nat.le_refl _))
/-- (a, b, ..) = a list or a tuple of that length -/
def gSeq (K : PySem.W.Frag) (n : Nat) (t : TGs) : TG := fun v σ H Q => ∃ a xs, v = .ref a ∧ Seq K H a xs ∧ xs.length = n ∧ t xs σ H Q
theorem pg_seq {X : Cx} {es : List Expr} {k : Nat} {pos : Pos} {t : TGs} {n : Nat} (hc : X.calm = true) (h : PGs X es t) (hn : (assignEach es X.env).length = n := by rfl) (hst : (assignEach es X.env).findIdx? (·.1) = none := by rfl) :
    PG X (.Tuple es k pos) (gSeq X.K n t) := by
  refine ⟨fun pins s σ H v u Q I r hw => ?_⟩
  obtain ⟨a, xs, e1, hq | hq, hl, hw⟩ := hw
  · exact (pg_lst (pos := pos) (k := k) hc h hn hst).run pins s σ H v u Q I r ⟨a, xs, e1, hq, hl, hw⟩
  · exact (pg_tup (pos := pos) (k := k) hc h hn hst).run pins s σ H v u Q I r ⟨a, xs, e1, hq, hl, hw⟩
end Mw
set_option Elab.async false
set_option linter.all false
set_option maxRecDepth 100000
set_option maxHeartbeats 2000000
/-! Values of any kind as data: what the program's looks at them say. -/
namespace Mw
open PySem L2
/-- None, bools, ints, texts, lists and tuples of these, at most so deep, none of them longer than 1000 -/
inductive Wf : Nat → PyData → Prop where
  | non {n : Nat} : Wf n .none
  | bl {n : Nat} (b : Bool) : Wf n (.bool b)
  | int {n : Nat} (i : Int) : Wf n (.int i)
  | str {n : Nat} (x : Str) : Wf n (.str x)
  | lst {n : Nat} {ds : List PyData} (z : ds.length ≤ 1000) (h : ∀ d ∈ ds, Wf n d) : Wf (n + 1) (.list ds)
  | tup {n : Nat} {ds : List PyData} (z : ds.length ≤ 1000) (h : ∀ d ∈ ds, Wf n d) : Wf (n + 1) (.tuple ds)
theorem Wf.mono {n m : Nat} {d : PyData} (h : Wf n d) (k : n ≤ m) : Wf m d := by
  induction h generalizing m with
  | non => exact .non
  | bl b => exact .bl b
  | int i => exact .int i
  | str x => exact .str x
  | lst z _ ih =>
    obtain ⟨m', rfl⟩ : ∃ m', m = m' + 1 := ⟨m - 1, by omega⟩
    exact .lst z fun d hd => ih d hd (by omega)
  | tup z _ ih =>
    obtain ⟨m', rfl⟩ : ∃ m', m = m' + 1 := ⟨m - 1, by omega⟩
    exact .tup z fun d hd => ih d hd (by omega)
theorem Td.wf {n : Nat} {d : PyData} (h : Td n d) : Wf n d := by
  induction h with
  | non => exact .non
  | bl b => exact .bl b
  | int i => exact .int i
  | str x => exact .str x
  | tup z _ ih => exact .tup z ih
/-- the members of a list or tuple -/
def dItems : PyData → Option (List PyData)
  | .list xs => some xs
  | .tuple xs => some xs
  | _ => none
def dInt : PyData → Bool
  | .int _ => true
  | _ => false
def dBool : PyData → Bool
  | .bool _ => true
  | _ => false
def dBtw (d : PyData) (lo hi : Int) : Bool := match d with
  | .int i => decide (lo ≤ i) && decide (i ≤ hi)
  | _ => false
def dNum (d : PyData) (n : Int) : Bool := dBtw d 0 (n - 1)
def dSeq (d : PyData) : Bool := (dItems d).isSome
def dRow (d : PyData) (lo hi : Int) : Bool := match dItems d with
  | some xs => decide (lo ≤ (xs.length : Int)) && decide ((xs.length : Int) ≤ hi)
  | none => false
def dAll (f : PyData → Bool) (d : PyData) : Bool := match dItems d with
  | some xs => xs.all f
  | none => false
/-- each less than the next -/
def ascI : List Int → Bool
  | a :: b :: r => decide (a < b) && ascI (b :: r)
  | _ => true
def dVal : PyData → Int
  | .int i => i
  | _ => 0
def dFacts (d : PyData) (n : Int) : Bool := dRow d n n && dAll dBool d
def dNums (d : PyData) (n : Int) : Bool := dAll (fun e => dNum e n) d
def dAscNums (d : PyData) (n : Int) : Bool := dNums d n && ascI (((dItems d).getD []).map dVal)
def dAt (d : PyData) (i : Nat) : PyData := ((dItems d).getD []).getD i .none
def dWanted (d : PyData) (n : Int) : Bool := dRow d 2 2 && (dNum (dAt d 0) n && dBool (dAt d 1))
def dCond (d : PyData) (n : Int) : Bool := dAll (fun e => dWanted e n) d && ascI (((dItems d).getD []).map fun e => dVal (dAt e 0))
mutual
/-- the same with tuples in the place of lists -/
def dPlain : PyData → PyData
  | .list xs => .tuple (dPlains xs)
  | .tuple xs => .tuple (dPlains xs)
  | .none => .none
  | .bool b => .bool b
  | .int i => .int i
  | .str x => .str x
  | .dict kvs => .dict kvs
def dPlains : List PyData → List PyData
  | [] => []
  | x :: xs => dPlain x :: dPlains xs
end
theorem dPlains_map : ∀ xs : List PyData, dPlains xs = xs.map dPlain
  | [] => rfl
  | x :: xs => by rw [List.map_cons, ← dPlains_map xs]; rfl
/-- the class of data -/
def tyD : PyData → String
  | .none => "NoneType"
  | .bool _ => "bool"
  | .int _ => "int"
  | .str _ => "str"
  | .list _ => "list"
  | .tuple _ => "tuple"
  | .dict _ => "dict"
section
variable {K : PySem.W.Frag} {H : Hp}
theorem dp_ty {x : V} {d : PyData} (h : Dp K H x d) : TyX K H x (.type (tyD d)) := by
  cases h with
  | non => exact .base .non
  | bl b => exact .base (.bl b)
  | int i => exact .base (.int i)
  | str x => exact .base (.str x)
  | lst h _ => exact ty_lst h
  | tup h _ => exact ty_tup h
theorem dp_items {x : V} {d : PyData} {ds : List PyData} (h : Dp K H x d) (e : dItems d = some ds) : ∃ a xs, x = .ref a ∧ Seq K H a xs ∧ DpAll K H xs ds := by
  cases h with
  | non => cases e
  | bl b => cases e
  | int i => cases e
  | str x => cases e
  | lst h t => cases e; exact ⟨_, _, rfl, .inl h, t⟩
  | tup h t => cases e; exact ⟨_, _, rfl, .inr h, t⟩
theorem wf_items {n : Nat} {d : PyData} {ds : List PyData} (w : Wf n d) (e : dItems d = some ds) : ds.length ≤ 1000 ∧ ∃ m, n = m + 1 ∧ ∀ x ∈ ds, Wf m x := by
  cases w with
  | non => cases e
  | bl b => cases e
  | int i => cases e
  | str x => cases e
  | lst z h => cases e; exact ⟨z, _, rfl, h⟩
  | tup z h => cases e; exact ⟨z, _, rfl, h⟩
theorem kit_int {x : V} {d : PyData} (h : Dp K H x d) : PySem.W.kitOne K (.type (tyD d)) (.type "int") = some (dInt d || dBool d) := by
  cases h with
  | non => exact kit_ty (show kitB "NoneType" "int" = some false by decide +kernel)
  | bl b => exact kit_ty (show kitB "bool" "int" = some true by decide +kernel)
  | int i => exact kit_ty (show kitB "int" "int" = some true by decide +kernel)
  | str x => exact kit_ty (show kitB "str" "int" = some false by decide +kernel)
  | lst h t => exact kit_ty (show kitB "list" "int" = some false by decide +kernel)
  | tup h t => exact kit_ty (show kitB "tuple" "int" = some false by decide +kernel)
theorem kit_bool {x : V} {d : PyData} (h : Dp K H x d) : PySem.W.kitOne K (.type (tyD d)) (.type "bool") = some (dBool d) := by
  cases h with
  | non => exact kit_ty (show kitB "NoneType" "bool" = some false by decide +kernel)
  | bl b => exact kit_ty (show kitB "bool" "bool" = some true by decide +kernel)
  | int i => exact kit_ty (show kitB "int" "bool" = some false by decide +kernel)
  | str x => exact kit_ty (show kitB "str" "bool" = some false by decide +kernel)
  | lst h t => exact kit_ty (show kitB "list" "bool" = some false by decide +kernel)
  | tup h t => exact kit_ty (show kitB "tuple" "bool" = some false by decide +kernel)
def dTup : PyData → Bool
  | .tuple _ => true
  | _ => false
theorem kit_tuple {x : V} {d : PyData} (h : Dp K H x d) : PySem.W.kitOne K (.type (tyD d)) (.type "tuple") = some (dTup d) := by
  cases h with
  | non => exact kit_ty (show kitB "NoneType" "tuple" = some false by decide +kernel)
  | bl b => exact kit_ty (show kitB "bool" "tuple" = some false by decide +kernel)
  | int i => exact kit_ty (show kitB "int" "tuple" = some false by decide +kernel)
  | str x => exact kit_ty (show kitB "str" "tuple" = some false by decide +kernel)
  | lst h t => exact kit_ty (show kitB "list" "tuple" = some false by decide +kernel)
  | tup h t => exact kit_ty (show kitB "tuple" "tuple" = some true by decide +kernel)
theorem kit_seq {x : V} {d : PyData} (h : Dp K H x d) : PySem.W.kitAny K (.type (tyD d)) [.type "list", .type "tuple"] = some (dSeq d) := by
  cases h with
  | non => exact kitAny_cons (b := false) (kit_ty (show kitB "NoneType" "list" = some false by decide +kernel)) (fun _ => kitAny_cons (b := false) (kit_ty (show kitB "NoneType" "tuple" = some false by decide +kernel)) (fun _ => kitAny_nil) fun z => nomatch z) fun z => nomatch z
  | bl b => exact kitAny_cons (b := false) (kit_ty (show kitB "bool" "list" = some false by decide +kernel)) (fun _ => kitAny_cons (b := false) (kit_ty (show kitB "bool" "tuple" = some false by decide +kernel)) (fun _ => kitAny_nil) fun z => nomatch z) fun z => nomatch z
  | int i => exact kitAny_cons (b := false) (kit_ty (show kitB "int" "list" = some false by decide +kernel)) (fun _ => kitAny_cons (b := false) (kit_ty (show kitB "int" "tuple" = some false by decide +kernel)) (fun _ => kitAny_nil) fun z => nomatch z) fun z => nomatch z
  | str x => exact kitAny_cons (b := false) (kit_ty (show kitB "str" "list" = some false by decide +kernel)) (fun _ => kitAny_cons (b := false) (kit_ty (show kitB "str" "tuple" = some false by decide +kernel)) (fun _ => kitAny_nil) fun z => nomatch z) fun z => nomatch z
  | lst h t => exact kitAny_cons (b := true) (kit_ty (show kitB "list" "list" = some true by decide +kernel)) (fun z => nomatch z) fun _ => rfl
  | tup h t => exact kitAny_cons (b := false) (kit_ty (show kitB "tuple" "list" = some false by decide +kernel)) (fun _ => kitAny_cons (b := true) (kit_ty (show kitB "tuple" "tuple" = some true by decide +kernel)) (fun z => nomatch z) fun _ => rfl) fun z => nomatch z
/-- bools as data -/
theorem bools_of : ∀ {vs : List V} {bs : List Bool}, DpAll K H vs (bs.map PyData.bool) → vs = bs.map V.bl
  | _, [], .nil => rfl
  | _, b :: bs, .cons h t => by cases h; rw [List.map_cons, bools_of t]
theorem ints_of : ∀ {vs : List V} {is : List Int}, DpAll K H vs (is.map PyData.int) → vs = is.map V.int
  | _, [], .nil => rfl
  | _, b :: bs, .cons h t => by cases h; rw [List.map_cons, ints_of t]
theorem dpAll_bools : ∀ bs : List Bool, DpAll K H (bs.map V.bl) (bs.map PyData.bool)
  | [] => .nil
  | b :: bs => .cons (.bl b) (dpAll_bools bs)
theorem dpAll_ints : ∀ is : List Int, DpAll K H (is.map V.int) (is.map PyData.int)
  | [] => .nil
  | b :: bs => .cons (.int b) (dpAll_ints bs)
end
theorem take_succ_of {α : Type} {l : List α} {i : Nat} {x : α} (h : l[i]? = some x) : l.take (i + 1) = l.take i ++ [x] := by
  rw [List.take_add_one, h]; rfl
/-- data without lists does not lean on a tracked list -/
theorem dp_put {K : PySem.W.Frag} {D : Addr} {acc acc' : List V} {n : Nat} {d : PyData} (t : Td n d) : ∀ {H : Hp} {v : V}, H D = some (.lst acc) → Dp K H v d → Dp K (upd H D (.lst acc')) v d := by
  induction t with
  | non => intro H v _ h; cases h; exact .non
  | bl b => intro H v _ h; cases h; exact .bl b
  | int i => intro H v _ h; cases h; exact .int i
  | str x => intro H v _ h; cases h; exact .str x
  | @tup n ds z _ ih =>
    intro H v hD h
    cases h with
    | @tup a xs _ hs ha =>
      have hs' : SqT K (upd H D (.lst acc')) a xs := by
        rcases hs with (e | ⟨o, e⟩) | e
        · exact .inl (.inl (by rw [upd_ne (fun q => by rw [q, hD] at e; cases e)]; exact e))
        · exact .inl (.inr ⟨o, by rw [upd_ne (fun q => by rw [q, hD] at e; cases e)]; exact e⟩)
        · exact .inr e
      refine .tup hs' ?_
      clear hs hs' z
      have all : ∀ (ds' : List PyData) (vs : List V), (∀ d ∈ ds', d ∈ ds) → DpAll K H vs ds' → DpAll K (upd H D (.lst acc')) vs ds' := by
        intro ds'
        induction ds' with
        | nil => intro vs _ h; cases h; exact .nil
        | cons e r ihr =>
          intro vs hm h
          cases h with
          | cons h1 h2 => exact .cons (ih e (hm e List.mem_cons_self) hD h1) (ihr _ (fun d hd => hm d (List.mem_cons_of_mem _ hd)) h2)
      exact all ds xs (fun _ h => h) ha
theorem dpAll_put {K : PySem.W.Frag} {D : Addr} {acc acc' : List V} {H : Hp} : ∀ {ds : List PyData} {vs : List V}, (∀ d ∈ ds, ∃ n, Td n d) → H D = some (.lst acc) → DpAll K H vs ds → DpAll K (upd H D (.lst acc')) vs ds
  | [], _, _, _, h => by cases h; exact .nil
  | d :: ds, _, ht, hD, h => by
    cases h with
    | cons h1 h2 =>
      obtain ⟨n, t⟩ := ht d List.mem_cons_self
      exact .cons (dp_put t hD h1) (dpAll_put (fun e he => ht e (List.mem_cons_of_mem _ he)) hD h2)
/-- the reading of [e for x in value], each element data made of the item -/
theorem lc_dp {K : PySem.W.Frag} {a : Addr} {xs : List V} {ds : List PyData} (F : PyData → PyData) {i0 : Nat} {te : TE} {vs : List Nat} {σ : St} {H1 : Hp} {Q : VK} (hq : Seq K H1 a xs) (hd : DpAll K H1 xs ds) (hz : ds.length ≤ 1000) (hF : ∀ d ∈ ds, ∃ n, Td n (F d))
    (hw : ∀ x : V, wipe ((wipe σ vs).set i0 (some x)) vs = wipe σ vs)
    (turn : ∀ (i : Nat) (x : V) (d : PyData) (H : Hp) (Qe : VK), ds[i]? = some d → Same H1 H → Dp K H x d → (∀ y H', Same H H' → Dp K H' y (F d) → Qe y H') → te ((wipe σ vs).set i0 (some x)) H Qe)
    (hQ : ∀ D acc H', H1 D = none → Same H1 H' → H' D = some (.lst acc) → DpAll K H' acc (ds.map F) → Q (.ref D) H') :
    tLc (fun σ H R => (SqL K H a xs ∧ R (Itl K a) H) ∨ (SqT K H a xs ∧ R (Itt K a) H)) (gName i0) tYes te vs σ H1 Q := by
  have el := dpAll_len hd
  have key : ∀ D, H1 D = none → ∀ i x H, xs[i]? = some x → (∃ acc, H D = some (.lst acc) ∧ Same H1 H ∧ DpAll K H acc ((ds.take i).map F)) → gName i0 x (wipe σ vs) H fun σ2 H2 => wipe σ2 vs = wipe σ vs ∧ tYes σ2 H2 fun b H3 =>
      if b = true then te σ2 H3 fun y H4 => ∃ acc, H4 D = some (.lst acc) ∧ acc.length < sizeLine ∧ (∃ acc', (upd H4 D (.lst (acc ++ [y]))) D = some (.lst acc') ∧ Same H1 (upd H4 D (.lst (acc ++ [y]))) ∧ DpAll K (upd H4 D (.lst (acc ++ [y]))) acc' ((ds.take (i + 1)).map F))
      else ∃ acc, H3 D = some (.lst acc) ∧ Same H1 H3 ∧ DpAll K H3 acc ((ds.take (i + 1)).map F) := by
    rintro D hD i x H hx ⟨acc, hacc, hs, hda⟩
    have hi : i < ds.length := by rw [← el]; exact (List.getElem?_eq_some_iff.mp hx).1
    have hdi : ds[i]? = some ds[i] := by simp [hi]
    obtain ⟨v, hv, hvd⟩ := dpAll_get hd hdi
    rw [hx] at hv
    obtain rfl := Option.some.inj hv
    refine ⟨hw x, ?_⟩
    dsimp only [tYes]
    rw [if_pos rfl]
    refine turn i x ds[i] H _ hdi hs (dp_same hs hvd) fun y H' hs' hy => ?_
    have hl9 : acc.length = i := by
      have := dpAll_len hda
      rw [List.length_map, List.length_take] at this; omega
    have sD : Same H1 (upd H' D (.lst (acc ++ [y]))) := fun b o e => by rw [upd_ne (ne_of_none e hD)]; exact hs' _ _ (hs _ _ e)
    refine ⟨acc, hs' _ _ hacc, by rw [hl9]; exact Nat.lt_of_le_of_lt (by omega : i ≤ 1000) (by decide), acc ++ [y], upd_same, sD, ?_⟩
    rw [take_succ_of hdi, List.map_append]
    refine dpAll_append (dpAll_put (fun e he => ?_) (hs' _ _ hacc) (dpAll_same hs' hda)) (dpAll_put (fun e he => ?_) (hs' _ _ hacc) (dpAll_one hy))
    · obtain ⟨d9, hd9, rfl⟩ := List.mem_map.mp he
      exact hF d9 (List.mem_of_mem_take hd9)
    · obtain rfl := List.mem_singleton.mp he
      exact hF _ (List.getElem_mem hi)
  have h0 : ∀ D, H1 D = none → ∃ acc, upd H1 D (.lst []) D = some (.lst acc) ∧ Same H1 (upd H1 D (.lst [])) ∧ DpAll K (upd H1 D (.lst [])) acc ((ds.take 0).map F) := fun D hD => ⟨[], upd_same, Same.new hD, .nil⟩
  have hfin : ∀ D, H1 D = none → ∀ H, (∃ acc, H D = some (.lst acc) ∧ Same H1 H ∧ DpAll K H acc ((ds.take xs.length).map F)) → Q (.ref D) H := fun D hD H ⟨acc, ha, hs, hda⟩ => by
    rw [el, List.take_length] at hda
    exact hQ D acc H hD hs ha hda
  rcases hq with h | h
  · exact .inl ⟨h, fun D hD => lc_list (K := K) (a := a) (xs := xs) (fun i H => ∃ acc, H D = some (.lst acc) ∧ Same H1 H ∧ DpAll K H acc ((ds.take i).map F)) (h0 D hD) (fun i H _ ⟨_, _, s, _⟩ => s.seq h) (fun i x H hx p => key D hD i x H hx p) (hfin D hD)⟩
  · exact .inr ⟨h, fun D hD => lc_tup (K := K) (a := a) (xs := xs) (fun i H => ∃ acc, H D = some (.lst acc) ∧ Same H1 H ∧ DpAll K H acc ((ds.take i).map F)) (h0 D hD) (fun i H _ ⟨_, _, s, _⟩ => sqT_same s h) (fun i x H hx p => key D hD i x H hx p) (hfin D hD)⟩
theorem lc_dpS {K : PySem.W.Frag} {a : Addr} {xs : List V} {ds : List PyData} (F : PyData → PyData) {i0 : Nat} {tl te : TE} {vs : List Nat} {σ : St} {H1 : Hp} {Q : VK} (ht : ∀ R, R (.ref a) H1 → tl σ H1 R) (hq : Seq K H1 a xs) (hd : DpAll K H1 xs ds) (hz : ds.length ≤ 1000) (hF : ∀ d ∈ ds, ∃ n, Td n (F d))
    (hw : ∀ x : V, wipe ((wipe σ vs).set i0 (some x)) vs = wipe σ vs)
    (turn : ∀ (i : Nat) (x : V) (d : PyData) (H : Hp) (Qe : VK), ds[i]? = some d → Same H1 H → Dp K H x d → (∀ y H', Same H H' → Dp K H' y (F d) → Qe y H') → te ((wipe σ vs).set i0 (some x)) H Qe)
    (hQ : ∀ D acc H', H1 D = none → Same H1 H' → H' D = some (.lst acc) → DpAll K H' acc (ds.map F) → Q (.ref D) H') :
    tLc (iSeq K tl) (gName i0) tYes te vs σ H1 Q := ht _ ⟨a, xs, rfl, lc_dp F hq hd hz hF hw turn hQ⟩
theorem tcb1 {r : List V → Hp → VK → Prop} {te : TE} {σ : St} {H : Hp} {Q : VK} (h : te σ H fun x H' => r [x] H' Q) : tCB r (tCons te tNil) σ H Q := h
theorem tcall1 {sp : Sp} {dvs : List V} {E : XK} {te : TE} {σ : St} {H : Hp} {Q : VK} (h : te σ H fun x H' => sp ([x] ++ dvs) H' Q E) : tCall sp dvs E (tCons te tNil) σ H Q := h
theorem tret {te : TE} {D : Ends} {σ : St} {H : Hp} (h : te σ H D.rt) : tRet te D σ H := h
theorem tnx {D : Ends} {σ : St} {H : Hp} (h : D.nx σ H) : tNext D σ H := h
abbrev rLenQ (K : PySem.W.Frag) : List V → Hp → VK → Prop := fun xs H Q => ∃ p ys, xs = [.ref p] ∧ (SqL K H p ys ∨ SqT K H p ys) ∧ Q (.int ys.length) H
abbrev rLstQ (K : PySem.W.Frag) : List V → Hp → VK → Prop := fun xs H Q => ∃ p ys, xs = [.ref p] ∧ (SqL K H p ys ∨ SqT K H p ys) ∧ ∀ l, H l = none → Q (.ref l) (upd H l (.lst ys))
abbrev rTupQ (K : PySem.W.Frag) : List V → Hp → VK → Prop := fun xs H Q => ∃ p ys, xs = [.ref p] ∧ ((SqL K H p ys ∧ ∀ l, H l = none → Q (.ref l) (upd H l (.tup ys))) ∨ (SqT K H p ys ∧ Q (.ref p) H))
/-- promises over data -/
def spB1 (K : PySem.W.Frag) (f : PyData → Bool) : Sp := fun vs H Q _ => ∃ (x : V) (d : PyData) (n : Nat), vs = [x] ∧ Dp K H x d ∧ Wf n d ∧ ∀ H', Same H H' → Q (.bl (f d)) H'
def spB2 (K : PySem.W.Frag) (f : PyData → Int → Bool) : Sp := fun vs H Q _ => ∃ (x : V) (d : PyData) (n : Nat) (i : Int), vs = [x, .int i] ∧ Dp K H x d ∧ Wf n d ∧ ∀ H', Same H H' → Q (.bl (f d i)) H'
def spB3 (K : PySem.W.Frag) (f : PyData → Int → Int → Bool) : Sp := fun vs H Q _ => ∃ (x : V) (d : PyData) (n : Nat) (i j : Int), vs = [x, .int i, .int j] ∧ Dp K H x d ∧ Wf n d ∧ ∀ H', Same H H' → Q (.bl (f d i j)) H'
/-- is_ascending of a list of ints -/
def spAscI (K : PySem.W.Frag) : Sp := fun vs H Q _ => ∃ (a : Addr) (ns : List Int), vs = [.ref a] ∧ Seq K H a (ns.map V.int) ∧ ns.length ≤ 1000 ∧ ∀ H', Same H H' → Q (.bl (ascI ns)) H'
/-- plain(value) -/
def spPlain (K : PySem.W.Frag) (n : Nat) : Sp := fun vs H Q _ => ∃ (x : V) (d : PyData) (m : Nat), vs = [x] ∧ Dp K H x d ∧ Wf m d ∧ m < n ∧ ∀ y H', Same H H' → Dp K H' y (dPlain d) → Q y H'
theorem td_plain {n : Nat} {d : PyData} (h : Wf n d) : Td n (dPlain d) := by
  induction h with
  | non => exact .non
  | bl b => exact .bl b
  | int i => exact .int i
  | str x => exact .str x
  | lst z _ ih =>
    show Td _ (.tuple (dPlains _))
    rw [dPlains_map]
    exact .tup (by rw [List.length_map]; exact z) fun d hd => by obtain ⟨e, he, rfl⟩ := List.mem_map.mp hd; exact ih e he
  | tup z _ ih =>
    show Td _ (.tuple (dPlains _))
    rw [dPlains_map]
    exact .tup (by rw [List.length_map]; exact z) fun d hd => by obtain ⟨e, he, rfl⟩ := List.mem_map.mp hd; exact ih e he
/-- the reading of [e for i in range(n)], each element data made of i -/
theorem lc_rng {K : PySem.W.Frag} (n : Nat) (F : Nat → PyData) {i0 : Nat} {j : Int} {ta : TA} {te : TE} {vs : List Nat} {σ : St} {H1 : Hp} {Q : VK} (ht : ∀ R, R [.int j] H1 → ta σ H1 R) (hj : j.toNat = n) (hj0 : -1000 ≤ j) (hz : n ≤ 1000) (hF : ∀ i, i < n → ∃ m, Td m (F i))
    (hw : ∀ x : V, wipe ((wipe σ vs).set i0 (some x)) vs = wipe σ vs)
    (turn : ∀ (i : Nat) (H : Hp) (Qe : VK), i < n → Same H1 H → (∀ y H', Same H H' → Dp K H' y (F i) → Qe y H') → te ((wipe σ vs).set i0 (some (.int (0 + (i : Int))))) H Qe)
    (hQ : ∀ D acc H', H1 D = none → Same H1 H' → H' D = some (.lst acc) → DpAll K H' acc ((List.range n).map F) → Q (.ref D) H') :
    tLc (iRng1 ta) (gName i0) tYes te vs σ H1 Q := by
  refine ht _ ⟨j, rfl, ?_, ?_, ?_⟩
  · have e62 : (2 : Int) ^ 62 = 4611686018427387904 := by decide
    omega
  · have e62 : (2 : Int) ^ 62 = 4611686018427387904 := by decide
    omega
  rw [hj]
  intro D hD
  refine lc_range (lo := 0) (n := n) (fun i H => ∃ acc, H D = some (.lst acc) ∧ Same H1 H ∧ DpAll K H acc ((List.range i).map F)) ⟨[], upd_same, Same.new hD, .nil⟩ ?_ (fun H ⟨acc, ha, hs, hda⟩ => hQ D acc H hD hs ha hda)
  rintro i H hi ⟨acc, hacc, hs, hda⟩
  refine ⟨hw _, ?_⟩
  dsimp only [tYes]
  rw [if_pos rfl]
  refine turn i H _ hi hs fun y H' hs' hy => ?_
  have hl9 : acc.length = i := by
    have := dpAll_len hda
    rw [List.length_map, List.length_range] at this; exact this
  have sD : Same H1 (upd H' D (.lst (acc ++ [y]))) := fun b o e => by rw [upd_ne (ne_of_none e hD)]; exact hs' _ _ (hs _ _ e)
  refine ⟨acc, hs' _ _ hacc, by rw [hl9]; exact Nat.lt_of_le_of_lt (by omega : i ≤ 1000) (by decide), acc ++ [y], upd_same, sD, ?_⟩
  rw [List.range_succ, List.map_append]
  refine dpAll_append (dpAll_put (fun e he => ?_) (hs' _ _ hacc) (dpAll_same hs' hda)) (dpAll_put (fun e he => ?_) (hs' _ _ hacc) (dpAll_one hy))
  · obtain ⟨d9, hd9, rfl⟩ := List.mem_map.mp he
    exact hF d9 (by have := List.mem_range.mp hd9; omega)
  · obtain rfl := List.mem_singleton.mp he
    exact hF _ hi
theorem ascI_range : ∀ ns : List Int, ascI ns = ((List.range (ns.length - 1)).map fun i => decide (ns.getD i 0 < ns.getD (i + 1) 0)).all id
  | [] => rfl
  | [_] => rfl
  | a :: b :: r => by
    have ih := ascI_range (b :: r)
    have e : (a :: b :: r).length - 1 = ((b :: r).length - 1) + 1 := by simp
    show (decide (a < b) && ascI (b :: r)) = _
    rw [e, List.range_succ_eq_map, List.map_cons, List.all_cons, List.map_map, ih]
    rfl
theorem getD_at {ns : List Int} {i : Nat} (h : i < ns.length) : (ns.map V.int)[i]? = some (V.int (ns.getD i 0)) := by
  simp [h]
theorem seq_ix {K : PySem.W.Frag} {H : Hp} {a : Addr} {xs : List V} {i : Int} {v : V} {Q : VK} (hq : Seq K H a xs) (h : atI xs i = some v) (q : Q v H) : rIx K (.ref a) (.int i) H Q := by
  rcases hq with e | e
  · exact .inl ⟨a, xs, i, v, rfl, rfl, e, h, q⟩
  · exact .inr (.inl ⟨a, xs, i, v, rfl, rfl, e, h, q⟩)
theorem all_false {α : Type} {f : α → Bool} {l : List α} {x : α} (h : x ∈ l) (e : f x = false) : l.all f = false := by
  cases q : l.all f with
  | false => rfl
  | true => rw [List.all_eq_true.mp q x h] at e; cases e
end Mw
set_option Elab.async false
set_option linter.all false
set_option maxRecDepth 100000
set_option maxHeartbeats 2000000
/-! Errors that are raised with a number; constants; pairs walked. -/
namespace Mw
open PySem L2
/-- a constant of the module -/
theorem pe_const {X : Cx} {x : Str} {i : Int} {pos : Pos} (h : ∃ t, X.mg x = some (.int i t)) (hg : Gl X x := by rfl) (hdb : (x == ("__debug__" : Str)) = false := by decide) : PE X (.Name x pos) (tC (.int i)) := by
  obtain ⟨t, h⟩ := h
  exact pe_glob (v := .int i) hg h ⟨_, rfl⟩ hdb
/-- the promise of __init__(self, f): self.f = f -/
def spIni1 (K : PySem.W.Frag) (C : Addr) (f : Str) : Sp := fun vs H Q _ => ∃ (a : Addr) (v : V), vs = [.ref a, v] ∧ H a = some (exo a C none) ∧
  ∀ dx, H dx = none → dx ≠ a → Q .non (upd (upd H dx (exd dx [(f, v)])) a (exo a C (some dx)))
/-- of __init__(self, f, g) -/
def spIni2 (K : PySem.W.Frag) (C : Addr) (f g : Str) : Sp := fun vs H Q _ => ∃ (a : Addr) (v u : V), vs = [.ref a, v, u] ∧ H a = some (exo a C none) ∧
  ∀ dx, H dx = none → dx ≠ a → Q .non (upd (upd (upd H dx (exd dx [(f, v)])) a (exo a C (some dx))) dx (exd dx [(g, u), (f, v)]))
/-- an error class by what its making promises -/
def ExC (P : Program) (w : World) (K : PySem.W.Frag) (mg : Str → Option Value) (base : Heap) (x : Str) (C : Addr) (ps : List Str) (sp : Sp) : Prop :=
  mg x = some (.ref C) ∧ ExM K C ∧ ∃ (fI : Addr) (fd : FuncData), PySem.W.findIn K (.ref C) "__init__" = some (some (.ref fI)) ∧ PySem.W.typeIn K (.ref fI) = some (.type "function") ∧ FnOk P w K mg base CX0 1 fI fd ps sp ∧ Binds K fd ps []
theorem pmk_ex {X : Cx} {x : Str} {C : Addr} {ps : List Str} {sp : Sp} {e : Expr} {es : List Expr} {ta : TA} {p pos : Pos} {k : Nat} (c : ExC X.prog X.w X.K X.mg X.base x C ps sp) (hr : Room (k + 2) X.A) (ha : PA X (e :: es) ta) (hg : Gl X x := by rfl)
    (hdb : (x == ("__debug__" : Str)) = false := by decide) (he : starEach (e :: es) X.env = (false, eval e X.env) :: starEach es X.env := by rfl) (hpl : (backTo pos (starEach es X.env)).any (·.1) = false := by rfl) :
    PMk X (.Call (.Name x p) (e :: es) [] pos) (tMade C sp ta) := by
  obtain ⟨g, T, fI, fd, iC, tI, F, b⟩ := c
  exact pmk_made T iC tI F (hr.mono (by omega)) b pass0 hg g ha hdb he hpl
theorem made1 {K : PySem.W.Frag} {C : Addr} {f : Str} {v : V} {H : Hp} {Q : XK} (h : ∀ d H', Same H H' → H d = none → H' d = some (.xd [(f, v)]) → Q (.ref C) (some d) H') :
    ∀ a, H a = none → spIni1 K C f [.ref a, v] (upd H a (exo a C none)) (fun v' H2 => v' = .non ∧ ∃ (d : Addr) (fs : List (Str × V)), H2 a = some (exo a C (some d)) ∧ H2 d = some (exd d fs) ∧ H d = none ∧ Q (.ref C) (some d) (upd (del H2 a) d (.xd fs))) (fun _ _ _ => False) := fun a ha =>
  ⟨a, v, rfl, upd_same, fun dx hdx hne => by
    have hn : H dx = none := by rw [upd_ne hne] at hdx; exact hdx
    refine ⟨rfl, dx, [(f, v)], upd_same, by rw [upd_ne hne]; exact upd_same, hn, h dx _ (fun b o e => ?_) hn upd_same⟩
    have b1 : b ≠ dx := ne_of_none e hn
    have b2 : b ≠ a := ne_of_none e ha
    rw [upd_ne b1, del_ne b2, upd_ne b2, upd_ne b1, upd_ne b2]
    exact e⟩
theorem made2 {K : PySem.W.Frag} {C : Addr} {f g : Str} {v u : V} {H : Hp} {Q : XK} (h : ∀ d H', Same H H' → H d = none → H' d = some (.xd [(g, u), (f, v)]) → Q (.ref C) (some d) H') :
    ∀ a, H a = none → spIni2 K C f g [.ref a, v, u] (upd H a (exo a C none)) (fun v' H2 => v' = .non ∧ ∃ (d : Addr) (fs : List (Str × V)), H2 a = some (exo a C (some d)) ∧ H2 d = some (exd d fs) ∧ H d = none ∧ Q (.ref C) (some d) (upd (del H2 a) d (.xd fs))) (fun _ _ _ => False) := fun a ha =>
  ⟨a, v, u, rfl, upd_same, fun dx hdx hne => by
    have hn : H dx = none := by rw [upd_ne hne] at hdx; exact hdx
    refine ⟨rfl, dx, [(g, u), (f, v)], by rw [upd_ne hne.symm]; exact upd_same, upd_same, hn, h dx _ (fun b o e => ?_) hn upd_same⟩
    have b1 : b ≠ dx := ne_of_none e hn
    have b2 : b ≠ a := ne_of_none e ha
    rw [upd_ne b1, del_ne b2, upd_ne b1, upd_ne b2, upd_ne b1, upd_ne b2]
    exact e⟩
/-- what a check says: nothing, or an error with its class (by a number) and its fields -/
abbrev Flt := Option (Nat × List (Str × V))
/-- the end of a check: cs tells the classes -/
def Ends1 (cs : Nat → Addr) (r : Flt) (H : Hp) (ok : Hp → Prop) (E : XK) : Prop := match r with
  | none => ∀ H', Same H H' → ok H'
  | some (c, fs) => ∀ d H', Same H H' → H d = none → H' d = some (.xd fs) → E (.ref (cs c)) (some d) H'
theorem Ends1.from {cs : Nat → Addr} {r : Flt} {H H1 : Hp} {ok : Hp → Prop} {E : XK} (h : Ends1 cs r H ok E) (s : Same H H1) : Ends1 cs r H1 ok E := by
  cases r with
  | none => exact fun H' s' => h H' (s.trans s')
  | some p => exact fun d H' s' n e => h d H' (s.trans s') (s.free n) e
def fValue (n : Int) : Flt := some (0, [("at", .int n)])
def fState (n : Int) : Flt := some (1, [("at", .int n)])
def fMethod (t m : Int) : Flt := some (2, [("method", .int m), ("task", .int t)])
/-- the first that is not as told -/
def firstBad (f : PyData → Bool) : List PyData → Option Nat
  | [] => none
  | d :: r => if f d = true then (firstBad f r).map (· + 1) else some 0
theorem firstBad_none {f : PyData → Bool} : ∀ {l : List PyData}, (∀ d ∈ l, f d = true) → firstBad f l = none
  | [], _ => rfl
  | d :: r, h => by
    unfold firstBad
    rw [if_pos (h d List.mem_cons_self), firstBad_none fun e he => h e (List.mem_cons_of_mem _ he)]; rfl
theorem firstBad_some {f : PyData → Bool} : ∀ {l : List PyData} {i : Nat} {d : PyData}, l[i]? = some d → f d = false → (∀ e ∈ l.take i, f e = true) → firstBad f l = some i
  | [], _, _, h, _, _ => by simp at h
  | d :: r, 0, e, h, hf, _ => by
    simp at h; subst h
    unfold firstBad
    rw [hf]; rfl
  | d :: r, i + 1, e, h, hf, ha => by
    unfold firstBad
    rw [if_pos (ha d (by simp)), firstBad_some (l := r) (i := i) (by simpa using h) hf fun x hx => ha x (by simp [hx])]; rfl
/-- for i, x in enumerate(value): the invariant says of the first i -/
theorem for_enum {K : PySem.W.Frag} {a : Addr} {xs : List V} {g : TG} {tb : TS} {D : Ends} {σ : St} {H : Hp} (hq : Seq K H a xs) (Pv : Nat → St → Hp → Prop) (h0 : Pv 0 σ H) (hl : ∀ i σ H', i ≤ xs.length → Pv i σ H' → Same H H')
    (hs : ∀ i x σ H1 T, xs[i]? = some x → Pv i σ H1 → H1 T = none → g (.ref T) σ (upd H1 T (.tup [.int (i : Nat), x])) fun σ2 H2 => tb { D with nx := Pv (i + 1), ct := Pv (i + 1), bk := D.nx } σ2 H2) (hd : ∀ σ H, Pv xs.length σ H → D.nx σ H) :
    (SqL K H a xs ∧ (fun J H1 => ∃ W : Nat → Nat → St → Hp → Prop, (∃ m, W 0 m σ H1) ∧ ∀ i m σ H, W i m σ H →
      (J.stop i H ∧ D.nx σ H) ∨ (J.go i H ∧ ∃ N : St → Hp → Prop, (∀ σ' H', N σ' H' → ∃ m', m' < m ∧ W (i + 1) m' σ' H') ∧ ∀ x H', J.yld i H x H' → g x σ H' fun σ2 H2 => tb { D with nx := N, ct := N, bk := D.nx } σ2 H2)) (Ite K a) H) ∨
    (SqT K H a xs ∧ (fun J H1 => ∃ W : Nat → Nat → St → Hp → Prop, (∃ m, W 0 m σ H1) ∧ ∀ i m σ H, W i m σ H →
      (J.stop i H ∧ D.nx σ H) ∨ (J.go i H ∧ ∃ N : St → Hp → Prop, (∀ σ' H', N σ' H' → ∃ m', m' < m ∧ W (i + 1) m' σ' H') ∧ ∀ x H', J.yld i H x H' → g x σ H' fun σ2 H2 => tb { D with nx := N, ct := N, bk := D.nx } σ2 H2)) (IteT K a) H) := by
  rcases hq with h | h
  · refine .inl ⟨h, fun i m σ H' => m = xs.length - i ∧ i ≤ xs.length ∧ Pv i σ H', ⟨xs.length, by simp, Nat.zero_le _, h0⟩, ?_⟩
    rintro i m σ H1 ⟨rfl, hi, p⟩
    have q : SqL K H1 a xs := (hl i σ H1 hi p).seq h
    by_cases hlt : i < xs.length
    · refine .inr ⟨⟨xs, xs[i], q, by simp [hlt]⟩, Pv (i + 1), fun σ' H' p' => ⟨xs.length - (i + 1), by omega, rfl, hlt, p'⟩, fun x H' ⟨T, y, ex, hT, eH, hy⟩ => ?_⟩
      subst ex eH
      exact hs i y σ H1 T (hy xs q) p hT
    · obtain rfl : i = xs.length := by omega
      exact .inl ⟨⟨xs, q, Nat.le_refl _⟩, hd σ H1 p⟩
  · refine .inr ⟨h, fun i m σ H' => m = xs.length - i ∧ i ≤ xs.length ∧ Pv i σ H', ⟨xs.length, by simp, Nat.zero_le _, h0⟩, ?_⟩
    rintro i m σ H1 ⟨rfl, hi, p⟩
    have q : SqT K H1 a xs := sqT_same (hl i σ H1 hi p) h
    by_cases hlt : i < xs.length
    · refine .inr ⟨⟨xs, xs[i], q, by simp [hlt]⟩, Pv (i + 1), fun σ' H' p' => ⟨xs.length - (i + 1), by omega, rfl, hlt, p'⟩, fun x H' ⟨T, y, ex, hT, eH, hy⟩ => ?_⟩
      subst ex eH
      exact hs i y σ H1 T (hy xs q) p hT
    · obtain rfl : i = xs.length := by omega
      exact .inl ⟨⟨xs, q, Nat.le_refl _⟩, hd σ H1 p⟩
end Mw
namespace Mw
open PySem L2
theorem passes_tk {X : Cx} {E : XK} (tk : Takes X (fun cls d _ H => E cls d H)) : Passes (L2.CX X.prog X.w) X E := fun _ _ _ _ e s' I c => tk e s' (XE.of_call I (fun _ _ _ h => h) c)
/-- an error class and its __init__, where they stand -/
def XDef (K : PySem.W.Frag) (mg : Str → Option Value) (x qual : Str) (C : Addr) (st : Stmt) (ps : List Str) : Prop :=
  mg x = some (.ref C) ∧ ExM K C ∧ ∃ (fI : Addr) (fd : FuncData), PySem.W.findIn K (.ref C) "__init__" = some (some (.ref fI)) ∧ PySem.W.typeIn K (.ref fI) = some (.type "function") ∧ Fun K "__init__" qual st fI fd ∧ Binds K fd ps []
theorem XDef.ok {P : Program} {w : World} {K : PySem.W.Frag} {mg : Str → Option Value} {base : Heap} {x qual : Str} {C : Addr} {st : Stmt} {N ps : List Str} {sp : Sp} (D : XDef K mg x qual C st ps) (S : FnScope N ps (defScope st)) (len : ∀ vs H Q E, sp vs H Q E → vs.length = ps.length)
    (hbody : ∀ (f : Addr) (cdv : Value) (A : Around) (outer : List Env) (s : Shared) (H : Hp) (vs : List V) (Q : VK) (E : XK), Room 0 (A.deeper (PyProof.Rows.envOfC qual (defScope st) s.heap.objs.size f cdv)) → sp vs H Q E →
      ∃ t, PSs (cxOf CX0 P w K mg base N qual (defScope st) f cdv A outer s H E).nox (defBody st) t ∧ t { nx := fun _ H' => Q .non H', rt := Q } (start N vs) H) : ExC P w K mg base x C ps sp := by
  obtain ⟨g, T, fI, fd, iC, tI, F, b⟩ := D
  exact ⟨g, T, fI, fd, iC, tI, F.ok S len (hbody fI), b⟩
/-- a class with its own __init__, where they stand -/
def CDef (K : PySem.W.Frag) (mg : Str → Option Value) (x qual : Str) (C : Addr) (st : Stmt) (ps : List Str) : Prop :=
  mg x = some (.ref C) ∧ Cls K C ∧ ∃ (fI : Addr) (fd : FuncData), Mk K C fI ∧ Fun K "__init__" qual st fI fd ∧ Binds K fd ps []
/-- .. by what its making promises -/
def CCal (P : Program) (w : World) (K : PySem.W.Frag) (mg : Str → Option Value) (base : Heap) (CX : CXT) (x : Str) (C : Addr) (k : Nat) (ps : List Str) (sp : Sp) : Prop :=
  mg x = some (.ref C) ∧ Cls K C ∧ ∃ (fI : Addr) (fd : FuncData), Mk K C fI ∧ FnOk P w K mg base CX k fI fd ps sp ∧ Binds K fd ps []
theorem CDef.okX {P : Program} {w : World} {K : PySem.W.Frag} {mg : Str → Option Value} {base : Heap} {x qual : Str} {C : Addr} {st : Stmt} {N ps : List Str} {sp : Sp} {k : Nat} (D : CDef K mg x qual C st ps) (S : FnScope N ps (defScope st)) (len : ∀ vs H Q E, sp vs H Q E → vs.length = ps.length)
    (hbody : ∀ (f : Addr) (cdv : Value) (A : Around) (outer : List Env) (s : Shared) (H : Hp) (vs : List V) (Q : VK) (E : XK), Room k (A.deeper (PyProof.Rows.envOfC qual (defScope st) s.heap.objs.size f cdv)) → sp vs H Q E →
      ∃ t, PSs (cxOf (L2.CX P w) P w K mg base N qual (defScope st) f cdv A outer s H E) (defBody st) t ∧ t { nx := fun _ H' => Q .non H', rt := Q } (start N vs) H) : CCal P w K mg base (L2.CX P w) x C (k + 1) ps sp := by
  obtain ⟨g, c, fI, fd, M, F, b⟩ := D
  exact ⟨g, c, fI, fd, M, F.okX S len (hbody fI), b⟩
/-- C(e, ..), errors of its __init__ let through -/
theorem pe_new {X : Cx} {x : Str} {C : Addr} {ps : List Str} {sp : Sp} {E : XK} {e : Expr} {es : List Expr} {ta : TA} {p pos : Pos} {k : Nat} (c : CCal X.prog X.w X.K X.mg X.base (L2.CX X.prog X.w) x C k ps sp) (hr : Room (k + 1) X.A) (hx : Passes (L2.CX X.prog X.w) X E) (ha : PA X (e :: es) ta) (hg : Gl X x := by rfl)
    (hdb : (x == ("__debug__" : Str)) = false := by decide) (he : starEach (e :: es) X.env = (false, eval e X.env) :: starEach es X.env := by rfl) (hpl : (backTo pos (starEach es X.env)).any (·.1) = false := by rfl) :
    PE X (.Call (.Name x p) (e :: es) [] pos) (tMake C sp [] E ta) := by
  obtain ⟨g, cl, fI, fd, M, F, b⟩ := c
  exact pe_make M F hr hg g b .nil hx ha hdb he hpl
/-! ### World's own checks, as functions of data -/
def dNone : PyData → Bool
  | .none => true
  | _ => false
def dMoves (d : PyData) (k n : Int) : Bool := dRow d k k && dAll (fun e => dNone e || dNum e n) d
def dLen (d : PyData) : Int := (((dItems d).getD []).length : Nat)
def errStates (d : PyData) (f : Int) : Flt := if dRow d 1 16 = true then (firstBad (fun e => dFacts e f) ((dItems d).getD [])).bind fun i => fState (i : Nat) else fValue 2
def errMoves (d : PyData) (n : Int) : Flt := if dRow d n n = true then (if dRow (dAt d 0) 1 5 = true then (firstBad (fun e => dMoves e (dLen (dAt d 0)) n) ((dItems d).getD [])).bind fun i => fState (i : Nat) else fState 0) else fValue 3
def errWorld (df ds dm : PyData) : Flt := if dBtw df 0 4 = true then (match errStates ds (dVal df) with | some e => some e | none => errMoves dm (dLen ds)) else fValue 1
/-- a World at a -/
def WorldAt (K : PySem.W.Frag) (C : Addr) (a : Addr) (f : Int) (ds dm : PyData) (H : Hp) : Prop := ∃ dx ys ym, H a = some (.ins C dx [("_facts", .int f), ("_states", ys), ("_moves", ym)]) ∧ Dp K H ys ds ∧ Dp K H ym dm
theorem WorldAt.same {K : PySem.W.Frag} {C a : Addr} {f : Int} {ds dm : PyData} {H H' : Hp} (h : WorldAt K C a f ds dm H) (s : Same H H') : WorldAt K C a f ds dm H' := by
  obtain ⟨dx, ys, ym, e, h1, h2⟩ := h
  exact ⟨dx, ys, ym, s _ _ e, dp_same s h1, dp_same s h2⟩
def spNeedStates (K : PySem.W.Frag) (cs : Nat → Addr) : Sp := fun vs H Q E => ∃ (x : V) (d : PyData) (n : Nat) (f : Int), vs = [x, .int f] ∧ Dp K H x d ∧ Wf n d ∧ Ends1 cs (errStates d f) H (fun H' => Q .non H') E
def spNeedMoves (K : PySem.W.Frag) (cs : Nat → Addr) : Sp := fun vs H Q E => ∃ (x : V) (d : PyData) (n : Nat) (m : Int), vs = [x, .int m] ∧ Dp K H x d ∧ Wf n d ∧ 1 ≤ m ∧ Ends1 cs (errMoves d m) H (fun H' => Q .non H') E
/-- World(facts, states, moves) at the new instance a -/
def spWorldInit (K : PySem.W.Frag) (C : Addr) (cs : Nat → Addr) (n : Nat) : Sp := fun vs H Q E => ∃ (a dx : Addr) (xf xs xm : V) (df ds dm : PyData), vs = [.ref a, xf, xs, xm] ∧ H a = some (.ins C dx []) ∧ Dp K H xf df ∧ Dp K H xs ds ∧ Dp K H xm dm ∧ Wf n df ∧ Wf n ds ∧ Wf n dm ∧
  (match errWorld df ds dm with
   | none => ∀ H', (∀ b o, b ≠ a → H b = some o → H' b = some o) → WorldAt K C a (dVal df) (dPlain ds) (dPlain dm) H' → Q .non H'
   | some (c, fs) => ∀ d H', Same H H' → H d = none → H' d = some (.xd fs) → E (.ref (cs c)) (some d) H')
end Mw
namespace Mw
open PySem L2
/-- all but instances is as it was -/
def SameS (H H' : Hp) : Prop := ∀ b o, (∀ C dx fs, o ≠ HO.ins C dx fs) → H b = some o → H' b = some o
theorem SameS.put {H : Hp} {a C dx : Addr} {fs fs' : List (Str × V)} (h : H a = some (.ins C dx fs)) : SameS H (upd H a (.ins C dx fs')) := fun b o n e => by
  have nb : b ≠ a := fun q => by rw [q, h] at e; exact n C dx fs (Option.some.inj e).symm
  rw [upd_ne nb]; exact e
mutual
theorem dp_keep {K : PySem.W.Frag} {H H' : Hp} (e : SameS H H') : ∀ {d : PyData} {v : V}, Dp K H v d → Dp K H' v d
  | _, _, .non => .non
  | _, _, .bl b => .bl b
  | _, _, .int i => .int i
  | _, _, .str x => .str x
  | _, _, .lst h t => by
    refine .lst ?_ (dpAll_keep e t)
    rcases h with (h | ⟨o, h⟩) | h
    · exact .inl (.inl (e _ _ (fun _ _ _ z => nomatch z) h))
    · exact .inl (.inr ⟨o, e _ _ (fun _ _ _ z => nomatch z) h⟩)
    · exact .inr h
  | _, _, .tup h t => by
    refine .tup ?_ (dpAll_keep e t)
    rcases h with (h | ⟨o, h⟩) | h
    · exact .inl (.inl (e _ _ (fun _ _ _ z => nomatch z) h))
    · exact .inl (.inr ⟨o, e _ _ (fun _ _ _ z => nomatch z) h⟩)
    · exact .inr h
theorem dpAll_keep {K : PySem.W.Frag} {H H' : Hp} (e : SameS H H') : ∀ {ds : List PyData} {vs : List V}, DpAll K H vs ds → DpAll K H' vs ds
  | _, _, .nil => .nil
  | _, _, .cons h t => .cons (dp_keep e h) (dpAll_keep e t)
end
/-- all but a is as it was -/
def But (a : Addr) (H H' : Hp) : Prop := ∀ b o, b ≠ a → H b = some o → H' b = some o
theorem But.same {a : Addr} {H H1 H' : Hp} (h : But a H H1) (s : Same H1 H') : But a H H' := fun b o n e => s _ _ (h b o n e)
theorem But.put {a : Addr} {H H1 : Hp} {o : HO} (h : But a H H1) : But a H (upd H1 a o) := fun b u n e => by rw [upd_ne n]; exact h b u n e
theorem Same.but {a : Addr} {H H1 : Hp} (s : Same H H1) : But a H H1 := fun b o _ e => s b o e
end Mw
set_option Elab.async false
set_option linter.all false
set_option maxRecDepth 100000
set_option maxHeartbeats 2000000
/-! Comprehensions with any target; worlds of facts as functions of data. -/
namespace Mw
open PySem L2
theorem tyes_if {σ2 : St} {H2 : Hp} {A : Prop} {B : Hp → Prop} {C : Hp → Prop} : (A ∧ tYes σ2 H2 fun b H3 => if b = true then B H3 else C H3) = (A ∧ B H2) := by
  show (A ∧ (if true = true then B H2 else C H2)) = (A ∧ B H2)
  rw [if_pos rfl]
/-- [e for target in value], the target of any form -/
theorem lc_dpG {K : PySem.W.Frag} {a : Addr} {xs : List V} {ds : List PyData} (F : Nat → PyData → PyData) {g : TG} {tl te : TE} {vs : List Nat} {σ : St} {H1 : Hp} {Q : VK} (ht : ∀ R, R (.ref a) H1 → tl σ H1 R) (hq : Seq K H1 a xs) (hd : DpAll K H1 xs ds) (hz : ds.length ≤ 1000) (hF : ∀ i d, ds[i]? = some d → ∃ n, Td n (F i d))
    (turn : ∀ (i : Nat) (x : V) (d : PyData) (H : Hp) (Qe : VK), ds[i]? = some d → xs[i]? = some x → Same H1 H → Dp K H x d → (∀ y H', Same H H' → Dp K H' y (F i d) → Qe y H') → g x (wipe σ vs) H fun σ2 H2 => wipe σ2 vs = wipe σ vs ∧ te σ2 H2 Qe)
    (hQ : ∀ D acc H', H1 D = none → Same H1 H' → H' D = some (.lst acc) → DpAll K H' acc (ds.mapIdx F) → Q (.ref D) H') :
    tLc (iSeq K tl) g tYes te vs σ H1 Q := by
  have el := dpAll_len hd
  have key : ∀ D, H1 D = none → ∀ i x H, xs[i]? = some x → (∃ acc, H D = some (.lst acc) ∧ Same H1 H ∧ DpAll K H acc ((ds.take i).mapIdx F)) → g x (wipe σ vs) H fun σ2 H2 => wipe σ2 vs = wipe σ vs ∧ tYes σ2 H2 fun b H3 =>
      if b = true then te σ2 H3 fun y H4 => ∃ acc, H4 D = some (.lst acc) ∧ acc.length < sizeLine ∧ (∃ acc', (upd H4 D (.lst (acc ++ [y]))) D = some (.lst acc') ∧ Same H1 (upd H4 D (.lst (acc ++ [y]))) ∧ DpAll K (upd H4 D (.lst (acc ++ [y]))) acc' ((ds.take (i + 1)).mapIdx F))
      else ∃ acc, H3 D = some (.lst acc) ∧ Same H1 H3 ∧ DpAll K H3 acc ((ds.take (i + 1)).mapIdx F) := by
    rintro D hD i x H hx ⟨acc, hacc, hs, hda⟩
    have hi : i < ds.length := by rw [← el]; exact (List.getElem?_eq_some_iff.mp hx).1
    have hdi : ds[i]? = some ds[i] := by simp [hi]
    obtain ⟨v, hv, hvd⟩ := dpAll_get hd hdi
    rw [hx] at hv
    obtain rfl := Option.some.inj hv
    simp only [tyes_if]
    refine turn i x ds[i] H _ hdi hx hs (dp_same hs hvd) fun y H' hs' hy => ?_
    have hl9 : acc.length = i := by
      have := dpAll_len hda
      rw [List.length_mapIdx, List.length_take] at this; omega
    have sD : Same H1 (upd H' D (.lst (acc ++ [y]))) := fun b o e => by rw [upd_ne (ne_of_none e hD)]; exact hs' _ _ (hs _ _ e)
    refine ⟨acc, hs' _ _ hacc, by rw [hl9]; exact Nat.lt_of_le_of_lt (by omega : i ≤ 1000) (by decide), acc ++ [y], upd_same, sD, ?_⟩
    have em : (ds.take (i + 1)).mapIdx F = (ds.take i).mapIdx F ++ [F i ds[i]] := by
      rw [take_succ_of hdi, List.mapIdx_append]
      have : (ds.take i).length = i := by rw [List.length_take]; omega
      simp [this]
    rw [em]
    refine dpAll_append (dpAll_put (fun e he => ?_) (hs' _ _ hacc) (dpAll_same hs' hda)) (dpAll_put (fun e he => ?_) (hs' _ _ hacc) (dpAll_one hy))
    · obtain ⟨j, hj, rfl⟩ := List.mem_mapIdx.mp he
      have hj2 : j < ds.length := by rw [List.length_take] at hj; omega
      have e9 : (ds.take i)[j] = ds[j] := by simp
      rw [e9]
      exact hF j ds[j] (by simp [hj2])
    · obtain rfl := List.mem_singleton.mp he
      exact hF i _ hdi
  have h0 : ∀ D, H1 D = none → ∃ acc, upd H1 D (.lst []) D = some (.lst acc) ∧ Same H1 (upd H1 D (.lst [])) ∧ DpAll K (upd H1 D (.lst [])) acc ((ds.take 0).mapIdx F) := fun D hD => ⟨[], upd_same, Same.new hD, .nil⟩
  have hfin : ∀ D, H1 D = none → ∀ H, (∃ acc, H D = some (.lst acc) ∧ Same H1 H ∧ DpAll K H acc ((ds.take xs.length).mapIdx F)) → Q (.ref D) H := fun D hD H ⟨acc, ha, hs, hda⟩ => by
    rw [el, List.take_length] at hda
    exact hQ D acc H hD hs ha hda
  refine ht _ ⟨a, xs, rfl, ?_⟩
  rcases hq with h | h
  · exact .inl ⟨h, fun D hD => lc_list (K := K) (a := a) (xs := xs) (fun i H => ∃ acc, H D = some (.lst acc) ∧ Same H1 H ∧ DpAll K H acc ((ds.take i).mapIdx F)) (h0 D hD) (fun i H _ ⟨_, _, s, _⟩ => s.seq h) (fun i x H hx p => key D hD i x H hx p) (hfin D hD)⟩
  · exact .inr ⟨h, fun D hD => lc_tup (K := K) (a := a) (xs := xs) (fun i H => ∃ acc, H D = some (.lst acc) ∧ Same H1 H ∧ DpAll K H acc ((ds.take i).mapIdx F)) (h0 D hD) (fun i H _ ⟨_, _, s, _⟩ => sqT_same s h) (fun i x H hx p => key D hD i x H hx p) (hfin D hD)⟩
/-- [e for i, x in enumerate(value)] -/
theorem lc_enum {K : PySem.W.Frag} {a : Addr} {xs : List V} {ds : List PyData} (F : Nat → PyData → PyData) {g : TG} {ta : TA} {te : TE} {vs : List Nat} {σ : St} {H1 : Hp} {Q : VK} (ht : ∀ R, R [.ref a] H1 → ta σ H1 R) (hq : Seq K H1 a xs) (hd : DpAll K H1 xs ds) (hz : ds.length ≤ 1000) (hF : ∀ i d, ds[i]? = some d → ∃ n, Td n (F i d))
    (turn : ∀ (i : Nat) (x : V) (d : PyData) (T : Addr) (H : Hp) (Qe : VK), ds[i]? = some d → Same H1 H → H T = some (.tup [.int (i : Nat), x]) → Dp K H x d → (∀ y H', Same H H' → Dp K H' y (F i d) → Qe y H') → g (.ref T) (wipe σ vs) H fun σ2 H2 => wipe σ2 vs = wipe σ vs ∧ te σ2 H2 Qe)
    (hQ : ∀ D acc H', H1 D = none → Same H1 H' → H' D = some (.lst acc) → DpAll K H' acc (ds.mapIdx F) → Q (.ref D) H') :
    tLc (iEnumS K ta) g tYes te vs σ H1 Q := by
  have el := dpAll_len hd
  have key : ∀ D, H1 D = none → ∀ i x H T, xs[i]? = some x → H T = none → (∃ acc, H D = some (.lst acc) ∧ Same H1 H ∧ DpAll K H acc ((ds.take i).mapIdx F)) → g (.ref T) (wipe σ vs) (upd H T (.tup [.int (i : Nat), x])) fun σ2 H2 => wipe σ2 vs = wipe σ vs ∧ tYes σ2 H2 fun b H3 =>
      if b = true then te σ2 H3 fun y H4 => ∃ acc, H4 D = some (.lst acc) ∧ acc.length < sizeLine ∧ (∃ acc', (upd H4 D (.lst (acc ++ [y]))) D = some (.lst acc') ∧ Same H1 (upd H4 D (.lst (acc ++ [y]))) ∧ DpAll K (upd H4 D (.lst (acc ++ [y]))) acc' ((ds.take (i + 1)).mapIdx F))
      else ∃ acc, H3 D = some (.lst acc) ∧ Same H1 H3 ∧ DpAll K H3 acc ((ds.take (i + 1)).mapIdx F) := by
    rintro D hD i x H T hx hT ⟨acc, hacc, hs, hda⟩
    have hi : i < ds.length := by rw [← el]; exact (List.getElem?_eq_some_iff.mp hx).1
    have hdi : ds[i]? = some ds[i] := by simp [hi]
    obtain ⟨v, hv, hvd⟩ := dpAll_get hd hdi
    rw [hx] at hv
    obtain rfl := Option.some.inj hv
    simp only [tyes_if]
    have sT : Same H (upd H T (.tup [.int (i : Nat), x])) := Same.new hT
    refine turn i x ds[i] T _ _ hdi (hs.trans sT) upd_same (dp_same (hs.trans sT) hvd) fun y H' hs' hy => ?_
    have hs2 := sT.trans hs'
    have hl9 : acc.length = i := by
      have := dpAll_len hda
      rw [List.length_mapIdx, List.length_take] at this; omega
    have sD : Same H1 (upd H' D (.lst (acc ++ [y]))) := fun b o e => by rw [upd_ne (ne_of_none e hD)]; exact hs2 _ _ (hs _ _ e)
    refine ⟨acc, hs2 _ _ hacc, by rw [hl9]; exact Nat.lt_of_le_of_lt (by omega : i ≤ 1000) (by decide), acc ++ [y], upd_same, sD, ?_⟩
    have em : (ds.take (i + 1)).mapIdx F = (ds.take i).mapIdx F ++ [F i ds[i]] := by
      rw [take_succ_of hdi, List.mapIdx_append]
      have : (ds.take i).length = i := by rw [List.length_take]; omega
      simp [this]
    rw [em]
    refine dpAll_append (dpAll_put (fun e he => ?_) (hs2 _ _ hacc) (dpAll_same hs2 hda)) (dpAll_put (fun e he => ?_) (hs2 _ _ hacc) (dpAll_one hy))
    · obtain ⟨j, hj, rfl⟩ := List.mem_mapIdx.mp he
      have hj2 : j < ds.length := by rw [List.length_take] at hj; omega
      have e9 : (ds.take i)[j] = ds[j] := by simp
      rw [e9]
      exact hF j ds[j] (by simp [hj2])
    · obtain rfl := List.mem_singleton.mp he
      exact hF i _ hdi
  have h0 : ∀ D, H1 D = none → ∃ acc, upd H1 D (.lst []) D = some (.lst acc) ∧ Same H1 (upd H1 D (.lst [])) ∧ DpAll K (upd H1 D (.lst [])) acc ((ds.take 0).mapIdx F) := fun D hD => ⟨[], upd_same, Same.new hD, .nil⟩
  have hfin : ∀ D, H1 D = none → ∀ H, (∃ acc, H D = some (.lst acc) ∧ Same H1 H ∧ DpAll K H acc ((ds.take xs.length).mapIdx F)) → Q (.ref D) H := fun D hD H ⟨acc, ha, hs, hda⟩ => by
    rw [el, List.take_length] at hda
    exact hQ D acc H hD hs ha hda
  have step : ∀ (D : Addr) (hD : H1 D = none) (J : It) (rd : Hp → Prop), (∀ H, Same H1 H → rd H) → (∀ i H, rd H → i < xs.length → J.go i H) → (∀ i H, rd H → xs.length ≤ i → J.stop i H) →
      (∀ i H v H', rd H → i < xs.length → J.yld i H v H' → ∃ T x, v = .ref T ∧ H T = none ∧ H' = upd H T (.tup [.int (i : Nat), x]) ∧ xs[i]? = some x) →
      ∃ W : Nat → Nat → Hp → Prop, (∃ m, W 0 m (upd H1 D (.lst []))) ∧ ∀ i m H, W i m H → (J.stop i H ∧ Q (.ref D) H) ∨ (J.go i H ∧ ∃ Nx : Hp → Prop, (∀ H', Nx H' → ∃ m', m' < m ∧ W (i + 1) m' H') ∧ ∀ x H', J.yld i H x H' → g x (wipe σ vs) H' fun σ2 H2 => wipe σ2 vs = wipe σ vs ∧ tYes σ2 H2 fun b H3 =>
        if b = true then te σ2 H3 fun y H4 => ∃ acc, H4 D = some (.lst acc) ∧ acc.length < sizeLine ∧ Nx (upd H4 D (.lst (acc ++ [y]))) else Nx H3) := by
    intro D hD J rd hrd hgo hstop hyld
    refine ⟨fun i m H => m = xs.length - i ∧ i ≤ xs.length ∧ ∃ acc, H D = some (.lst acc) ∧ Same H1 H ∧ DpAll K H acc ((ds.take i).mapIdx F), ⟨xs.length, by simp, Nat.zero_le _, h0 D hD⟩, ?_⟩
    rintro i m H ⟨rfl, hi, p⟩
    have r := hrd H (by obtain ⟨_, _, s, _⟩ := p; exact s)
    by_cases hlt : i < xs.length
    · refine .inr ⟨hgo i H r hlt, fun H' => ∃ acc, H' D = some (.lst acc) ∧ Same H1 H' ∧ DpAll K H' acc ((ds.take (i + 1)).mapIdx F), fun H' p' => ⟨xs.length - (i + 1), by omega, rfl, hlt, p'⟩, fun v H' y => ?_⟩
      obtain ⟨T, x, rfl, hT, rfl, hx⟩ := hyld i H v H' r hlt y
      exact key D hD i x H T hx hT p
    · obtain rfl : i = xs.length := by omega
      exact .inl ⟨hstop _ H r (Nat.le_refl _), hfin D hD H p⟩
  refine ht _ ⟨a, xs, rfl, ?_⟩
  rcases hq with h | h
  · refine .inl ⟨h, fun D hD => step D hD (Ite K a) (fun H => SqL K H a xs) (fun H s => s.seq h) (fun i H q hi => ⟨xs, xs[i], q, by simp [hi]⟩) (fun i H q hi => ⟨xs, q, hi⟩) (fun i H v H' q hi y => ?_)⟩
    obtain ⟨T, x, e1, e2, e3, e4⟩ := y
    exact ⟨T, x, e1, e2, e3, e4 xs q⟩
  · refine .inr ⟨h, fun D hD => step D hD (IteT K a) (fun H => SqT K H a xs) (fun H s => sqT_same s h) (fun i H q hi => ⟨xs, xs[i], q, by simp [hi]⟩) (fun i H q hi => ⟨xs, q, hi⟩) (fun i H v H' q hi y => ?_)⟩
    obtain ⟨T, x, e1, e2, e3, e4⟩ := y
    exact ⟨T, x, e1, e2, e3, e4 xs q⟩
theorem mapIdx_const {α β : Type} (F : α → β) (l : List α) : l.mapIdx (fun _ e => F e) = l.map F := by
  apply List.ext_getElem?
  intro i
  simp
/-! ### worlds of facts -/
def dB : PyData → Bool
  | .bool b => b
  | _ => false
/-- whether a condition holds among the facts -/
def dHolds (c : PyData) (bs : List Bool) : Bool := ((dItems c).getD []).all fun e => bs.getD (dVal (dAt e 0)).toNat false == dB (dAt e 1)
/-- whether a number is among data -/
def dHas (d : PyData) (j : Int) : Bool := ((dItems d).getD []).any fun e => dVal e == j
def dRule (d : PyData) (n : Int) : Bool := dRow d 3 3 && (dCond (dAt d 0) n && (dAscNums (dAt d 1) n && (dAscNums (dAt d 2) n && !(((dItems (dAt d 1)).getD []).any fun e => dHas (dAt d 2) (dVal e)))))
/-- the facts behind a deed -/
def chg (r : PyData) (bs : List Bool) : List Bool := bs.mapIdx fun j b => dHas (dAt r 1) j || (b && !dHas (dAt r 2) j)
def statesL (f : Nat) : List (List Bool) := (List.range (2 ^ f)).map fun k => (List.range f).map fun j => k.testBit j
def bitsD (bs : List Bool) : List PyData := bs.map PyData.bool
def fwMove (f : Nat) (r : PyData) (bs : List Bool) : PyData := if dHolds (dAt r 0) bs = true then .int ((statesL f).idxOf (chg r bs) : Nat) else .none
def fwS (f : Nat) : PyData := .tuple ((statesL f).map fun bs => .tuple (bitsD bs))
def fwM (f : Nat) (dd : PyData) : PyData := .tuple ((statesL f).map fun bs => .tuple (((dItems dd).getD []).map fun r => fwMove f r bs))
def errFw (df dd : PyData) : Flt := if dBtw df 0 4 = true then (if (dRow dd 1 5 && dAll (fun r => dRule r (dVal df)) dd) = true then none else fValue 2) else fValue 1
/-- holds(condition, facts) -/
def spHolds (K : PySem.W.Frag) : Sp := fun vs H Q _ => ∃ (x : V) (c : PyData) (n : Nat) (a : Addr) (bs : List Bool), vs = [x, .ref a] ∧ Dp K H x c ∧ Wf n c ∧ Seq K H a (bs.map V.bl) ∧ dCond c bs.length = true ∧ ∀ H', Same H H' → Q (.bl (dHolds c bs)) H'
/-- changed(held, rule): a new list -/
def spChanged (K : PySem.W.Frag) : Sp := fun vs H Q _ => ∃ (x : V) (r : PyData) (n : Nat) (a : Addr) (bs : List Bool), vs = [.ref a, x] ∧ Dp K H x r ∧ Wf n r ∧ Seq K H a (bs.map V.bl) ∧ bs.length ≤ 1000 ∧ dRule r bs.length = true ∧ ∀ p H', Same H H' → H' p = some (.lst ((chg r bs).map V.bl)) → Q (.ref p) H'
end Mw
set_option Elab.async false
set_option linter.all false
set_option maxRecDepth 100000
set_option maxHeartbeats 1000000
/-! Lists of new lists; the states of a world of facts. -/
namespace Mw
open PySem L2
/-- [[..] for i in range(n)]: each element a new list -/
theorem lc_rngL (n : Nat) (F : Nat → List V) {i0 : Nat} {j : Int} {ta : TA} {te : TE} {vs : List Nat} {σ : St} {H1 : Hp} {Q : VK} (ht : ∀ R, R [.int j] H1 → ta σ H1 R) (hj : j.toNat = n) (hj0 : -1000 ≤ j) (hz : n ≤ 1000)
    (hw : ∀ x : V, wipe ((wipe σ vs).set i0 (some x)) vs = wipe σ vs)
    (turn : ∀ (i : Nat) (H : Hp) (Qe : VK), i < n → Same H1 H → (∀ p H', Same H H' → H p = none → H' p = some (.lst (F i)) → Qe (.ref p) H') → te ((wipe σ vs).set i0 (some (.int (0 + (i : Int))))) H Qe)
    (hQ : ∀ D (ps : List Addr) H', H1 D = none → Same H1 H' → H' D = some (.lst (ps.map V.ref)) → ps.length = n → (∀ i p, ps[i]? = some p → H' p = some (.lst (F i)) ∧ H1 p = none) → Q (.ref D) H') :
    tLc (iRng1 ta) (gName i0) tYes te vs σ H1 Q := by
  refine ht _ ⟨j, rfl, ?_, ?_, ?_⟩
  · have e62 : (2 : Int) ^ 62 = 4611686018427387904 := by decide
    omega
  · have e62 : (2 : Int) ^ 62 = 4611686018427387904 := by decide
    omega
  rw [hj]
  intro D hD
  refine lc_range (lo := 0) (n := n) (fun i H => ∃ ps : List Addr, H D = some (.lst (ps.map V.ref)) ∧ Same H1 H ∧ ps.length = i ∧ ∀ k p, ps[k]? = some p → H p = some (.lst (F k)) ∧ p ≠ D ∧ H1 p = none) ⟨[], upd_same, Same.new hD, rfl, fun k p h => by simp at h⟩ ?_ (fun H ⟨ps, ha, hs, hl, hp⟩ => hQ D ps H hD hs ha hl fun i p h => ⟨(hp i p h).1, (hp i p h).2.2⟩)
  rintro i H hi ⟨ps, hacc, hs, hl, hp⟩
  refine ⟨hw _, ?_⟩
  dsimp only [tYes]
  rw [if_pos rfl]
  refine turn i H _ hi hs fun q H' hs' hn hy => ?_
  have qD : q ≠ D := fun e => by rw [e, hacc] at hn; cases hn
  refine ⟨ps.map V.ref, hs' _ _ hacc, by rw [List.length_map, hl]; exact Nat.lt_of_le_of_lt (by omega : i ≤ 1000) (by decide), ps ++ [q], by rw [upd_same, List.map_append]; rfl, fun b o e => by rw [upd_ne (ne_of_none e hD)]; exact hs' _ _ (hs _ _ e), by rw [List.length_append, hl]; rfl, fun k p h => ?_⟩
  by_cases hk : k < ps.length
  · rw [List.getElem?_append_left hk] at h
    obtain ⟨h1, h2, h3⟩ := hp k p h
    exact ⟨by rw [upd_ne h2]; exact hs' _ _ h1, h2, h3⟩
  · have hk2 : k = ps.length := by
      have := (List.getElem?_eq_some_iff.mp h).1
      rw [List.length_append] at this
      simp at this; omega
    subst hk2
    rw [List.getElem?_append_right (Nat.le_refl _)] at h
    simp at h
    subst h
    rw [hl]
    exact ⟨by rw [upd_ne qD]; exact hy, qD, hs.free hn⟩
theorem tseq {t u : TS} {D : Ends} {σ : St} {H : Hp} (h : t { D with nx := u D } σ H) : tSeq t u D σ H := h
theorem tasg {te : TE} {g : TG} {D : Ends} {σ : St} {H : Hp} (h : te σ H fun x H1 => g x σ H1 D.nx) : tAsg te g D σ H := h
theorem tcons1 {te : TE} {σ : St} {H : Hp} {Q : List V → Hp → Prop} (h : te σ H fun x H' => Q [x] H') : tCons te tNil σ H Q := h
theorem idxOf_le9 : ∀ {l : List (List Bool)} {m : Nat} {x : List Bool}, l[m]? = some x → l.idxOf x ≤ m
  | [], _, _, h => by simp at h
  | a :: l, 0, x, h => by
    simp at h
    subst h
    simp [List.idxOf_cons]
  | a :: l, m + 1, x, h => by
    have ih := idxOf_le9 (l := l) (m := m) (x := x) (by simpa using h)
    rw [List.idxOf_cons]
    cases q : (a == x) with
    | true => exact Nat.zero_le _
    | false => exact Nat.succ_le_succ ih
theorem states_all : ∀ f : Nat, f ≤ 4 → ∀ c : List Bool, c.length = f → c ∈ statesL f := by
  intro f hf c hc
  rcases c with _ | ⟨a, _ | ⟨b, _ | ⟨d, _ | ⟨e, _ | ⟨g, t⟩⟩⟩⟩⟩
  · subst hc; decide
  · subst hc; cases a <;> decide
  · subst hc; cases a <;> cases b <;> decide
  · subst hc; cases a <;> cases b <;> cases d <;> decide
  · subst hc; cases a <;> cases b <;> cases d <;> cases e <;> decide
  · exfalso; simp only [List.length_cons] at hc; omega
theorem canLay_bits : ∀ bs : List Bool, PyData.canLayAll0 (bitsD bs) = true
  | [] => by simp [bitsD, PyData.canLayAll0]
  | b :: bs => by
    have ih := canLay_bits bs
    unfold bitsD at ih ⊢
    rw [List.map_cons]
    simp [PyData.canLayAll0, PyData.canLay0, ih]
theorem depth_bits : ∀ bs : List Bool, PyData.depthAll (bitsD bs) ≤ 1
  | [] => by simp [bitsD, PyData.depthAll]
  | b :: bs => by
    have ih := depth_bits bs
    unfold bitsD at ih ⊢
    rw [List.map_cons]
    simp [PyData.depthAll, PyData.depth] <;> omega
theorem eqvAll_bits : ∀ a b : List Bool, PyData.eqvAll (bitsD a) (bitsD b) = decide (a = b)
  | [], [] => rfl
  | [], _ :: _ => rfl
  | _ :: _, [] => rfl
  | x :: a, y :: b => by
    have ih := eqvAll_bits a b
    show ((x == y) && PyData.eqvAll (bitsD a) (bitsD b)) = _
    rw [ih]
    by_cases h1 : x = y <;> by_cases h2 : a = b <;> simp [h1, h2]
end Mw
set_option Elab.async false
set_option linter.all false
set_option maxRecDepth 100000
set_option maxHeartbeats 1000000
/-! Data made anew of lists and tuples; what the law draws. -/
namespace Mw
open PySem L2
/-- H' without the lists that stood in H -/
def noLst (H H' : Hp) : Hp := fun b => match H b with
  | some (.lst _) => none
  | _ => H' b
theorem noLst_some {H H' : Hp} {b : Addr} {o : HO} (h : noLst H H' b = some o) : H' b = some o ∧ ∀ l, H b ≠ some (.lst l) := by
  unfold noLst at h
  split at h
  · cases h
  · rename_i hn
    exact ⟨h, fun l e => hn l e⟩
theorem noLst_of {H H' : Hp} {b : Addr} {o : HO} (h : H' b = some o) (hn : ∀ l, H b ≠ some (.lst l)) : noLst H H' b = some o := by
  unfold noLst
  split
  · rename_i l e
    exact absurd e (hn l)
  · exact h
theorem noLst_sub {H H' : Hp} : Same (noLst H H') H' := fun _ _ e => (noLst_some e).1
/-- data that leans on no list that stood before -/
theorem dp_fresh {K : PySem.W.Frag} {H H' : Hp} {y : V} {d : PyData} (h : Dp K (noLst H H') y d) : Dp K H' y d := dp_same noLst_sub h
theorem td_fresh {K : PySem.W.Frag} {H H' : Hp} {n : Nat} {d : PyData} (t : Td n d) (s : Same H H') : ∀ {y : V}, Dp K H y d → Dp K (noLst H H') y d := by
  induction t with
  | non => intro y h; cases h; exact .non
  | bl b => intro y h; cases h; exact .bl b
  | int i => intro y h; cases h; exact .int i
  | str x => intro y h; cases h; exact .str x
  | @tup n ds z _ ih =>
    intro y h
    cases h with
    | @tup a xs _ hs ha =>
      refine .tup (xs := xs) ?_ ?_
      · rcases hs with (e | ⟨o, e⟩) | e
        · exact .inl (.inl (noLst_of (s _ _ e) fun l q => by rw [e] at q; cases q))
        · exact .inl (.inr ⟨o, noLst_of (s _ _ e) fun l q => by rw [e] at q; cases q⟩)
        · exact .inr e
      · clear hs z
        have all : ∀ (ds' : List PyData) (vs : List V), (∀ d ∈ ds', d ∈ ds) → DpAll K H vs ds' → DpAll K (noLst H H') vs ds' := by
          intro ds'
          induction ds' with
          | nil => intro vs _ h; cases h; exact .nil
          | cons e r ihr =>
            intro vs hm h
            cases h with
            | cons h1 h2 => exact .cons (ih e (hm e List.mem_cons_self) h1) (ihr _ (fun d hd => hm d (List.mem_cons_of_mem _ hd)) h2)
        exact all ds xs (fun _ h => h) ha
mutual
def dLoose : PyData → Int → PyData
  | .tuple xs, t => if t % 2 = 0 then .list (dLooses xs (t + 1)) else .tuple (dLooses xs (t + 1))
  | .list xs, _ => .list xs
  | .none, _ => .none
  | .bool b, _ => .bool b
  | .int i, _ => .int i
  | .str x, _ => .str x
  | .dict kvs, _ => .dict kvs
def dLooses : List PyData → Int → List PyData
  | [], _ => []
  | x :: xs, t => dLoose x t :: dLooses xs t
end
theorem dLooses_map : ∀ (xs : List PyData) (t : Int), dLooses xs t = xs.map fun d => dLoose d t
  | [], _ => rfl
  | x :: xs, t => by rw [List.map_cons, ← dLooses_map xs]; rfl
theorem loose_tup (ds : List PyData) (t : Int) : dLoose (.tuple ds) t = if t % 2 = 0 then .list (ds.map fun d => dLoose d (t + 1)) else .tuple (ds.map fun d => dLoose d (t + 1)) := by
  show (if t % 2 = 0 then PyData.list (dLooses ds (t + 1)) else .tuple (dLooses ds (t + 1))) = _
  rw [dLooses_map]
theorem plain_loose {n : Nat} {d : PyData} (h : Td n d) : ∀ t : Int, dPlain (dLoose d t) = d := by
  induction h with
  | non => intro t; rfl
  | bl b => intro t; rfl
  | int i => intro t; rfl
  | str x => intro t; rfl
  | @tup n ds z _ ih =>
    intro t
    have e : (ds.map fun d => dLoose d (t + 1)).map dPlain = ds := by
      rw [List.map_map]
      have : ds.map (dPlain ∘ fun d => dLoose d (t + 1)) = ds.map id := List.map_congr_left fun d hd => ih d hd (t + 1)
      rw [this, List.map_id]
    rw [loose_tup]
    split
    · show PyData.tuple (dPlains _) = _
      rw [dPlains_map, e]
    · show PyData.tuple (dPlains _) = _
      rw [dPlains_map, e]
theorem wf_loose {n : Nat} {d : PyData} (h : Td n d) : ∀ t : Int, Wf n (dLoose d t) := by
  induction h with
  | non => intro t; exact .non
  | bl b => intro t; exact .bl b
  | int i => intro t; exact .int i
  | str x => intro t; exact .str x
  | @tup n ds z _ ih =>
    intro t
    rw [loose_tup]
    split
    · exact .lst (by rw [List.length_map]; exact z) fun d hd => by obtain ⟨e, he, rfl⟩ := List.mem_map.mp hd; exact ih e he _
    · exact .tup (by rw [List.length_map]; exact z) fun d hd => by obtain ⟨e, he, rfl⟩ := List.mem_map.mp hd; exact ih e he _
def spLoose (K : PySem.W.Frag) (n : Nat) : Sp := fun vs H Q _ => ∃ (x : V) (d : PyData) (m : Nat) (t : Int), vs = [x, .int t] ∧ Dp K H x d ∧ Td m d ∧ m < n ∧ ∀ y H', Same H H' → Dp K (noLst H H') y (dLoose d t) → Q y H'
/-- [e for x in value], each element made anew -/
theorem lc_dpF {K : PySem.W.Frag} {a : Addr} {xs : List V} {ds : List PyData} (F : PyData → PyData) {i0 : Nat} {tl te : TE} {vs : List Nat} {σ : St} {H1 : Hp} {Q : VK} (ht : ∀ R, R (.ref a) H1 → tl σ H1 R) (hq : Seq K H1 a xs) (hd : DpAll K H1 xs ds) (hz : ds.length ≤ 1000)
    (hw : ∀ x : V, wipe ((wipe σ vs).set i0 (some x)) vs = wipe σ vs)
    (turn : ∀ (i : Nat) (x : V) (d : PyData) (H : Hp) (Qe : VK), ds[i]? = some d → Same H1 H → Dp K H x d → (∀ y H', Same H H' → Dp K (noLst H H') y (F d) → Qe y H') → te ((wipe σ vs).set i0 (some x)) H Qe)
    (hQ : ∀ D acc H', H1 D = none → Same H1 H' → H' D = some (.lst acc) → DpAll K (del (noLst H1 H') D) acc (ds.map F) → Q (.ref D) H') :
    tLc (iSeq K tl) (gName i0) tYes te vs σ H1 Q := by
  have el := dpAll_len hd
  have key : ∀ D, H1 D = none → ∀ i x H, xs[i]? = some x → (∃ acc, H D = some (.lst acc) ∧ Same H1 H ∧ DpAll K (del (noLst H1 H) D) acc ((ds.take i).map F)) → gName i0 x (wipe σ vs) H fun σ2 H2 => wipe σ2 vs = wipe σ vs ∧ tYes σ2 H2 fun b H3 =>
      if b = true then te σ2 H3 fun y H4 => ∃ acc, H4 D = some (.lst acc) ∧ acc.length < sizeLine ∧ (∃ acc', (upd H4 D (.lst (acc ++ [y]))) D = some (.lst acc') ∧ Same H1 (upd H4 D (.lst (acc ++ [y]))) ∧ DpAll K (del (noLst H1 (upd H4 D (.lst (acc ++ [y])))) D) acc' ((ds.take (i + 1)).map F))
      else ∃ acc, H3 D = some (.lst acc) ∧ Same H1 H3 ∧ DpAll K (del (noLst H1 H3) D) acc ((ds.take (i + 1)).map F) := by
    rintro D hD i x H hx ⟨acc, hacc, hs, hda⟩
    have hi : i < ds.length := by rw [← el]; exact (List.getElem?_eq_some_iff.mp hx).1
    have hdi : ds[i]? = some ds[i] := by simp [hi]
    obtain ⟨v, hv, hvd⟩ := dpAll_get hd hdi
    rw [hx] at hv
    obtain rfl := Option.some.inj hv
    simp only [tyes_if]
    refine ⟨hw x, turn i x ds[i] H _ hdi hs (dp_same hs hvd) fun y H' hs' hy => ?_⟩
    have hl9 : acc.length = i := by
      have := dpAll_len hda
      rw [List.length_map, List.length_take] at this; omega
    have sD : Same H1 (upd H' D (.lst (acc ++ [y]))) := fun b o e => by rw [upd_ne (ne_of_none e hD)]; exact hs' _ _ (hs _ _ e)
    refine ⟨acc, hs' _ _ hacc, by rw [hl9]; exact Nat.lt_of_le_of_lt (by omega : i ≤ 1000) (by decide), acc ++ [y], upd_same, sD, ?_⟩
    rw [take_succ_of hdi, List.map_append]
    refine dpAll_append (dpAll_same (fun b o e => ?_) hda) (dpAll_one (dp_same (fun b o e => ?_) hy))
    · have bD : b ≠ D := fun z => by rw [z, del_same] at e; cases e
      rw [del_ne bD] at e ⊢
      obtain ⟨e1, e2⟩ := noLst_some e
      exact noLst_of (by rw [upd_ne bD]; exact hs' _ _ e1) e2
    · obtain ⟨e1, e2⟩ := noLst_some e
      have bD : b ≠ D := fun z => e2 acc (by rw [z]; exact hacc)
      rw [del_ne bD]
      refine noLst_of (by rw [upd_ne bD]; exact e1) fun l q => ?_
      exact e2 l (hs _ _ q)
  have h0 : ∀ D, H1 D = none → ∃ acc, upd H1 D (.lst []) D = some (.lst acc) ∧ Same H1 (upd H1 D (.lst [])) ∧ DpAll K (del (noLst H1 (upd H1 D (.lst []))) D) acc ((ds.take 0).map F) := fun D hD => ⟨[], upd_same, Same.new hD, .nil⟩
  have hfin : ∀ D, H1 D = none → ∀ H, (∃ acc, H D = some (.lst acc) ∧ Same H1 H ∧ DpAll K (del (noLst H1 H) D) acc ((ds.take xs.length).map F)) → Q (.ref D) H := fun D hD H ⟨acc, ha, hs, hda⟩ => by
    rw [el, List.take_length] at hda
    exact hQ D acc H hD hs ha hda
  refine ht _ ⟨a, xs, rfl, ?_⟩
  rcases hq with h | h
  · exact .inl ⟨h, fun D hD => lc_list (K := K) (a := a) (xs := xs) (fun i H => ∃ acc, H D = some (.lst acc) ∧ Same H1 H ∧ DpAll K (del (noLst H1 H) D) acc ((ds.take i).map F)) (h0 D hD) (fun i H _ ⟨_, _, s, _⟩ => s.seq h) (fun i x H hx p => key D hD i x H hx p) (hfin D hD)⟩
  · exact .inr ⟨h, fun D hD => lc_tup (K := K) (a := a) (xs := xs) (fun i H => ∃ acc, H D = some (.lst acc) ∧ Same H1 H ∧ DpAll K (del (noLst H1 H) D) acc ((ds.take i).map F)) (h0 D hD) (fun i H _ ⟨_, _, s, _⟩ => sqT_same s h) (fun i x H hx p => key D hD i x H hx p) (hfin D hD)⟩
/-! ### checks do not tell lists from tuples -/
theorem items_plain (d : PyData) : dItems (dPlain d) = (dItems d).map (List.map dPlain) := by
  cases d <;> first | rfl | (show some (dPlains _) = some _; rw [dPlains_map])
theorem btw_plain (d : PyData) (i j : Int) : dBtw (dPlain d) i j = dBtw d i j := by cases d <;> rfl
theorem num_plain (d : PyData) (i : Int) : dNum (dPlain d) i = dNum d i := btw_plain d _ _
theorem bool_plain (d : PyData) : dBool (dPlain d) = dBool d := by cases d <;> rfl
theorem dB_plain (d : PyData) : dB (dPlain d) = dB d := by cases d <;> rfl
theorem val_plain (d : PyData) : dVal (dPlain d) = dVal d := by cases d <;> rfl
theorem none_plain (d : PyData) : dNone (dPlain d) = dNone d := by cases d <;> rfl
theorem row_plain (d : PyData) (i j : Int) : dRow (dPlain d) i j = dRow d i j := by
  unfold dRow
  rw [items_plain]
  cases dItems d with
  | none => rfl
  | some xs => show (decide (i ≤ ((xs.map dPlain).length : Int)) && decide (((xs.map dPlain).length : Int) ≤ j)) = _; rw [List.length_map]
theorem at_plain (d : PyData) (i : Nat) : dAt (dPlain d) i = dPlain (dAt d i) := by
  unfold dAt
  rw [items_plain]
  cases dItems d with
  | none => show ([] : List PyData).getD i .none = dPlain (([] : List PyData).getD i .none); rfl
  | some xs =>
    show (xs.map dPlain).getD i .none = dPlain (xs.getD i .none)
    rw [List.getD_eq_getElem?_getD, List.getD_eq_getElem?_getD, List.getElem?_map]
    cases xs[i]? <;> rfl
theorem all_plain {f g : PyData → Bool} (h : ∀ d, f (dPlain d) = g d) (d : PyData) : dAll f (dPlain d) = dAll g d := by
  unfold dAll
  rw [items_plain]
  cases dItems d with
  | none => rfl
  | some xs =>
    show (xs.map dPlain).all f = xs.all g
    rw [List.all_map]
    congr 1
    funext e; exact h e
theorem any_plain {f g : PyData → Bool} (h : ∀ d, f (dPlain d) = g d) (d : PyData) : ((dItems (dPlain d)).getD []).any f = ((dItems d).getD []).any g := by
  rw [items_plain]
  cases dItems d with
  | none => rfl
  | some xs =>
    show (xs.map dPlain).any f = xs.any g
    rw [List.any_map]
    congr 1
    funext e; exact h e
theorem map_plain {β : Type} {f g : PyData → β} (h : ∀ d, f (dPlain d) = g d) (d : PyData) : ((dItems (dPlain d)).getD []).map f = ((dItems d).getD []).map g := by
  rw [items_plain]
  cases dItems d with
  | none => rfl
  | some xs =>
    show (xs.map dPlain).map f = xs.map g
    rw [List.map_map]
    congr 1
    funext e; exact h e
theorem all_plain2 {f g : PyData → Bool} (h : ∀ d, f (dPlain d) = g d) (d : PyData) : ((dItems (dPlain d)).getD []).all f = ((dItems d).getD []).all g := by
  rw [items_plain]
  cases dItems d with
  | none => rfl
  | some xs =>
    show (xs.map dPlain).all f = xs.all g
    rw [List.all_map]
    congr 1
    funext e; exact h e
theorem wanted_plain (d : PyData) (n : Int) : dWanted (dPlain d) n = dWanted d n := by unfold dWanted; rw [row_plain, at_plain, at_plain, num_plain, bool_plain]
theorem cond_plain (d : PyData) (n : Int) : dCond (dPlain d) n = dCond d n := by
  unfold dCond
  rw [all_plain (g := fun e => dWanted e n) fun e => wanted_plain e n, map_plain (g := fun e => dVal (dAt e 0)) fun e => by rw [at_plain, val_plain]]
theorem nums_plain (d : PyData) (n : Int) : dNums (dPlain d) n = dNums d n := all_plain (fun e => num_plain e n) d
theorem ascnums_plain (d : PyData) (n : Int) : dAscNums (dPlain d) n = dAscNums d n := by
  unfold dAscNums
  rw [nums_plain, map_plain (g := dVal) val_plain]
theorem has_plain (d : PyData) (j : Int) : dHas (dPlain d) j = dHas d j := any_plain (fun e => by rw [val_plain]) d
theorem rule_plain (d : PyData) (n : Int) : dRule (dPlain d) n = dRule d n := by
  unfold dRule
  rw [row_plain, at_plain, at_plain, at_plain, cond_plain, ascnums_plain, ascnums_plain]
  rw [any_plain (g := fun e => dHas (dAt d 2) (dVal e)) fun e => by rw [has_plain, val_plain]]
theorem holds_plain (c : PyData) (bs : List Bool) : dHolds (dPlain c) bs = dHolds c bs := all_plain2 (fun e => by rw [at_plain, at_plain, val_plain, dB_plain]) c
theorem chg_plain (r : PyData) (bs : List Bool) : chg (dPlain r) bs = chg r bs := by
  unfold chg
  rw [at_plain, at_plain]
  congr 1
  funext j b
  rw [has_plain, has_plain]
theorem move_plain (f : Nat) (r : PyData) (bs : List Bool) : fwMove f (dPlain r) bs = fwMove f r bs := by unfold fwMove; rw [at_plain, holds_plain, chg_plain]
theorem fwM_plain (f : Nat) (d : PyData) : fwM f (dPlain d) = fwM f d := by
  unfold fwM
  congr 1
  refine List.map_congr_left fun bs _ => ?_
  rw [map_plain (g := fun r => fwMove f r bs) fun r => move_plain f r bs]
theorem errFw_plain (df dd : PyData) : errFw df (dPlain dd) = errFw df dd := by
  unfold errFw
  rw [row_plain, all_plain (g := fun r => dRule r (dVal df)) fun r => rule_plain r _]
/-- data without lists, where all but the list at sp stands -/
theorem dp_grow {K : PySem.W.Frag} {sp : Addr} {H H' : Hp} {l : List V} (hl : H sp = some (.lst l)) (g : Grow sp H H') {n : Nat} {d : PyData} (t : Td n d) : ∀ {y : V}, Dp K H y d → Dp K H' y d := by
  induction t with
  | non => intro y h; cases h; exact .non
  | bl b => intro y h; cases h; exact .bl b
  | int i => intro y h; cases h; exact .int i
  | str x => intro y h; cases h; exact .str x
  | @tup n ds z _ ih =>
    intro y h
    cases h with
    | @tup a xs _ hs ha =>
      refine .tup (xs := xs) ?_ ?_
      · rcases hs with (e | ⟨o, e⟩) | e
        · exact .inl (.inl (g _ _ (fun q => by rw [q, hl] at e; cases e) e))
        · exact .inl (.inr ⟨o, g _ _ (fun q => by rw [q, hl] at e; cases e) e⟩)
        · exact .inr e
      · clear hs z
        have all : ∀ (ds' : List PyData) (vs : List V), (∀ d ∈ ds', d ∈ ds) → DpAll K H vs ds' → DpAll K H' vs ds' := by
          intro ds'
          induction ds' with
          | nil => intro vs _ h; cases h; exact .nil
          | cons e r ihr =>
            intro vs hm h
            cases h with
            | cons h1 h2 => exact .cons (ih e (hm e List.mem_cons_self) h1) (ihr _ (fun d hd => hm d (List.mem_cons_of_mem _ hd)) h2)
        exact all ds xs (fun _ h => h) ha
theorem dpAll_grow {K : PySem.W.Frag} {sp : Addr} {H H' : Hp} {l : List V} (hl : H sp = some (.lst l)) (g : Grow sp H H') : ∀ {ds : List PyData} {vs : List V}, (∀ d ∈ ds, ∃ n, Td n d) → DpAll K H vs ds → DpAll K H' vs ds
  | [], _, _, h => by cases h; exact .nil
  | d :: ds, _, ht, h => by
    cases h with
    | cons h1 h2 =>
      obtain ⟨n, t⟩ := ht d List.mem_cons_self
      exact .cons (dp_grow hl g t h1) (dpAll_grow hl g (fun e he => ht e (List.mem_cons_of_mem _ he)) h2)
theorem Rolls.lst {r sp : Addr} {H : Hp} (R : Rolls r sp H) : ∃ l, H sp = some (.lst l) := by obtain ⟨_, _, n, e⟩ := R; exact ⟨_, e⟩
theorem Grow.put {sp p : Addr} {H X : Hp} {o : HO} (g : Grow sp H X) (n : H p = none) : Grow sp H (upd X p o) := fun b u nb e => by rw [upd_ne (ne_of_none e n)]; exact g b u nb e
theorem Rolls.rowAt {r sp : Addr} {H : Hp} (R : Rolls r sp H) : ∃ l, H r = some (.lst l) := by obtain ⟨_, ⟨ns, _, e⟩, _⟩ := R; exact ⟨_, e⟩
/-- the law's own promise -/
def spLaw (K : PySem.W.Frag) : Sp := fun vs H Q _ => ∃ (a : Addr) (ns : List Int), vs = [.ref a] ∧ SqL K H a (ns.map V.int) ∧ ns.length ≤ 63 ∧ (∀ z ∈ ns, Builtin.Int.intBits z ≤ 1048576) ∧ ∀ H', Q (.bl true) H'
theorem walkL {l : PySem.W.OpenLaw} {q : Program} {loose : List Str} {XP : (Str → Option Value) → Heap → Prop} {YP : World → Heap → Prop} {d : DefRec} {K : Params → PySem.W.Frag} (hn : l.most = some 63) (hdf : d.params.defaults = [])
    (hY : ∀ (w : World) (h : Heap), YP w h → (K w.params).In h)
    (F : ∀ (w : World) (mg : Str → Option Value) (fa : Addr) (h : Heap), (K w.params).In h → h.Ns mainGlobals mg → mg d.name = some (.ref fa) →
      ∃ fd : FuncData, (∀ (s : Shared) (u : Value), BindsTo s fd ⟨[u], []⟩ [("script", u)]) ∧ ∀ base : Heap, (K w.params).In base → base.Ns mainGlobals mg → FnOk l.prog w (K w.params) mg base CX0 60 fa fd ["script"] (spLaw (K w.params))) :
    PySem.W.WalkO q loose XP YP l.row.toRowW d [] (fun f vs => PySem.call f vs) :=
  L2.walk_ofB (n := 63) (k := 60) (x := "script") (CX := fun _ => CX0) (sp := fun w => spLaw (K w.params)) hn (by decide) hdf ⟨rfl, by decide, by decide⟩ hY F (fun _ _ a ns hl hb _ hS => ⟨a, ns, rfl, hS, hl, hb, fun _ => rfl⟩) fun _ _ _ _ _ z => z
section
variable {X : Cx} {x : Str} {k : Nat} {ps : List Str} {sp : Sp} {e : Expr} {es : List Expr} {t : TA} {p pos : Pos}
/-- the call of a def that may raise, where it does not -/
theorem pe_fnL (C : Cal X.prog X.w X.K X.mg X.base (L2.CX X.prog X.w) x k ps sp) (hr : Room k X.A) (ha : PA X (e :: es) t) (hg : Gl X x := by rfl)
    (hdb : (x == ("__debug__" : Str)) = false := by decide) (he : starEach (e :: es) X.env = (false, eval e X.env) :: starEach es X.env := by rfl) (hpl : (backTo pos (starEach es X.env)).any (·.1) = false := by rfl) :
    PE X (.Call (.Name x p) (e :: es) [] pos) (tCall sp [] E0 t) := by
  obtain ⟨f, fd, g, kp, b, F⟩ := C
  exact pe_call F hr hg g kp b .nil passL ha hdb he hpl
end
/-- a property that hands an attribute back -/
def PDef (K : PySem.W.Frag) (C : Addr) (f qual : Str) (st : Stmt) : Prop := Cls K C ∧ ∃ (p g : Addr) (fd : FuncData), PropOf K C f p g ∧ Fun K f qual st g fd ∧ Binds K fd ["self"] []
def PCal (P : Program) (w : World) (K : PySem.W.Frag) (mg : Str → Option Value) (base : Heap) (C : Addr) (f : Str) (sp : Sp) : Prop := Cls K C ∧ ∃ (p g : Addr) (fd : FuncData), PropOf K C f p g ∧ FnOk P w K mg base CX0 1 g fd ["self"] sp ∧ Binds K fd ["self"] []
theorem PDef.ok {P : Program} {w : World} {K : PySem.W.Frag} {mg : Str → Option Value} {base : Heap} {C : Addr} {f qual : Str} {st : Stmt} {N : List Str} {sp : Sp} (D : PDef K C f qual st) (S : FnScope N ["self"] (defScope st)) (len : ∀ vs H Q E, sp vs H Q E → vs.length = 1)
    (hbody : ∀ (f : Addr) (cdv : Value) (A : Around) (outer : List Env) (s : Shared) (H : Hp) (vs : List V) (Q : VK) (E : XK), Room 0 (A.deeper (PyProof.Rows.envOfC qual (defScope st) s.heap.objs.size f cdv)) → sp vs H Q E →
      ∃ t, PSs (cxOf CX0 P w K mg base N qual (defScope st) f cdv A outer s H E).nox (defBody st) t ∧ t { nx := fun _ H' => Q .non H', rt := Q } (start N vs) H) : PCal P w K mg base C f sp := by
  obtain ⟨c, p, g, fd, hp, F, b⟩ := D
  exact ⟨c, p, g, fd, hp, F.ok S len (hbody g), b⟩
theorem pe_get {X : Cx} {C : Addr} {f : Str} {sp : Sp} {e : Expr} {ta : TE} {pos : Pos} {k : Nat} (c : PCal X.prog X.w X.K X.mg X.base C f sp) (hr : Room (k + 2) X.A) (he : PE X e ta) (hab : attributeBase e f X.env (eval e X.env) = eval e X.env := by rfl) : PE X (.Attribute e f pos) (tProp C sp [] E0 ta) := by
  obtain ⟨cl, p, g, fd, hp, F, b⟩ := c
  exact pe_prop he cl hp F (hr.mono (by omega)) b .nil pass0 hab
end Mw
set_option Elab.async false
set_option linter.all false
set_option maxRecDepth 100000
/-! Errors whose context is None; calls and loops within an except suite. -/
namespace Mw
open PySem L2
/-- e.f, e the error that the suite holds, its class told by the reading -/
def tXg (K : PySem.W.Frag) (a : Addr) (cls : Value) (d : Option Addr) (f : Str) (te : TE) : TE := fun σ H Q => te σ H fun x H1 => x = .ref a ∧ ∃ (C dd : Addr) (fs : List (Str × V)) (v : V), cls = .ref C ∧ XfC K C ∧ PySem.W.findIn K (.ref C) f = some none ∧ d = some dd ∧ H1 dd = some (.xd fs) ∧ fs.lookup f = some v ∧ Q v H1
theorem pe_xg {X : Cx} {a : Addr} {oe : Obj} {cls : Value} {d : Option Addr} {pn : List (Addr × Obj)} {e : Expr} {te : TE} {pos : Pos} {n : Str} (hz : Zc cls d oe) (hf : ∃ vs, oe.data = .fields vs) (he : PE (X.suite a ((a, oe) :: pn)) e te)
    (hb : attributeBase e n X.env (eval e X.env) = eval e X.env := by rfl) : PE (X.suite a ((a, oe) :: pn)) (.Attribute e n pos) (tXg X.K a cls d n te) := by
  refine ⟨fun pins s σ H Q I h => attr_of hb (thn (he.run pins s σ H _ I h) fun u s1 hh => ?_)⟩
  obtain ⟨x, H1, I1, rx, ex, C, dd, fs, v, ec, T, hno, ed, ea, l, q⟩ := hh
  subst ex ec ed
  obtain rfl : u = Value.ref a := rx
  obtain ⟨mA, hns, hr⟩ := (show ObjOk X.prog X.w H1 s1.heap dd (.xd fs) from I1.hok dd _ ea)
  obtain ⟨od, ho, hl⟩ := lookIn_ns hns
  obtain ⟨u, hu, ru⟩ := RelO.some_of (v := v) (o := mA n) (by rw [← l]; exact hr n)
  obtain ⟨vs, hd⟩ := hf
  have J : PySem.W.InstAt s1.heap a oe C (some od) := ⟨(I1.pin (a, oe) (List.mem_append_left _ List.mem_cons_self)).1, hz.1, by unfold PySem.W.notCls; rw [hd] <;> rfl, by rw [hz.2]; exact ho⟩
  exact HandSPX.exc_get I1.kIn J T.ga T.gg T.exC (PySem.W.findObj_own T.hdC hno rfl (by rw [hl, hu])) (handed_of ru) ⟨v, H1, I1.tok _, ru, q⟩
/-- C(e, ..), an error of ours, its context None -/
theorem pmk_madeN {X : Cx} {e : Expr} {es : List Expr} {ta : TA} {p pos : Pos} {CX : CXT} {x : Str} {C fI : Addr} {k : Nat} {fd : FuncData} {ps : List Str} {sp : Sp} (T : ExM X.K C) (iC : PySem.W.findIn X.K (.ref C) "__init__" = some (some (.ref fI))) (tI : PySem.W.typeIn X.K (.ref fI) = some (.type "function"))
    (F1 : FnOk X.prog X.w X.K X.mg X.base CX k fI fd ps sp) (hr : Room (k + 1) X.A) (hb : Binds X.K fd ps []) (hx : Passes CX X (fun _ _ _ => False)) (hg : Gl X x) (hm : X.mg x = some (.ref C)) (ha : PA X (e :: es) ta)
    (hdb : (x == ("__debug__" : Str)) = false := by decide) (he : starEach (e :: es) X.env = (false, eval e X.env) :: starEach es X.env := by rfl) (hpl : (backTo pos (starEach es X.env)).any (·.1) = false := by rfl) :
    L2N.PMk X (.Call (.Name x p) (e :: es) [] pos) (tMade C sp ta) := by
  intro pins s σ H Q I h
  obtain ⟨nm, q, N, bs, cs, sn, sub, ab, col, dd, k0, k1, k2, k3, k5, hC⟩ := T.cls
  refine wpAny_Call_Name_kw (ld_glob I hg hm ?_ hdb)
  refine PySem.W.callWith_K (h₀ := X.base) I.ok.mod.kin T.kC (thn (ha.run pos pins s σ H _ I h) fun us s1 ⟨vs, H1, I1, r1, hz, q1⟩ => ⟨I1.kIn, ?_⟩) he hpl
  show wpAny _ _ (call (.ref C) us) _ _ _
  obtain ⟨hp, g, dr, tk, os⟩ := s1
  have sz : hp.objs.size ≤ hp.objs.size + 1 := Nat.le_succ _
  have hn : H1 (hp.objs.size + 1) = none := I1.hok.fresh sz
  have hq := q1 (hp.objs.size + 1) hn
  have kp : ∀ b o, hp.get? b = some o → ((hp.push (PySem.W.kdv_tup us)).push (PySem.HandSPX.excO C hp.objs.size)).get? b = some o := fun b o z => Heap.get?_push_of_some _ (Heap.get?_push_of_some _ z)
  have hget : ((hp.push (PySem.W.kdv_tup us)).push (PySem.HandSPX.excO C hp.objs.size)).get? (hp.objs.size + 1) = some (PySem.HandSPX.excO C hp.objs.size) := by heap_get
  have I2 : Inv X pins σ (upd H1 (hp.objs.size + 1) (exo (hp.objs.size + 1) C none)) ⟨(hp.push (PySem.W.kdv_tup us)).push (PySem.HandSPX.excO C hp.objs.size), g, dr, tk, os⟩ :=
    I1.laid (t' := tk) (a := hp.objs.size + 1) (o := exo (hp.objs.size + 1) C none) (h' := (hp.push (PySem.W.kdv_tup us)).push (PySem.HandSPX.excO C hp.objs.size)) kp sz (exo_ok hget)
  have r2 : Vals (V.ref (hp.objs.size + 1) :: vs) (Value.ref (hp.objs.size + 1) :: us) := .cons rfl r1
  have hl : (Value.ref (hp.objs.size + 1) :: us).length = ps.length := by
    have z := r2.length
    rw [F1.len _ _ _ _ hq] at z
    exact z.symm
  have hus : us.length ≤ sizeLine := by rw [← Paired.length r1, sizeLine_eq]; omega
  have bnd := hb ⟨(hp.push (PySem.W.kdv_tup us)).push (PySem.HandSPX.excO C hp.objs.size), g, dr, tk, os⟩ (Value.ref (hp.objs.size + 1) :: us) I2.kIn (by rw [List.append_nil]; exact hl)
  rw [List.append_nil] at bnd
  refine wpAny_call (PySem.HandSPX.call_own F.excBase_Exception (fun Y => tl_has Y cs) (I1.kIn _ _ hC) (PySem.W.looks_findIn I1.kIn iC) (fun self => PySem.W.bind_fn I1.kIn self tI) hus
    (codeAny_mono (F1.run _ X.stack _ _ ⟨Value.ref (hp.objs.size + 1) :: us, []⟩ (Value.ref (hp.objs.size + 1) :: us) _ _ (fun _ _ _ => False) (hr.make C us []) (I2.env0.make C us []) bnd r2 hq) fun r s' hq' => ?_))
  cases r with
  | error er => exact hx pins σ _ _ er s' I2 hq'
  | ok fl =>
    cases fl with
    | ret u =>
      obtain ⟨v, H2, os2, bare2, un2, hok2, rv, ev, d, fs, ea, ed, hd1, q2⟩ := hq'
      subst ev
      obtain ⟨h2, g2, d2, t2, os'⟩ := s'
      obtain ⟨t0, G, J, kG, ge, hoe, na⟩ := mk_end0 (d2 := d2) (t2 := t2) I1 sz kp un2 hok2 os2 bare2 ea ed hd1
      exact ⟨rv, hp.objs.size + 1, _, _, ⟨G, g2, d2, t2, os'⟩, _, .ref C, some d, rfl, J, kG, ge, hoe, ⟨rfl, rfl, fun vs e => by cases e; rfl⟩, rfl, rfl, na, rfl, bare2, raises_own T.exC T.tyC, q2⟩
    | next => exact False.elim hq'
    | brk => exact False.elim hq'
    | cont => exact False.elim hq'
theorem pmk_exN {X : Cx} {x : Str} {C : Addr} {ps : List Str} {sp : Sp} {e : Expr} {es : List Expr} {ta : TA} {p pos : Pos} {k : Nat} (c : ExC X.prog X.w X.K X.mg X.base x C ps sp) (hr : Room (k + 2) X.A) (ha : PA X (e :: es) ta) (hg : Gl X x := by rfl)
    (hdb : (x == ("__debug__" : Str)) = false := by decide) (he : starEach (e :: es) X.env = (false, eval e X.env) :: starEach es X.env := by rfl) (hpl : (backTo pos (starEach es X.env)).any (·.1) = false := by rfl) :
    L2N.PMk X (.Call (.Name x p) (e :: es) [] pos) (tMade C sp ta) := by
  obtain ⟨g, T, fI, fd, iC, tI, F, b⟩ := c
  exact pmk_madeN T iC tI F (hr.mono (by omega)) b pass0 hg g ha hdb he hpl
/-- a def that may let such errors out -/
theorem Def.calN {P : Program} {w : World} {K : PySem.W.Frag} {mg : Str → Option Value} {base : Heap} {x : Str} {k : Nat} {ps : List Str} {sp : Sp} {st : Stmt} {N : List Str} (D : Def K mg x st ps) (S : FnScope N ps (defScope st)) (len : ∀ vs H Q E, sp vs H Q E → vs.length = ps.length)
    (hbody : ∀ (f : Addr) (cdv : Value) (A : Around) (outer : List Env) (s : Shared) (H : Hp) (vs : List V) (Q : VK) (E : XK), Room k (A.deeper (PyProof.Rows.envOfC x (defScope st) s.heap.objs.size f cdv)) → sp vs H Q E →
      ∃ t, PSs (cxOf (L2N.CX P w) P w K mg base N x (defScope st) f cdv A outer s H E) (defBody st) t ∧ t { nx := fun _ H' => Q .non H', rt := Q } (start N vs) H) : Cal P w K mg base (L2N.CX P w) x (k + 1) ps sp := by
  obtain ⟨f, fd, g, F, b⟩ := D
  refine ⟨f, fd, g, F.kp, b, ?_⟩
  obtain ⟨oc, od, kV, doc, pm, an, cdv, ct, osl, rfl, lk, hcd⟩ := F.ex
  exact fn_of lk hcd S len fun A outer s H vs Q E hr hsp => hbody f cdv A outer s H vs Q E hr hsp
theorem pe_fnN {X : Cx} {x : Str} {k : Nat} {ps : List Str} {sp : Sp} {e : Expr} {es : List Expr} {t : TA} {p pos : Pos} {W : WX} (tk : L2N.Takes X W) (C : Cal X.prog X.w X.K X.mg X.base (L2N.CX X.prog X.w) x k ps sp) (hr : Room k X.A) (ha : PA X (e :: es) t) (hg : Gl X x := by rfl)
    (hdb : (x == ("__debug__" : Str)) = false := by decide) (he : starEach (e :: es) X.env = (false, eval e X.env) :: starEach es X.env := by rfl) (hpl : (backTo pos (starEach es X.env)).any (·.1) = false := by rfl) :
    PE X (.Call (.Name x p) (e :: es) [] pos) (tCallS sp (WE W) t) := by
  obtain ⟨f, fd, g, kp, b, F⟩ := C
  exact pe_callS F hr hg g kp b (fun σ => L2N.passAt tk σ) ha hdb he hpl
/-! ### within a suite -/
def CalH (P : Program) (w : World) (K : PySem.W.Frag) (mg : Str → Option Value) (base : Heap) (x : Str) (k : Nat) (ps : List Str) (sp : Sp) : Prop :=
  ∃ (f : Addr) (fd : FuncData), mg x = some (.ref f) ∧ PySem.W.keepIn K (.ref f) = true ∧ Binds K fd ps [] ∧ L2H.FnH P w K mg base CX0 k f fd ps sp
theorem Def.calH {P : Program} {w : World} {K : PySem.W.Frag} {mg : Str → Option Value} {base : Heap} {x : Str} {k : Nat} {ps : List Str} {sp : Sp} {st : Stmt} {N : List Str} (D : Def K mg x st ps) (S : FnScope N ps (defScope st)) (len : ∀ vs H Q E, sp vs H Q E → vs.length = ps.length)
    (hbody : ∀ (f : Addr) (cdv : Value) (A : Around) (outer : List Env) (s : Shared) (H : Hp) (vs : List V) (Q : VK) (E : XK) (p : Addr × Obj), L2H.HotC (L2H.cxH CX0 P w K mg base N x (defScope st) f cdv A outer s H E p).nox → L2H.RoomH k (A.deeper (PyProof.Rows.envOfC x (defScope st) s.heap.objs.size f cdv)) → sp vs H Q E →
      ∃ t, PSs (L2H.cxH CX0 P w K mg base N x (defScope st) f cdv A outer s H E p).nox (defBody st) t ∧ t { nx := fun _ H' => Q .non H', rt := Q } (start N vs) H) : CalH P w K mg base x (k + 1) ps sp := by
  obtain ⟨f, fd, g, F, b⟩ := D
  refine ⟨f, fd, g, F.kp, b, ?_⟩
  obtain ⟨oc, od, kV, doc, pm, an, cdv, ct, osl, rfl, lk, hcd⟩ := F.ex
  refine L2H.fn_ofH lk hcd S len fun A outer s H vs Q E p hot hr hsp => ?_
  obtain ⟨t, h, q⟩ := hbody f cdv A outer s H vs Q E p ⟨p, ⟨hot.1, hot.2⟩, List.mem_cons_self⟩ hr hsp
  exact ⟨t, h.nox, q⟩
theorem Def.neverH {P : Program} {w : World} {K : PySem.W.Frag} {mg : Str → Option Value} {base : Heap} {x : Str} {ps : List Str} {sp : Sp} {st : Stmt} (D : Def K mg x st ps) (no : ∀ vs H Q E, ¬ sp vs H Q E) : CalH P w K mg base x 0 ps sp := by
  obtain ⟨f, fd, g, F, b⟩ := D
  exact ⟨f, fd, g, F.kp, b, ⟨fun vs H Q E h => (no _ _ _ _ h).elim, fun A outer s H args us vs Q E p _ _ _ _ _ _ h => (no _ _ _ _ h).elim⟩⟩
theorem pe_fnH {X : Cx} {x : Str} {k : Nat} {ps : List Str} {sp : Sp} {e : Expr} {es : List Expr} {t : TA} {p pos : Pos} (hc : L2H.HotC X) (C : CalH X.prog X.w X.K X.mg X.base x k ps sp) (hr : L2H.RoomH k X.A) (ha : PA X (e :: es) t) (hg : Gl X x := by rfl)
    (hdb : (x == ("__debug__" : Str)) = false := by decide) (he : starEach (e :: es) X.env = (false, eval e X.env) :: starEach es X.env := by rfl) (hpl : (backTo pos (starEach es X.env)).any (·.1) = false := by rfl) :
    PE X (.Call (.Name x p) (e :: es) [] pos) (tCallS sp (fun _ => E0) t) := by
  obtain ⟨f, fd, g, kp, b, F⟩ := C
  exact L2H.pe_callH F hr hc hg g kp b (fun _ _ _ _ _ _ _ h => h.elim) ha hdb he hpl
theorem pe_gref {X : Cx} {x : Str} {c : Addr} {pos : Pos} (hm : X.mg x = some (.ref c)) (hg : Gl X x := by rfl) (hd : (x == ("__debug__" : Str)) = false := by decide) : PE X (.Name x pos) (tC (.ref c)) := pe_glob hg hm rfl hd
/-- the suite bears its error -/
theorem hot_suite {X : Cx} {a : Addr} {oe : Obj} {cls : Value} {d : Option Addr} {pn : List (Addr × Obj)} (hz : L2N.Zn cls d oe) (hf : ∃ vs, oe.data = .fields vs) : L2H.HotC (X.suite a ((a, oe) :: pn)) := by
  obtain ⟨vs, e⟩ := hf
  exact ⟨(a, oe), ⟨rfl, vs, e, hz.2.2 vs e⟩, List.mem_cons_self⟩
theorem takesN0 {X : Cx} : L2N.Takes X (fun _ _ _ _ => False) := fun _ _ x => by
  obtain ⟨_, _, _, _, _, _, _, _, _, _, _, _, _, _, _, _, h⟩ := x
  exact h.elim
/-! ### which class is which -/
section
variable {K : PySem.W.Frag} {C D : Addr}
theorem cls_some (h : PySem.W.hasDictIn K C = true) : (PySem.W.clsIn K C).isSome = true := by
  obtain ⟨cd, e, _⟩ := PySem.W.any_some h
  rw [e]; rfl
theorem kit_clsR {t : Value} {b : Bool} (hd : PySem.W.hasDictIn K C = true) (ht : PySem.W.typeIn K (.ref C) = some (.type "type")) (h : PySem.W.subIn K t (.ref C) = some b) : PySem.W.kitCls K t (.ref C) = some b := by
  unfold PySem.W.kitCls
  have e : ((PySem.W.clsIn K C).isSome && PySem.W.typeIn K (.ref C) == some (.type "type")) = true := by rw [cls_some hd, ht] <;> rfl
  dsimp only
  rw [if_pos e]; exact h
theorem kit_yes (hd : PySem.W.hasDictIn K C = true) (ht : PySem.W.typeIn K (.ref C) = some (.type "type")) (h : PySem.W.subIn K (.ref C) (.ref C) = some true) : PySem.W.kitOne K (.ref C) (.ref C) = some true := by
  unfold PySem.W.kitOne
  split
  · rfl
  · exact kit_clsR hd ht h
theorem kit_no (hd : PySem.W.hasDictIn K C = true) (ht : PySem.W.typeIn K (.ref C) = some (.type "type")) (h1 : PySem.W.subIn K (.ref D) (.ref D) = some true) (h : PySem.W.subIn K (.ref D) (.ref C) = some false) : PySem.W.kitOne K (.ref D) (.ref C) = some false := by
  unfold PySem.W.kitOne
  split
  · rename_i q
    have e : D = C := by simpa using q
    subst e
    rw [h1] at h; cases h
  · exact kit_clsR hd ht h
theorem kit_tys {T : String} (hm : PySem.W.kitMeta T = true) (h : PySem.W.subIn K (.ref D) (.type T) = some false) : PySem.W.kitOne K (.ref D) (.type T) = some false := by
  unfold PySem.W.kitOne
  split
  · rename_i q
    simp at q
  · unfold PySem.W.kitCls
    dsimp only
    rw [if_pos hm]; exact h
end
end Mw
set_option Elab.async false
set_option linter.all false
set_option maxRecDepth 100000
set_option maxHeartbeats 2000000
/-! try with several clauses, each with its name. -/
namespace Mw
open PySem L2 PySem.Spec PyProof.Rows
/-- a clause: its class, its name's slot, what its suite does -/
abbrev Cl := Value × Nat × (Addr → Value → Option Addr → TS)
def wNames (K : PySem.W.Frag) (Wout : WX) (D : Ends) : List Cl → WX
  | [] => Wout
  | (c, i, ts) :: r => fun cls d σ H => ∃ b, PySem.W.exmOne K cls c = some b ∧
      (b = true → ∀ a, H a = none → ts a cls d { nx := fun σ' H' => D.nx (σ'.set i none) H', rt := D.rt, bk := fun σ' H' => D.bk (σ'.set i none) H', ct := fun σ' H' => D.ct (σ'.set i none) H' } (σ.set i (some (.ref a))) H) ∧ (b = false → wNames K Wout D r cls d σ H)
inductive ClsOk (X : Cx) : List ExceptHandler → List Cl → Prop
  | nil : ClsOk X [] []
  | cons {x n : Str} {i : Nat} {c : Value} {ts : Addr → Value → Option Addr → TS} {b₀ : Stmt} {suite : List Stmt} {np pos' : Pos} {hds : List ExceptHandler} {l : List Cl} (hi : X.N[i]? = some n) (hl : X.env.kindOf n = some .local) (hc : Names X x c)
      (hsu : ∀ (a : Addr) (oe : Obj) (cls : Value) (d : Option Addr) (pn : List (Addr × Obj)), Zc cls d oe → (∃ vs, oe.data = .fields vs) → PSs (X.suite a ((a, oe) :: pn)) (b₀ :: suite) (ts a cls d)) (r : ClsOk X hds l) :
      ClsOk X (.ExceptHandler (some (.Name x np)) (some n) (b₀ :: suite) pos' :: hds) ((c, i, ts) :: l)
section
variable {X : Cx} {body : List Stmt} {hd0 : ExceptHandler} {hds : List ExceptHandler} {l : List Cl} {pos : Pos} {tb : WX → TS} {Wout : WX}
theorem ps_try_names (hs : X.stack = X.env :: X.outer) (hf : X.env.frame = some X.env.locals) (hN : X.N.Nodup) (tk : Takes X Wout)
    (hb : ∀ (W : WX) (pn : List (Addr × Obj)) (xe : Value → Shared → Prop), Takes (X.tr pn xe) W → PassesOwn (model X.prog X.w) X.A X.env xe → PSs (X.tr pn xe) body (tb W))
    (hh : ClsOk X (hd0 :: hds) l) : PS X (.Try body (hd0 :: hds) [] [] pos) (fun D σ H => tb (wNames X.K Wout D l) D σ H) := by
  refine ⟨fun pins s σ H D I h => wpAny_Try_except ?_⟩
  have ok := I.ok
  have fr9 : X.A.frames = some (X.env :: X.outer) := by rw [ok.frames, hs]
  refine wpAny_mono ((hb (wNames X.K Wout D l) (X.pn ++ pins) (fun e z1 => wpAny (model X.prog X.w) X.A (noteFrame e X.env) (fun _ z2 => wpAny (model X.prog X.w) X.A (setFlight e none) (fun _ z3 =>
    wpAny (model X.prog X.w) X.A (handleBy e X.env (hd0 :: hds)) (SP X pins D) X.xe z3) X.xe z2) X.xe z1) (fun u s' xx => ?_) PassesOwn.looking).run [] s σ H D (I.toTry _) h) (fun f s1 hsp => ?_) (fun e s1 he => he)
  · obtain ⟨a, B, sI, pins', σ', H', cls, d, rfl, J', nb, up, sky, na, os, ag, w⟩ := xx
    have J : Inv X pins σ' H' sI := J'.ofTry ok
    refine Sky.land Zc.steady fr9 hf (show Sky B (X.env :: X.outer) a (Zc cls d) X.env.locals s'.heap from by rw [← hs]; exact sky) fun h3 fl3 up3 => ?_
    have J3 : Inv X pins σ' H' { s' with heap := h3 } := J.landed nb fl3.1 (up.trans up3) os ag
    obtain ⟨oe3, vs3, he3, hz3, hd3⟩ := fl3.there
    have nfr : a ∉ frs (X.env :: X.outer) := fun m => by
      obtain ⟨_, o', e', k⟩ := fl3.2.2.1.mem m
      rw [he3] at e'
      cases e'
      exact k _ hd3
    have nL : a ≠ X.env.locals := fun z => nfr (List.mem_filterMap.mpr ⟨X.env, List.mem_cons_self, by rw [hf, z]⟩)
    have nF : a ∉ X.fs := fun m => by
      obtain ⟨e, he, q⟩ := List.mem_filterMap.mp m
      exact nfr (List.mem_filterMap.mpr ⟨e, List.mem_cons_of_mem _ he, q⟩)
    have S3 := J3.suite he3 hd3 na nL nF
    have go : ∀ {hs9 : List ExceptHandler} {l9 : List Cl}, ClsOk X hs9 l9 → wNames X.K Wout D l9 cls d σ' H' → wpAny (model X.prog X.w) X.A (handleBy (.ref a) X.env hs9) (SP X pins D) X.xe { s' with heap := h3 } := by
      intro hs9 l9 k9
      induction k9 with
      | nil =>
        intro w
        refine wpAny_handleBy_nil ?_
        obtain ⟨_, _, _, oe, vs, T, oT, ts', he, hz, hd, h1, hr⟩ := id fl3
        unfold PySem.passOn
        refine wpAny_bind (wpAny_field he hd h1 ?_)
        rw [if_neg (show ¬ ((Value.ref T == Value.none) = true) from by simp)]
        have out : wpAny (model X.prog X.w) X.A (setFlight (.ref a) X.env.frame) (fun _ s4 => wpAny (model X.prog X.w) X.A (throw (.ref a) : Sem Flow) (SP X pins D) X.xe s4) X.xe { s' with heap := h3 } := by
          rw [hf]
          exact HandSPX.setFlight_upZ fl3 fun h4 hh4 up4 => wpAny_throw (tk _ _ ⟨a, B, sI, pins, σ', H', cls, d, rfl, J, nb, (up.trans up3).trans up4, .inr (.inr (by rw [hs]; exact hh4)), na, os, ag, w⟩)
        first | exact wpAny_bind (wpAny_pure (wpAny_bind out)) | exact wpAny_bind out
      | @cons x n i c ts b₀ suite np pos' hds2 l2 hi hl hc hsu r ih =>
        rintro ⟨b, hb1, hyes, hno⟩
        have hloc : Loc X.env.scope n := .inl hl
        refine wpAny_handleBy_cons (codeAny_handlers_test ?_) (by intro q; cases q)
        have LM := PySem.W.exm_one (M := model X.prog X.w) J3.kIn (show PySem.W.Looks (model X.prog X.w) h3 (typeOf (.ref a)) cls from fun A Q E s k q => wpAny_typeOf_ref (k _ _ he3) (by rw [hz3.1]; exact q)) hb1
        have test : ∀ {Q E : Value → Shared → Prop}, Q c { s' with heap := h3 } → wpAny (model X.prog X.w) (X.A.mark (some (.ref a))) (eval (.Name x np) X.env) Q E { s' with heap := h3 } := fun {Q E} q => by
          obtain ⟨g1, g2, m | ⟨m, v1, v2⟩⟩ := hc
          · exact ld_glob (X := X.suite a ((a, oe3) :: (X.pn ++ pins))) S3 g1 m q g2
          · exact ld_blt (X := X.suite a ((a, oe3) :: (X.pn ++ pins))) S3 g1 m v1 q v2 g2
        refine test (LM.here ?_)
        cases b with
        | false => exact ih (hno rfl)
        | true =>
          refine codeAny_handlers_suite_as (HandSPX.lands_againZ fl3 fun h4 fl4 up4 => ?_)
          have J4 : Inv X pins σ' H' { s' with heap := h4 } := J.landed nb fl4.1 ((up.trans up3).trans up4) os ag
          obtain ⟨oe4, vs4, he4, hz4, hd4⟩ := fl4.there
          refine store_ok (X := X.suite a ((a, oe4) :: (X.pn ++ pins))) (v := .ref a) (J4.suite he4 hd4 na nL nF) hN hi hloc rfl (fun s5 S5 => ?_) (.inr hl)
          refine wpAny_mono ((hsu a oe4 cls d (X.pn ++ pins) hz4 ⟨_, hd4⟩).run [] s5 _ H' _ S5 (hyes rfl a na)) (fun f s6 hsp => ?_) (fun _ _ z => False.elim z)
          have out : ∀ {σ6 : St} {H6 : Hp} {Q : Shared → Prop}, Inv (X.suite a ((a, oe4) :: (X.pn ++ pins))) [] σ6 H6 s6 → (∀ s7, Inv X pins (σ6.set i none) H6 s7 → Q s7) →
              wpAny (model X.prog X.w) X.A (do bindName X.env n .none; unbindBehindTheSuite X.env n pos') (fun _ s7 => Q s7) X.xe s6 := fun {σ6 H6 Q} S6 hq => gone_ok (S6.unsuite ok) hN hi hl hq
          rcases f with _ | _ | _ | u
          all_goals first
            | (obtain ⟨v6, σ6, H6, S6, r6, q6⟩ := hsp; exact out S6 fun s7 J7 => ⟨_, _, _, J7, r6, q6⟩)
            | (obtain ⟨σ6, H6, S6, q6⟩ := hsp; exact out S6 fun s7 J7 => ⟨_, _, J7, q6⟩)
    exact go hh w
  · rcases f with _ | _ | _ | u
    all_goals first
      | (obtain ⟨v, σ', H', J', r, q⟩ := hsp; exact ⟨v, σ', H', J'.ofTry ok, r, q⟩)
      | (obtain ⟨σ', H', J', q⟩ := hsp; exact ⟨σ', H', J'.ofTry ok, q⟩)
      | (obtain ⟨σ', H', J', q⟩ := hsp; exact wpAny_execs_nil ⟨σ', H', J'.ofTry ok, q⟩)
end
end Mw
set_option Elab.async false
set_option linter.all false
set_option maxRecDepth 100000
set_option maxHeartbeats 1000000
/-! Data that compares; books. -/
namespace Mw
open PySem L2
/-- data that may be compared -/
def Sh (d : PyData) : Prop := d.canLay0 = true ∧ d.depth ≤ 64
theorem Sh.shaped {d : PyData} (h : Sh d) : SeqAt.shaped d = true := by
  unfold SeqAt.shaped
  rw [h.1, decide_eq_true h.2]; rfl
theorem lay_mem : ∀ {ds : List PyData} {e : PyData}, PyData.canLayAll0 ds = true → e ∈ ds → e.canLay0 = true
  | d :: ds, e, h, m => by
    have h' : (d.canLay0 && PyData.canLayAll0 ds) = true := by simpa [PyData.canLayAll0] using h
    obtain ⟨h1, h2⟩ := Bool.and_eq_true_iff.mp h'
    rcases List.mem_cons.mp m with rfl | q
    · exact h1
    · exact lay_mem h2 q
theorem depth_mem : ∀ {ds : List PyData} {e : PyData}, e ∈ ds → e.depth ≤ PyData.depthAll ds
  | d :: ds, e, m => by
    have e9 : PyData.depthAll (d :: ds) = max d.depth (PyData.depthAll ds) := by simp [PyData.depthAll]
    rw [e9]
    rcases List.mem_cons.mp m with rfl | q
    · omega
    · have := depth_mem q; omega
theorem Sh.item {d e : PyData} {ds : List PyData} (h : Sh d) (hd : dItems d = some ds) (m : e ∈ ds) : Sh e := by
  cases d with
  | list xs =>
    cases hd
    exact ⟨lay_mem (by simpa [PyData.canLay0] using h.1) m, by have := depth_mem m; have := h.2; simp [PyData.depth] at this; omega⟩
  | tuple xs =>
    cases hd
    exact ⟨lay_mem (by simpa [PyData.canLay0] using h.1) m, by have := depth_mem m; have := h.2; simp [PyData.depth] at this; omega⟩
  | _ => cases hd
theorem sh_non : Sh .none := ⟨by simp [PyData.canLay0], by simp [PyData.depth]⟩
theorem Sh.at {d : PyData} (h : Sh d) (i : Nat) : Sh (dAt d i) := by
  unfold dAt
  cases e : dItems d with
  | none => exact sh_non
  | some ds =>
    show Sh (ds.getD i .none)
    by_cases hi : i < ds.length
    · have : ds.getD i .none = ds[i] := by simp [hi]
      rw [this]; exact h.item e (List.getElem_mem hi)
    · have : ds.getD i .none = .none := by simp [Nat.not_lt.mp hi]
      rw [this]; exact sh_non
theorem sh_str {x : Str} (h : (PyData.str x).canLay0 = true) : Sh (.str x) := ⟨h, by simp [PyData.depth]⟩
theorem hu64 {A : Around} {k : Nat} (hr : Room k A) : A.units + 64 < cLine := by have := hr.un; omega
/-! ### books as functions of data -/
def dStep (d : PyData) (i j : Int) : Bool := dRow d 2 2 && ((PyData.eqv (dAt d 0) (.str "deed") && dNum (dAt d 1) i) || (PyData.eqv (dAt d 0) (.str "task") && dNum (dAt d 1) j))
def dMethod (d : PyData) (f i j : Int) : Bool := dRow d 2 2 && (dCond (dAt d 0) f && (dRow (dAt d 1) 0 5 && dAll (fun e => dStep e i j) (dAt d 1)))
def dTasks (d : PyData) : Bool := dRow d 1 6 && dAll (fun e => dRow e 0 5) d
/-- the first method that is none, of one task: its place -/
def badOf (f i j : Int) (t : PyData) : Option Nat := firstBad (fun e => dMethod e f i j) ((dItems t).getD [])
def errTasks (f i j : Int) : Nat → List PyData → Flt
  | _, [] => none
  | k, t :: r => match badOf f i j t with
    | some m => fMethod (k : Nat) (m : Nat)
    | none => errTasks f i j (k + 1) r
def errBook (df dd dt : PyData) : Flt := if dBtw df 0 4 = true then (if dBtw dd 1 5 = true then (if dTasks dt = true then errTasks (dVal df) (dVal dd) (dLen dt) 0 ((dItems dt).getD []) else fValue 3) else fValue 2) else fValue 1
theorem errTasks_some {f i j : Int} : ∀ {l : List PyData} {k m q : Nat} {t : PyData}, l[q]? = some t → badOf f i j t = some m → (∀ e ∈ l.take q, badOf f i j e = none) → errTasks f i j k l = fMethod ((k + q : Nat) : Int) (m : Nat)
  | t :: r, k, m, 0, t', h, hb, _ => by
    cases h
    unfold errTasks
    rw [hb]; rfl
  | t :: r, k, m, q + 1, t', h, hb, ha => by
    unfold errTasks
    rw [ha t (by simp)]
    show errTasks f i j (k + 1) r = _
    rw [errTasks_some (l := r) (k := k + 1) (q := q) (by simpa using h) hb fun e he => ha e (by simp [he])]
    congr 2; omega
theorem errTasks_none {f i j : Int} : ∀ {l : List PyData} {k : Nat}, (∀ e ∈ l, badOf f i j e = none) → errTasks f i j k l = none
  | [], _, _ => rfl
  | t :: r, k, h => by
    unfold errTasks
    rw [h t List.mem_cons_self]
    exact errTasks_none fun e he => h e (List.mem_cons_of_mem _ he)
/-- a Book at a -/
def BookAt (K : PySem.W.Frag) (C : Addr) (a : Addr) (f i : Int) (dt : PyData) (H : Hp) : Prop := ∃ dx yt, H a = some (.ins C dx [("_facts", .int f), ("_deeds", .int i), ("_tasks", yt)]) ∧ Dp K H yt dt
theorem BookAt.same {K : PySem.W.Frag} {C a : Addr} {f i : Int} {dt : PyData} {H H' : Hp} (h : BookAt K C a f i dt H) (s : Same H H') : BookAt K C a f i dt H' := by
  obtain ⟨dx, yt, e, h1⟩ := h
  exact ⟨dx, yt, s _ _ e, dp_same s h1⟩
def spStep (K : PySem.W.Frag) : Sp := fun vs H Q _ => ∃ (x : V) (d : PyData) (n : Nat) (i j : Int), vs = [x, .int i, .int j] ∧ Dp K H x d ∧ Wf n d ∧ Sh d ∧ ∀ H', Same H H' → Q (.bl (dStep d i j)) H'
def spMethod (K : PySem.W.Frag) : Sp := fun vs H Q _ => ∃ (x : V) (d : PyData) (n : Nat) (f i j : Int), vs = [x, .int f, .int i, .int j] ∧ Dp K H x d ∧ Wf n d ∧ Sh d ∧ ∀ H', Same H H' → Q (.bl (dMethod d f i j)) H'
/-- Book(facts, deeds, tasks) at the new instance a -/
def spBookInit (K : PySem.W.Frag) (C : Addr) (cs : Nat → Addr) (n : Nat) : Sp := fun vs H Q E => ∃ (a dx : Addr) (xf xd xt : V) (df dd dt : PyData), vs = [.ref a, xf, xd, xt] ∧ H a = some (.ins C dx []) ∧ Dp K H xf df ∧ Dp K H xd dd ∧ Dp K H xt dt ∧ Wf n df ∧ Wf n dd ∧ Wf n dt ∧ Sh dt ∧
  (match errBook df dd dt with
   | none => ∀ H', (∀ b o, b ≠ a → H b = some o → H' b = some o) → BookAt K C a (dVal df) (dVal dd) (dPlain dt) H' → Q .non H'
   | some (c, fs) => ∀ d H', Same H H' → H d = none → H' d = some (.xd fs) → E (.ref (cs c)) (some d) H')
end Mw
set_option Elab.async false
set_option linter.all false
set_option maxRecDepth 100000
set_option maxHeartbeats 1000000
/-! Comprehensions whose elements are drawn. -/
namespace Mw
open PySem L2
/-- [e for i in range(n)], n and each e drawn -/
theorem lc_rngP {K : PySem.W.Frag} {r sp : Addr} (n : Nat) (p : PyData → Prop) (hp : ∀ d, p d → ∃ n, Td n d) {i0 : Nat} {ta : TA} {te : TE} {vs : List Nat} {σ : St} {H1 : Hp} {Q : VK} (hz : n ≤ 1000)
    (ht : ∀ R : List V → Hp → Prop, (∀ (j : Nat) (H' : Hp), j ≤ n → Grow sp H1 H' → Rolls r sp H' → R [.int (j : Int)] H') → ta σ H1 R)
    (hw : ∀ x : V, wipe ((wipe σ vs).set i0 (some x)) vs = wipe σ vs)
    (turn : ∀ (i : Nat) (H : Hp) (Qe : VK), Grow sp H1 H → Rolls r sp H → (∀ d y H', p d → Grow sp H H' → Rolls r sp H' → Dp K H' y d → Qe y H') → te ((wipe σ vs).set i0 (some (.int (0 + (i : Int))))) H Qe)
    (hQ : ∀ D acc ds H', Grow sp H1 H' → Rolls r sp H' → H' D = some (.lst acc) → DpAll K H' acc ds → ds.length ≤ n → (∀ d ∈ ds, p d) → Q (.ref D) H') :
    tLc (iRng1 ta) (gName i0) tYes te vs σ H1 Q := by
  have e62 : (2 : Int) ^ 62 = 4611686018427387904 := by decide
  refine ht _ fun j H2 hj g2 R2 => ⟨(j : Int), rfl, by omega, by omega, ?_⟩
  rw [Int.toNat_natCast]
  intro D hD
  obtain ⟨l2, hl2⟩ := R2.lst
  obtain ⟨lr, hlr⟩ := R2.rowAt
  have nsD : sp ≠ D := ne_of_none hl2 hD
  have nrD : r ≠ D := ne_of_none hlr hD
  refine lc_range (lo := 0) (n := j) (fun i H => ∃ acc ds, H D = some (.lst acc) ∧ Grow sp H2 H ∧ Rolls r sp H ∧ DpAll K H acc ds ∧ ds.length = i ∧ ∀ d ∈ ds, p d) ⟨[], [], upd_same, Grow.new hD, R2.new hD, .nil, rfl, fun d h => (by cases h)⟩ ?_
    (fun H ⟨acc, ds, ha, g, R, hda, hl, hall⟩ => hQ D acc ds H (g2.trans g) R ha hda (by omega) hall)
  rintro i H hi ⟨acc, ds, hacc, g, R, hda, hl, hall⟩
  refine ⟨hw _, ?_⟩
  dsimp only [tYes]
  rw [if_pos rfl]
  obtain ⟨l, hlH⟩ := R.lst
  refine turn i H _ (g2.trans g) R fun d y H' hd g' R' hy => ?_
  have td : ∀ e ∈ ds, ∃ n, Td n e := fun e he => hp e (hall e he)
  have all2 : ∀ e ∈ ds ++ [d], p e := fun e he => by
    rcases List.mem_append.mp he with q | q
    · exact hall e q
    · rw [List.mem_singleton.mp q]; exact hd
  have hD' := g' _ _ nsD.symm hacc
  have el := dpAll_len hda
  refine ⟨acc, hD', Nat.lt_of_le_of_lt (by omega : acc.length ≤ 1000) (by decide), acc ++ [y], ds ++ [d], upd_same, (g.trans g').put hD, R'.put nrD nsD, ?_, by rw [List.length_append, hl]; rfl, all2⟩
  exact dpAll_put (fun e he => hp e (all2 e he)) hD' (dpAll_append (dpAll_grow hlH g' td hda) (dpAll_one hy))
end Mw
set_option Elab.async false
set_option linter.all false
set_option maxRecDepth 100000
set_option maxHeartbeats 1000000
/-! Making an instance where its errors are caught. -/
namespace Mw
open PySem L2 PySem.Spec PyProof.Rows
def tMakeS (C : Addr) (sp : Sp) (E : St → XK) (t : TA) : TE := fun σ H Q => t σ H fun vs H1 => ∀ x dx, H1 x = none → H1 dx = none → dx ≠ x → sp (.ref x :: vs) (upd (upd H1 dx (.own x)) x (.ins C dx [])) (fun v H2 => v = .non ∧ Q (.ref x) H2) (E σ)
theorem pe_newS {X : Cx} {x : Str} {C : Addr} {ps : List Str} {sp : Sp} {W : WX} {e : Expr} {es : List Expr} {ta : TA} {p pos : Pos} {k : Nat} (tk : Takes X W) (c : CCal X.prog X.w X.K X.mg X.base (L2.CX X.prog X.w) x C k ps sp) (hr : Room (k + 1) X.A) (ha : PA X (e :: es) ta) (hg : Gl X x := by rfl)
    (hdb : (x == ("__debug__" : Str)) = false := by decide) (he : starEach (e :: es) X.env = (false, eval e X.env) :: starEach es X.env := by rfl) (hpl : (backTo pos (starEach es X.env)).any (·.1) = false := by rfl) :
    PE X (.Call (.Name x p) (e :: es) [] pos) (tMakeS C sp (WE W) ta) := by
  obtain ⟨hm, cl, fI, fd, M, F, hb⟩ := c
  refine ⟨fun pins s σ H Q I h => wpAny_Call_Name_kw (ld_glob I hg hm ?_ hdb)⟩
  refine PySem.W.callWith_K (h₀ := X.base) I.ok.mod.kin M.kp (thn (ha.run pos pins s σ H _ I h) fun us s1 ⟨vs, H1, I1, r1, q⟩ => ⟨I1.kIn, ?_⟩) he hpl
  have hq := q (s1.heap.objs.size + 1) s1.heap.objs.size (I1.hok.fresh (Nat.le_succ _)) (I1.hok.fresh (Nat.le_refl _)) (Nat.ne_of_lt (Nat.lt_succ_self _))
  have I2 := Inv.made (C := C) I1
  have r2 : Vals (V.ref (s1.heap.objs.size + 1) :: vs) (Value.ref (s1.heap.objs.size + 1) :: us) := .cons rfl r1
  have hl : (Value.ref (s1.heap.objs.size + 1) :: us ++ []).length = ps.length := by
    have z := r2.length
    rw [F.len _ _ _ _ hq] at z
    rw [List.append_nil]
    exact z.symm
  have b2 := hb _ (Value.ref (s1.heap.objs.size + 1) :: us) I2.kIn hl
  rw [List.append_nil] at b2
  refine wpAny_call (make_map (f := fI) I1.kIn M.makes M.init (beq_iff_eq.mp M.fn) (codeAny_mono (F.run _ X.stack _ _ ⟨Value.ref (s1.heap.objs.size + 1) :: us, []⟩ (Value.ref (s1.heap.objs.size + 1) :: us) _ _ (WE W σ) (hr.make C us []) (I2.env0.make C us []) b2 r2 hq) fun r s' hq' => ?_))
  rcases r with e9 | fl
  · exact passAt tk σ pins _ _ e9 s' I2 hq'
  · cases fl with
    | ret u =>
      obtain ⟨v, H', I3, rv, ev, q3⟩ := I2.after hq'
      subst ev
      exact ⟨rv, ⟨V.ref (s1.heap.objs.size + 1), H', I3, rfl, q3⟩⟩
    | next => exact False.elim hq'
    | brk => exact False.elim hq'
    | cont => exact False.elim hq'
end Mw
set_option Elab.async false
set_option linter.all false
set_option maxRecDepth 100000
set_option maxHeartbeats 1000000
/-! Expressions that make data of data: read at once. -/
namespace Mw
open PySem L2
/-- the reading makes d of what stands in H0 and in the slots σ -/
def Rd (K : PySem.W.Frag) (σ : St) (H0 : Hp) (te : TE) (d : PyData) : Prop := ∀ (H : Hp) (Q : VK), Same H0 H → (∀ y H', Same H H' → Dp K H' y d → Q y H') → te σ H Q
def RdA (K : PySem.W.Frag) (σ : St) (H0 : Hp) (ta : TA) (ds : List PyData) : Prop := ∀ (H : Hp) (Q : List V → Hp → Prop), Same H0 H → (∀ ys H', Same H H' → DpAll K H' ys ds → Q ys H') → ta σ H Q
section
variable {K : PySem.W.Frag} {σ : St} {H0 : Hp}
theorem Rd.go {te : TE} {d : PyData} {H : Hp} {Q : VK} (r : Rd K σ H te d) (h : ∀ y H', Same H H' → Dp K H' y d → Q y H') : te σ H Q := r H Q (Same.refl _) h
theorem RdA.go {ta : TA} {ds : List PyData} {H : Hp} {Q : List V → Hp → Prop} (r : RdA K σ H ta ds) (h : ∀ ys H', Same H H' → DpAll K H' ys ds → Q ys H') : ta σ H Q := r H Q (Same.refl _) h
theorem Rd.mono {te : TE} {d : PyData} {H1 : Hp} (r : Rd K σ H0 te d) (s : Same H0 H1) : Rd K σ H1 te d := fun H Q s' h => r H Q (s.trans s') h
theorem rd_int (i : Int) : Rd K σ H0 (tC (.int i)) (.int i) := fun H Q _ h => h _ _ (Same.refl _) (.int i)
theorem rd_bl (b : Bool) : Rd K σ H0 (tC (.bl b)) (.bool b) := fun H Q _ h => h _ _ (Same.refl _) (.bl b)
theorem rd_non : Rd K σ H0 (tC .non) .none := fun H Q _ h => h _ _ (Same.refl _) .non
theorem rd_str (x : Str) : Rd K σ H0 (tC (.str x)) (.str x) := fun H Q _ h => h _ _ (Same.refl _) (.str x)
theorem rd_var {i : Nat} {v : V} {d : PyData} (e : σ[i]? = some (some v)) (h : Dp K H0 v d) : Rd K σ H0 (tVar i) d := fun H Q s k => ⟨v, e, k _ _ (Same.refl _) (dp_same s h)⟩
theorem rdA_nil : RdA K σ H0 tNil [] := fun H Q _ h => h _ _ (Same.refl _) .nil
theorem rdA_cons {te : TE} {ta : TA} {d : PyData} {ds : List PyData} (h1 : Rd K σ H0 te d) (h2 : RdA K σ H0 ta ds) : RdA K σ H0 (tCons te ta) (d :: ds) := fun H Q s k =>
  h1 H _ s fun y H1 s1 hy => h2 H1 _ (s.trans s1) fun ys H2 s2 hys => k _ _ (s1.trans s2) (.cons (dp_same s2 hy) hys)
theorem rd_tup {ta : TA} {ds : List PyData} (h : RdA K σ H0 ta ds) (hl : ds.length ≤ 1000) : Rd K σ H0 (tTup ta) (.tuple ds) := fun H Q s k =>
  h H _ s fun ys H1 s1 hys => ⟨Nat.le_trans (by have := dpAll_len hys; omega : ys.length ≤ 1000) (by decide), fun p hp => k _ _ (s1.trans (Same.new hp)) (.tup (SqT.of upd_same) (dpAll_same (Same.new hp) hys))⟩
theorem rd_lst {ta : TA} {ds : List PyData} (h : RdA K σ H0 ta ds) (hl : ds.length ≤ 1000) : Rd K σ H0 (tLst ta) (.list ds) := fun H Q s k =>
  h H _ s fun ys H1 s1 hys => ⟨Nat.le_trans (by have := dpAll_len hys; omega : ys.length ≤ 1000) (by decide), fun p hp => k _ _ (s1.trans (Same.new hp)) (.lst (SqL.of upd_same) (dpAll_same (Same.new hp) hys))⟩
/-- an element of a tuple in a slot -/
theorem rd_ix {i : Nat} {p : Addr} {xs : List V} {j : Nat} {z : Int} {v : V} {d : PyData} (e : σ[i]? = some (some (.ref p))) (hp : SqT K H0 p xs) (hz : z = (j : Int)) (hv : xs[j]? = some v) (h : Dp K H0 v d) : Rd K σ H0 (tOp (rIxT K) (tVar i) (tC (.int z))) d := fun H Q s k =>
  ⟨_, e, p, xs, z, v, rfl, rfl, sqT_same s hp, at_of hz hv, k _ _ (Same.refl _) (dp_same s h)⟩
/-- sums and differences of whole numbers -/
theorem rd_op0 {f : Int → Int → Int} {ta tb : TE} {i j : Int} (ha : Rd K σ H0 ta (.int i)) (hb : Rd K σ H0 tb (.int j)) : Rd K σ H0 (tOp (rI0 fun a b => V.int (f a b)) ta tb) (.int (f i j)) := fun H Q s k =>
  ha H _ s fun x H1 s1 hx => hb H1 _ (s.trans s1) fun y H2 s2 hy => by
    cases hx
    cases hy
    exact ⟨_, _, rfl, rfl, k _ _ (s1.trans s2) (.int _)⟩
/-- tuple([e for i in range(n)]) -/
theorem rd_tlc {n : Nat} {F : Nat → PyData} {i0 : Nat} {ta : TA} {te : TE} {vs : List Nat} (hz : n ≤ 1000) (ht : ∀ (H : Hp) (R : List V → Hp → Prop), Same H0 H → R [.int (n : Int)] H → ta σ H R) (hF : ∀ i, i < n → ∃ m, Td m (F i)) (hw : ∀ x : V, wipe ((wipe σ vs).set i0 (some x)) vs = wipe σ vs)
    (he : ∀ (i : Nat) (H1 : Hp), Same H0 H1 → i < n → Rd K ((wipe σ vs).set i0 (some (.int (0 + (i : Int))))) H1 te (F i)) :
    Rd K σ H0 (tCB (fun xs H Q => ∃ p ys, xs = [V.ref p] ∧ ((SqL K H p ys ∧ ∀ l, H l = none → Q (V.ref l) (upd H l (HO.tup ys))) ∨ SqT K H p ys ∧ Q (V.ref p) H)) (tCons (tLc (iRng1 ta) (gName i0) tYes te vs) tNil)) (.tuple ((List.range n).map F)) := by
  intro H Q s k
  refine tcb1 (lc_rng (K := K) (j := (n : Int)) n F (fun R k9 => ht H R s k9) (by omega) (by omega) hz hF hw (fun i H1 Qe hi s1 k9 => ?_) (fun D acc H1 hD s1 hacc hda => ?_))
  · exact (he i H1 (s.trans s1) hi).go k9
  · exact ⟨D, acc, rfl, .inl ⟨SqL.of hacc, fun l hl => k _ _ (s1.trans (Same.new hl)) (.tup (SqT.of upd_same) (dpAll_same (Same.new hl) hda))⟩⟩
/-- [e for i in range(n)] -/
theorem rd_lc {n : Nat} {F : Nat → PyData} {i0 : Nat} {ta : TA} {te : TE} {vs : List Nat} (hz : n ≤ 1000) (ht : ∀ (H : Hp) (R : List V → Hp → Prop), Same H0 H → R [.int (n : Int)] H → ta σ H R) (hF : ∀ i, i < n → ∃ m, Td m (F i)) (hw : ∀ x : V, wipe ((wipe σ vs).set i0 (some x)) vs = wipe σ vs)
    (he : ∀ (i : Nat) (H1 : Hp), Same H0 H1 → i < n → Rd K ((wipe σ vs).set i0 (some (.int (0 + (i : Int))))) H1 te (F i)) : Rd K σ H0 (tLc (iRng1 ta) (gName i0) tYes te vs) (.list ((List.range n).map F)) := by
  intro H Q s k
  refine lc_rng (K := K) (j := (n : Int)) n F (fun R k9 => ht H R s k9) (by omega) (by omega) hz hF hw (fun i H1 Qe hi s1 k9 => ?_) (fun D acc H1 hD s1 hacc hda => ?_)
  · exact (he i H1 (s.trans s1) hi).go k9
  · exact k _ _ s1 (.lst (SqL.of hacc) hda)
/-- len of a sequence, its data known -/
theorem rd_len {te : TE} {d : PyData} {ds : List PyData} (e : dItems d = some ds) (h : Rd K σ H0 te d) : Rd K σ H0 (tCB (fun xs H Q => ∃ p ys, xs = [V.ref p] ∧ (SqL K H p ys ∨ SqT K H p ys) ∧ Q (.int (ys.length : Int)) H) (tCons te tNil)) (.int (ds.length : Int)) := fun H Q s k =>
  h H _ s fun y H1 s1 hy => by
    obtain ⟨p, ys, rfl, hq, ha⟩ := dp_items hy e
    have el : (ys.length : Int) = (ds.length : Int) := by rw [dpAll_len ha]
    refine ⟨p, ys, rfl, hq, ?_⟩
    rw [el]
    exact k _ _ s1 (.int _)
end
theorem rolls_same {r sp : Addr} {H H' : Hp} (R : Rolls r sp H) (s : Same H H') : Rolls r sp H' := by
  obtain ⟨ne, ⟨ns, ok, e⟩, n, en⟩ := R
  exact ⟨ne, ⟨ns, ok, s _ _ e⟩, n, s _ _ en⟩
theorem dp_putl {K : PySem.W.Frag} {D : Addr} {acc acc' : List V} {H : Hp} {n : Nat} {v : V} {d : PyData} (t : Td n d) (hD : H D = some (.lst acc)) (h : Dp K H v d) : Dp K (upd H D (.lst acc')) v d := by
  have z := dpAll_put (acc' := acc') (ds := [d]) (vs := [v]) (fun e he => ⟨n, by rw [List.mem_singleton.mp he]; exact t⟩) hD (dpAll_one h)
  cases z with
  | cons h1 _ => exact h1
theorem rdA_lst {K : PySem.W.Frag} {σ : St} {H : Hp} {ta : TA} {ds : List PyData} {Q : VK} (r : RdA K σ H ta ds) (hz : ds.length ≤ 1000) (h : ∀ ys H', Same H H' → DpAll K H' ys ds → ∀ p, H' p = none → Q (.ref p) (upd H' p (.lst ys))) : tLst ta σ H Q :=
  r.go fun ys H' s hy => ⟨Nat.le_trans (by have := dpAll_len hy; omega : ys.length ≤ 1000) (by decide), h ys H' s hy⟩
theorem wipe_one {σ : St} {i : Nat} (x : V) : wipe ((wipe σ [i]).set i (some x)) [i] = wipe σ [i] := by
  simp [wipe, List.set_set]
end Mw
set_option Elab.async false
set_option maxRecDepth 100000
set_option maxHeartbeats 1000000
namespace Mw
open PySem L2
def topS (i : Nat) : Stmt := PySem.Challenge.pw_methodworlds_k02_refusals_of_books.main.body.getD i (.Pass ⟨0, 0, 0, 0⟩)
/-- the built-ins are what they were -/
structure Bi (mg : Str → Option Value) : Prop where
  len : mg "len" = none
  range : mg "range" = none
  int : mg "int" = none
  bool : mg "bool" = none
  str : mg "str" = none
  tuple : mg "tuple" = none
  list : mg "list" = none
  all : mg "all" = none
  enumerate : mg "enumerate" = none
  isinstance : mg "isinstance" = none
  g_MOST_FACTS : ∃ t, mg "MOST_FACTS" = some (.int 4 t)
  g_MOST_DEEDS : ∃ t, mg "MOST_DEEDS" = some (.int 5 t)
  g_MOST_TASKS : ∃ t, mg "MOST_TASKS" = some (.int 6 t)
  g_MOST_METHODS : ∃ t, mg "MOST_METHODS" = some (.int 5 t)
  g_MOST_STEPS : ∃ t, mg "MOST_STEPS" = some (.int 5 t)
/-! ### methodworlds.kinds -/
abbrev S_is_integer : Stmt := topS 1
abbrev N_is_integer : List Str := ["value"]
abbrev P_is_integer : List Str := ["value"]
theorem sc_is_integer : FnScope N_is_integer P_is_integer (defScope S_is_integer) := ⟨rfl, rfl, rfl, by decide +kernel, rfl, by decide +kernel, by decide +kernel⟩
abbrev S_is_between : Stmt := topS 2
abbrev N_is_between : List Str := ["value", "low", "high"]
abbrev P_is_between : List Str := ["value", "low", "high"]
theorem sc_is_between : FnScope N_is_between P_is_between (defScope S_is_between) := ⟨rfl, rfl, rfl, by decide +kernel, rfl, by decide +kernel, by decide +kernel⟩
abbrev S_is_number : Stmt := topS 3
abbrev N_is_number : List Str := ["value", "many"]
abbrev P_is_number : List Str := ["value", "many"]
theorem sc_is_number : FnScope N_is_number P_is_number (defScope S_is_number) := ⟨rfl, rfl, rfl, by decide +kernel, rfl, by decide +kernel, by decide +kernel⟩
abbrev S_is_sequence : Stmt := topS 4
abbrev N_is_sequence : List Str := ["value"]
abbrev P_is_sequence : List Str := ["value"]
theorem sc_is_sequence : FnScope N_is_sequence P_is_sequence (defScope S_is_sequence) := ⟨rfl, rfl, rfl, by decide +kernel, rfl, by decide +kernel, by decide +kernel⟩
abbrev S_is_row : Stmt := topS 5
abbrev N_is_row : List Str := ["value", "low", "high"]
abbrev P_is_row : List Str := ["value", "low", "high"]
theorem sc_is_row : FnScope N_is_row P_is_row (defScope S_is_row) := ⟨rfl, rfl, rfl, by decide +kernel, rfl, by decide +kernel, by decide +kernel⟩
abbrev S_is_ascending : Stmt := topS 6
abbrev N_is_ascending : List Str := ["row", "at"]
abbrev P_is_ascending : List Str := ["row"]
theorem sc_is_ascending : FnScope N_is_ascending P_is_ascending (defScope S_is_ascending) := ⟨rfl, rfl, rfl, by decide +kernel, rfl, by decide +kernel, by decide +kernel⟩
abbrev S_plain : Stmt := topS 7
abbrev N_plain : List Str := ["value", "each"]
abbrev P_plain : List Str := ["value"]
theorem sc_plain : FnScope N_plain P_plain (defScope S_plain) := ⟨rfl, rfl, rfl, by decide +kernel, rfl, by decide +kernel, by decide +kernel⟩
section
variable {P : Program} {w : World} {K : PySem.W.Frag} {mg : Str → Option Value} {base : Heap}
theorem cal_is_integer (T : Bi mg) (D : Def K mg "is_integer" S_is_integer P_is_integer) : Cal P w K mg base CX0 "is_integer" 1 P_is_integer (spB1 K dInt) := by
  refine D.cal sc_is_integer (fun vs H Q E h => ?_) (fun f cdv A outer s H vs Q E hr h => ?_)
  · obtain ⟨x, d, n, rfl, _⟩ := h; rfl
  · obtain ⟨x, d, n, rfl, hd, hw, kq⟩ := h
    refine ⟨_, (pss_one (ps_ret (pe_and (pe_callB (id := "isinstance") call_isi (by rfl) T.isinstance (by decide +kernel) (pa_cons (pv 0) (pa_cons (pe_bltn (v := .ty "int") (by rfl) T.int (by decide +kernel) rfl) pa_nil))) (pe_one (pe_not (pe_callB (id := "isinstance") call_isi (by rfl) T.isinstance (by decide +kernel) (pa_cons (pv 0) (pa_cons (pe_bltn (v := .ty "bool") (by rfl) T.bool (by decide +kernel) rfl) pa_nil)))))))), ?_⟩
    refine ⟨_, rfl, _, _, _, _, _, rfl, .ty "int", dp_ty hd, kit_int hd, _, rfl, ?_⟩
    refine ite2 (fun c => ?_) (fun c => ?_)
    · refine ⟨_, rfl, _, _, _, _, _, rfl, .ty "bool", dp_ty hd, kit_bool hd, _, rfl, ?_⟩
      have e : (!dBool d) = dInt d := by cases d <;> simp_all [dInt, dBool]
      rw [e]; exact kq _ (Same.refl _)
    · have e : dInt d = false := by cases d <;> simp_all [dInt, dBool]
      have k := kq _ (Same.refl _)
      rw [e] at k; exact k
theorem cal_is_between (T : Bi mg) (C_is_integer : Cal P w K mg base CX0 "is_integer" 1 P_is_integer (spB1 K dInt)) (D : Def K mg "is_between" S_is_between P_is_between) : Cal P w K mg base CX0 "is_between" 2 P_is_between (spB3 K dBtw) := by
  refine D.cal sc_is_between (fun vs H Q E h => ?_) (fun f cdv A outer s H vs Q E hr h => ?_)
  · obtain ⟨x, d, n, i, j, rfl, _⟩ := h; rfl
  · obtain ⟨x, d, n, i, j, rfl, hd, hw, kq⟩ := h
    refine ⟨_, (pss_one (ps_ret (pe_and (pe_fn C_is_integer hr (pa_cons (pv 0) pa_nil)) (pe_one (pe_chain op_le op_le (pv 1) (pv 0) (pv 2)))))), ?_⟩
    refine ⟨_, rfl, x, d, n, rfl, hd, hw, fun H1 s1 => ⟨_, rfl, ?_⟩⟩
    refine ite2 (fun c => ?_) (fun c => ?_)
    · cases hd with
      | int z =>
        refine ⟨_, rfl, _, rfl, _, _, rfl, rfl, _, rfl, ?_⟩
        have k := kq _ s1
        refine ite2 (fun c2 => ?_) (fun c2 => ?_)
        · refine ⟨_, rfl, _, _, rfl, rfl, ?_⟩
          have e : dBtw (.int z) i j = decide (z ≤ j) := by show (decide (i ≤ z) && decide (z ≤ j)) = _; rw [c2, Bool.true_and]
          rw [e] at k; exact k
        · have e : dBtw (.int z) i j = false := by show (decide (i ≤ z) && decide (z ≤ j)) = _; rw [Bool.eq_false_iff.mpr c2, Bool.false_and]
          rw [e] at k; exact k
      | non => exact (Bool.false_ne_true c).elim
      | bl b => exact (Bool.false_ne_true c).elim
      | str z => exact (Bool.false_ne_true c).elim
      | lst _ _ => exact (Bool.false_ne_true c).elim
      | tup _ _ => exact (Bool.false_ne_true c).elim
    · have e : dBtw d i j = false := by cases d <;> first | rfl | exact absurd rfl c
      have k := kq _ s1
      rw [e] at k; exact k
theorem cal_is_number (_ : Bi mg) (C_is_between : Cal P w K mg base CX0 "is_between" 2 P_is_between (spB3 K dBtw)) (D : Def K mg "is_number" S_is_number P_is_number) : Cal P w K mg base CX0 "is_number" 3 P_is_number (spB2 K dNum) := by
  refine D.cal sc_is_number (fun vs H Q E h => ?_) (fun f cdv A outer s H vs Q E hr h => ?_)
  · obtain ⟨x, d, n, i, rfl, _⟩ := h; rfl
  · obtain ⟨x, d, n, i, rfl, hd, hw, kq⟩ := h
    refine ⟨_, (pss_one (ps_ret (pe_fn C_is_between hr (pa_cons (pv 0) (pa_cons pe_int (pa_cons (pe_op op_sub (pv 1) pe_int) pa_nil)))))), ?_⟩
    exact ⟨_, rfl, _, rfl, _, _, rfl, rfl, x, d, n, 0, i - 1, rfl, hd, hw, fun H1 s1 => kq H1 s1⟩
theorem cal_is_sequence (T : Bi mg) (D : Def K mg "is_sequence" S_is_sequence P_is_sequence) : Cal P w K mg base CX0 "is_sequence" 1 P_is_sequence (spB1 K dSeq) := by
  refine D.cal sc_is_sequence (fun vs H Q E h => ?_) (fun f cdv A outer s H vs Q E hr h => ?_)
  · obtain ⟨x, d, n, rfl, _⟩ := h; rfl
  · obtain ⟨x, d, n, rfl, hd, hw, kq⟩ := h
    refine ⟨_, (pss_one (ps_ret (pe_callB (id := "isinstance") call_isiT (by rfl) T.isinstance (by decide +kernel) (pa_cons (pv 0) (pa_cons (pe_tup (pa_cons (pe_bltn (v := .ty "list") (by rfl) T.list (by decide +kernel) rfl) (pa_cons (pe_bltn (v := .ty "tuple") (by rfl) T.tuple (by decide +kernel) rfl) pa_nil))) pa_nil))))), ?_⟩
    refine ⟨_, rfl, by show 2 ≤ sizeLine; decide, fun p hp => ?_⟩
    exact ⟨x, p, _, _, _, _, rfl, upd_same, .cons (.ty "list") (.cons (.ty "tuple") .nil), dp_ty (dp_same (Same.new hp) hd), kit_seq hd, kq _ (Same.new hp)⟩
theorem cal_is_row (T : Bi mg) (C_is_sequence : Cal P w K mg base CX0 "is_sequence" 1 P_is_sequence (spB1 K dSeq)) (D : Def K mg "is_row" S_is_row P_is_row) : Cal P w K mg base CX0 "is_row" 2 P_is_row (spB3 K dRow) := by
  refine D.cal sc_is_row (fun vs H Q E h => ?_) (fun f cdv A outer s H vs Q E hr h => ?_)
  · obtain ⟨x, d, n, i, j, rfl, _⟩ := h; rfl
  · obtain ⟨x, d, n, i, j, rfl, hd, hw, kq⟩ := h
    refine ⟨_, (pss_one (ps_ret (pe_and (pe_fn C_is_sequence hr (pa_cons (pv 0) pa_nil)) (pe_one (pe_chain op_le op_le (pv 1) (pe_callB (id := "len") call_len_seq (by rfl) T.len (by decide +kernel) (pa_cons (pv 0) pa_nil)) (pv 2)))))), ?_⟩
    refine ⟨_, rfl, x, d, n, rfl, hd, hw, fun H1 s1 => ⟨_, rfl, ?_⟩⟩
    have k := kq _ s1
    refine ite2 (fun c => ?_) (fun c => ?_)
    · obtain ⟨ds, e⟩ := Option.isSome_iff_exists.mp c
      obtain ⟨a, xs, rfl, hq, ha⟩ := dp_items (dp_same s1 hd) e
      have el := dpAll_len ha
      have er : dRow d i j = (decide (i ≤ (xs.length : Int)) && decide ((xs.length : Int) ≤ j)) := by unfold dRow; rw [e, el]
      rw [er] at k
      refine ⟨_, rfl, _, rfl, a, xs, rfl, hq, _, _, rfl, rfl, _, rfl, ?_⟩
      refine ite2 (fun c2 => ?_) (fun c2 => ?_)
      · refine ⟨_, rfl, _, _, rfl, rfl, ?_⟩
        rw [c2, Bool.true_and] at k; exact k
      · rw [Bool.eq_false_iff.mpr c2, Bool.false_and] at k; exact k
    · have e : dItems d = none := Option.not_isSome_iff_eq_none.mp c
      have er : dRow d i j = false := by unfold dRow; rw [e]
      rw [er] at k; exact k
theorem cal_is_ascending (T : Bi mg) (D : Def K mg "is_ascending" S_is_ascending P_is_ascending) : Cal P w K mg base CX0 "is_ascending" 1 P_is_ascending (spAscI K) := by
  refine D.cal sc_is_ascending (fun vs H Q E h => ?_) (fun f cdv A outer s H vs Q E hr h => ?_)
  · obtain ⟨a, ns, rfl, _⟩ := h; rfl
  · obtain ⟨a, ns, rfl, hq, hz, kq⟩ := h
    refine ⟨_, (pss_one (ps_ret (pe_callB (id := "all") (cr_all rfl) (by rfl) T.all (by decide +kernel) (pa_cons (pe_lc (own := [("at", 1)]) (tt := tYes) rfl sc_is_ascending.nd (pi_range1 (by rfl) T.range (pa_cons (pe_op op_sub (pe_callB (id := "len") call_len_seq (by rfl) T.len (by decide +kernel) (pa_cons (pv 0) pa_nil)) pe_int) pa_nil)) (blkOk_by (N := N_is_ascending) (sc := defScope S_is_ascending) (by decide +kernel)) (fun _ _ _ _ _ => (pg_name (i := 1) sc_is_ascending.nd rfl (Or.inl rfl))) (fun _ _ _ _ _ => pts_nil) (fun _ _ _ _ _ => (pe_cmpR op_lt (pe_ix (r := rIx K) ix_seq (pv 0) (pv 1) (fun _ _ => rfl)) (pe_ix (r := rIx K) ix_seq (pv 0) (pe_op op_add (pv 1) pe_int) (fun _ _ => rfl)) (nomark _)))) pa_nil)))), ?_⟩
    have el : (ns.map V.int).length = ns.length := List.length_map ..
    refine tcb1 (lc_rng (K := K) (j := ((ns.map V.int).length : Int) - 1) (ns.length - 1) (fun i => .bool (decide (ns.getD i 0 < ns.getD (i + 1) 0))) (fun R k => ⟨_, rfl, a, _, rfl, hq, _, _, rfl, rfl, k⟩) (by omega) (by omega) (by omega) (fun i _ => ⟨0, .bl _⟩) (fun x => rfl) (fun i H2 Qe hi s2 k => ?_) (fun L acc H2 hL s2 hacc hda => ?_))
    · refine ⟨_, rfl, _, rfl, seq_ix (hq.same s2) (at_of (j := i) (by omega) (getD_at (by omega))) ⟨_, rfl, _, rfl, _, _, rfl, rfl, seq_ix (hq.same s2) (at_of (j := i + 1) (by omega) (getD_at (by omega))) ?_⟩⟩
      exact ⟨_, _, rfl, rfl, k _ _ (Same.refl _) (.bl _)⟩
    · have eb : acc = ((List.range (ns.length - 1)).map fun i => decide (ns.getD i 0 < ns.getD (i + 1) 0)).map V.bl := bools_of (by rw [List.map_map]; exact hda)
      subst eb
      have k := kq _ s2
      rw [ascI_range] at k
      exact ⟨L, _, rfl, SqL.of hacc, k⟩
theorem cal_plain (T : Bi mg) (C_is_sequence : Cal P w K mg base CX0 "is_sequence" 1 P_is_sequence (spB1 K dSeq)) (D : Def K mg "plain" S_plain P_plain) : ∀ n : Nat, Cal P w K mg base CX0 "plain" (n + 2) P_plain (spPlain K n)
  | 0 => D.never fun vs H Q E h => by obtain ⟨_, _, m, _, _, _, hm, _⟩ := h; omega
  | n + 1 => by
    have C_plain := cal_plain T C_is_sequence D n
    refine D.cal sc_plain (fun vs H Q E h => ?_) (fun f cdv A outer s H vs Q E hr h => ?_)
    · obtain ⟨x, d, m, rfl, _⟩ := h; rfl
    · obtain ⟨x, d, m, rfl, hd, hw, hm, kq⟩ := h
      have hr1 : Room 1 _ := hr.mono (by omega)
      refine ⟨_, (pss_cons (ps_if (pt_val (pe_fn C_is_sequence hr1 (pa_cons (pv 0) pa_nil))) (pss_one (ps_ret (pe_callTy (T := "tuple") call_tuple_of (by rfl) T.tuple (by decide +kernel) (pa_cons (pe_lc (own := [("each", 1)]) (tt := tYes) rfl sc_plain.nd (pi_seq (pv 0)) (blkOk_by (N := N_plain) (sc := defScope S_plain) (by decide +kernel)) (fun _ _ _ _ _ => (pg_name (i := 1) sc_plain.nd rfl (Or.inl rfl))) (fun _ _ _ _ _ => pts_nil) (fun _ _ _ _ _ => (pe_fn C_plain hr (pa_cons (pv 1) pa_nil)))) pa_nil)))) pss_nil)
  (pss_one (ps_ret (pv 0)))), ?_⟩
      refine ⟨_, rfl, x, d, m, rfl, hd, hw, fun H1 s1 => ⟨_, rfl, ?_⟩⟩
      refine ite2 (fun c => ?_) (fun c => ?_)
      · obtain ⟨ds, e⟩ := Option.isSome_iff_exists.mp c
        obtain ⟨a, xs, rfl, hq, ha⟩ := dp_items (dp_same s1 hd) e
        obtain ⟨hz, m', rfl, hwi⟩ := wf_items hw e
        have ep : dPlain d = .tuple (ds.map dPlain) := by
          cases d <;> simp only [dItems, Option.some.injEq, reduceCtorEq] at e <;> (subst e; show PyData.tuple (dPlains _) = _; rw [dPlains_map])
        refine tcb1 (lc_dpS dPlain (fun R k => ⟨_, rfl, k⟩) hq ha hz (fun e he => ⟨m', td_plain (hwi e he)⟩) (fun x => rfl) (fun j y e H2 Qe he s2 hy k => ?_) (fun L acc H2 hL s2 hacc hda => ?_))
        · exact ⟨_, rfl, y, e, m', rfl, hy, hwi e (List.mem_of_getElem? he), by omega, fun z H3 s3 hz3 => k z H3 s3 hz3⟩
        · refine ⟨L, acc, rfl, .inl ⟨SqL.of hacc, fun l hl => kq _ _ ((s1.trans s2).trans (Same.new hl)) ?_⟩⟩
          rw [ep]
          exact .tup (SqT.of upd_same) (dpAll_same (Same.new hl) hda)
      · have e : dItems d = none := Option.not_isSome_iff_eq_none.mp c
        have ep : dPlain d = d := by cases d <;> first | rfl | cases e
        exact ⟨_, rfl, kq _ _ s1 (by rw [ep]; exact dp_same s1 hd)⟩
end
/-! ### methodworlds.conditions -/
abbrev S_is_wanted_fact : Stmt := topS 9
abbrev N_is_wanted_fact : List Str := ["value", "facts"]
abbrev P_is_wanted_fact : List Str := ["value", "facts"]
theorem sc_is_wanted_fact : FnScope N_is_wanted_fact P_is_wanted_fact (defScope S_is_wanted_fact) := ⟨rfl, rfl, rfl, by decide +kernel, rfl, by decide +kernel, by decide +kernel⟩
abbrev S_is_condition : Stmt := topS 10
abbrev N_is_condition : List Str := ["value", "facts", "pair"]
abbrev P_is_condition : List Str := ["value", "facts"]
theorem sc_is_condition : FnScope N_is_condition P_is_condition (defScope S_is_condition) := ⟨rfl, rfl, rfl, by decide +kernel, rfl, by decide +kernel, by decide +kernel⟩
section
variable {P : Program} {w : World} {K : PySem.W.Frag} {mg : Str → Option Value} {base : Heap}
theorem dp_at {K : PySem.W.Frag} {H : Hp} {d : PyData} {ds : List PyData} {xs : List V} (e : dItems d = some ds) (ha : DpAll K H xs ds) {i : Nat} (h : i < ds.length) : ∃ v, xs[i]? = some v ∧ Dp K H v (dAt d i) := by
  obtain ⟨v, h1, h2⟩ := dpAll_get ha (k := i) (d := ds[i]) (by simp [h])
  refine ⟨v, h1, ?_⟩
  have ed : dAt d i = ds[i] := by unfold dAt; rw [e]; simp [h]
  rw [ed]; exact h2
theorem wf_at {n : Nat} {d : PyData} (h : Wf (n + 1) d) (i : Nat) : Wf n (dAt d i) := by
  unfold dAt
  cases e : dItems d with
  | none => exact .non
  | some ds =>
    obtain ⟨_, m, em, hm⟩ := wf_items h e
    obtain rfl : n = m := by omega
    show Wf n (ds.getD i .none)
    by_cases hi : i < ds.length
    · have : ds.getD i .none = ds[i] := by simp [hi]
      rw [this]; exact hm _ (List.getElem_mem hi)
    · have : ds.getD i .none = .none := by simp [Nat.not_lt.mp hi]
      rw [this]; exact .non
theorem row_items {d : PyData} {i j : Int} (h : dRow d i j = true) : ∃ ds, dItems d = some ds ∧ i ≤ (ds.length : Int) ∧ (ds.length : Int) ≤ j := by
  unfold dRow at h
  cases e : dItems d with
  | none => rw [e] at h; cases h
  | some ds =>
    rw [e] at h
    have h' := Bool.and_eq_true_iff.mp h
    exact ⟨ds, rfl, of_decide_eq_true h'.1, of_decide_eq_true h'.2⟩
theorem cal_is_wanted_fact (T : Bi mg) (C_is_row : Cal P w K mg base CX0 "is_row" 3 P_is_row (spB3 K dRow)) (C_is_number : Cal P w K mg base CX0 "is_number" 3 P_is_number (spB2 K dNum)) (D : Def K mg "is_wanted_fact" S_is_wanted_fact P_is_wanted_fact) :
    Cal P w K mg base CX0 "is_wanted_fact" 4 P_is_wanted_fact (spB2 K dWanted) := by
  refine D.cal sc_is_wanted_fact (fun vs H Q E h => ?_) (fun f cdv A outer s H vs Q E hr h => ?_)
  · obtain ⟨x, d, n, i, rfl, _⟩ := h; rfl
  · obtain ⟨x, d, n, i, rfl, hd, hw, kq⟩ := h
    refine ⟨_, (pss_one (ps_ret (pe_and (pe_fn C_is_row hr (pa_cons (pv 0) (pa_cons pe_int (pa_cons pe_int pa_nil)))) (pe_and (pe_fn C_is_number hr (pa_cons (pe_ix ix_seq (pv 0) pe_int (fun _ _ => rfl)) (pa_cons (pv 1) pa_nil))) (pe_one (pe_callB (id := "isinstance") call_isi (by rfl) T.isinstance (by decide +kernel) (pa_cons (pe_ix ix_seq (pv 0) pe_int (fun _ _ => rfl)) (pa_cons (pe_bltn (v := .ty "bool") (by rfl) T.bool (by decide +kernel) rfl) pa_nil)))))))), ?_⟩
    refine ⟨_, rfl, x, d, n, 2, 2, rfl, hd, hw, fun H1 s1 => ⟨_, rfl, ?_⟩⟩
    refine ite2 (fun c => ?_) (fun c => ?_)
    · obtain ⟨ds, e, l1, l2⟩ := row_items c
      obtain ⟨a, xs, rfl, hq, ha⟩ := dp_items (dp_same s1 hd) e
      obtain ⟨_, m', rfl, _⟩ := wf_items hw e
      obtain ⟨v0, h0, d0⟩ := dp_at e ha (i := 0) (by omega)
      obtain ⟨v1, h1, d1⟩ := dp_at e ha (i := 1) (by omega)
      refine ⟨_, rfl, seq_ix hq (at_of (j := 0) rfl h0) ⟨_, rfl, v0, dAt d 0, m', i, rfl, d0, wf_at hw 0, fun H2 s2 => ⟨_, rfl, ?_⟩⟩⟩
      refine ite2 (fun c2 => ?_) (fun c2 => ?_)
      · refine ⟨_, rfl, seq_ix (hq.same s2) (at_of (j := 1) rfl h1) ⟨_, _, _, _, _, rfl, .ty "bool", dp_ty (dp_same s2 d1), kit_bool (dp_same s2 d1), ?_⟩⟩
        have k := kq _ (s1.trans s2)
        have er : dWanted d i = dBool (dAt d 1) := by unfold dWanted; rw [c, c2]; rfl
        rw [er] at k; exact k
      · have k := kq _ (s1.trans s2)
        have er : dWanted d i = false := by unfold dWanted; rw [c, Bool.eq_false_iff.mpr c2]; rfl
        rw [er] at k; exact k
    · have k := kq _ s1
      have er : dWanted d i = false := by unfold dWanted; rw [Bool.eq_false_iff.mpr c]; rfl
      rw [er] at k; exact k
theorem cal_is_condition (T : Bi mg) (C_is_sequence : Cal P w K mg base CX0 "is_sequence" 4 P_is_sequence (spB1 K dSeq)) (C_is_wanted_fact : Cal P w K mg base CX0 "is_wanted_fact" 4 P_is_wanted_fact (spB2 K dWanted)) (C_is_ascending : Cal P w K mg base CX0 "is_ascending" 4 P_is_ascending (spAscI K))
    (D : Def K mg "is_condition" S_is_condition P_is_condition) : Cal P w K mg base CX0 "is_condition" 5 P_is_condition (spB2 K dCond) := by
  refine D.cal sc_is_condition (fun vs H Q E h => ?_) (fun f cdv A outer s H vs Q E hr h => ?_)
  · obtain ⟨x, d, n, i, rfl, _⟩ := h; rfl
  · obtain ⟨x, d, n, i, rfl, hd, hw, kq⟩ := h
    refine ⟨_, (pss_cons (ps_if (PW.pt (pw_or (pt_not (pt_val (pe_fn C_is_sequence hr (pa_cons (pv 0) pa_nil)))) (pw_or1 (pt_not (pt_val (pe_callB (id := "all") (cr_all rfl) (by rfl) T.all (by decide +kernel) (pa_cons (pe_lc (own := [("pair", 2)]) (tt := tYes) rfl sc_is_condition.nd (pi_seq (pv 0)) (blkOk_by (N := N_is_condition) (sc := defScope S_is_condition) (by decide +kernel)) (fun _ _ _ _ _ => (pg_name (i := 2) sc_is_condition.nd rfl (Or.inl rfl))) (fun _ _ _ _ _ => pts_nil) (fun _ _ _ _ _ => (pe_fn C_is_wanted_fact hr (pa_cons (pv 2) (pa_cons (pv 1) pa_nil))))) pa_nil))))))) (pss_one (ps_ret pe_bl)) pss_nil)
  (pss_one (ps_ret (pe_fn C_is_ascending hr (pa_cons (pe_lc (own := [("pair", 2)]) (tt := tYes) rfl sc_is_condition.nd (pi_seq (pv 0)) (blkOk_by (N := N_is_condition) (sc := defScope S_is_condition) (by decide +kernel)) (fun _ _ _ _ _ => (pg_name (i := 2) sc_is_condition.nd rfl (Or.inl rfl))) (fun _ _ _ _ _ => pts_nil) (fun _ _ _ _ _ => (pe_ix (r := rIx K) ix_seq (pv 2) pe_int (fun _ _ => rfl)))) pa_nil))))), ?_⟩
    refine ⟨_, rfl, x, d, n, rfl, hd, hw, fun H1 s1 => ⟨_, rfl, ?_⟩⟩
    refine ite2 (fun c => ?_) (fun c => ?_)
    · -- no sequence
      have e : dItems d = none := by
        cases e : dItems d with
        | none => rfl
        | some ds => unfold dSeq at c; rw [e] at c; cases c
      have k := kq _ s1
      have er : dCond d i = false := by unfold dCond dAll; rw [e]; rfl
      rw [er] at k
      exact iteT k
    · obtain ⟨ds, e⟩ : ∃ ds, dItems d = some ds := by
        cases e : dItems d with
        | none => unfold dSeq at c; rw [e] at c; exact absurd rfl c
        | some ds => exact ⟨ds, rfl⟩
      obtain ⟨a, xs, rfl, hq, ha⟩ := dp_items (dp_same s1 hd) e
      obtain ⟨hz, m', rfl, hwi⟩ := wf_items hw e
      refine tcb1 (lc_dpS (fun e => .bool (dWanted e i)) (fun R k => ⟨_, rfl, k⟩) hq ha hz (fun e _ => ⟨0, .bl _⟩) (fun x => rfl) (fun j y e H2 Qe he s2 hy k => ?_) (fun L acc H2 hL s2 hacc hda => ?_))
      · exact ⟨_, rfl, _, rfl, y, e, m', i, rfl, hy, hwi e (List.mem_of_getElem? he), fun H3 s3 => k _ _ s3 (.bl _)⟩
      · have eb : acc = (ds.map fun e => dWanted e i).map V.bl := bools_of (by rw [List.map_map]; exact hda)
        subst eb
        refine ⟨L, _, rfl, SqL.of hacc, _, rfl, ?_⟩
        have eall : dAll (fun e => dWanted e i) d = (ds.map fun e => dWanted e i).all id := by unfold dAll; rw [e, List.all_map]; rfl
        refine ite2 (fun c2 => ?_) (fun c2 => ?_)
        · have k := kq _ (s1.trans s2)
          have er : dCond d i = false := by
            unfold dCond
            rw [eall]
            cases q : (ds.map fun e => dWanted e i).all id with
            | false => rfl
            | true => rw [q] at c2; cases c2
          rw [er] at k; exact k
        · have q : (ds.map fun e => dWanted e i).all id = true := by
            cases q : (ds.map fun e => dWanted e i).all id with
            | true => rfl
            | false => rw [q] at c2; exact absurd rfl c2
          have hall : ∀ x ∈ ds, dWanted x i = true := fun x hx => by
            rw [List.all_map] at q
            exact List.all_eq_true.mp q x hx
          refine tnx ?_
          dsimp only
          refine tret (tcall1 ?_)
          refine (lc_dpS (fun e => .int (dVal (dAt e 0))) (fun R k => ⟨_, rfl, k⟩) (hq.same s2) (dpAll_same s2 ha) hz (fun e _ => ⟨0, .int _⟩) (fun x => rfl) (fun j y e' H3 Qe he s3 hy k => ?_) (fun L2 acc H3 hL2 s3 hacc2 hda2 => ?_))
          · have hwt := hall e' (List.mem_of_getElem? he)
            unfold dWanted at hwt
            obtain ⟨c3, c4⟩ := Bool.and_eq_true_iff.mp hwt
            obtain ⟨c5, _⟩ := Bool.and_eq_true_iff.mp c4
            obtain ⟨es, e9, l1, l2⟩ := row_items c3
            obtain ⟨b, ys, rfl, hq9, ha9⟩ := dp_items hy e9
            obtain ⟨v0, h0, d0⟩ := dp_at e9 ha9 (i := 0) (by omega)
            have ei : dAt e' 0 = .int (dVal (dAt e' 0)) := by
              unfold dNum dBtw at c5
              cases q9 : dAt e' 0 <;> rw [q9] at c5 <;> first | rfl | cases c5
            refine ⟨_, rfl, seq_ix hq9 (at_of (j := 0) rfl h0) (k _ _ (Same.refl _) ?_)⟩
            rw [← ei]; exact d0
          · have ei : acc = (ds.map fun e => dVal (dAt e 0)).map V.int := ints_of (by rw [List.map_map]; exact hda2)
            subst ei
            refine ⟨L2, _, rfl, .inl (SqL.of hacc2), by rw [List.length_map]; exact hz, fun H4 s4 => ?_⟩
            have k := kq _ (((s1.trans s2).trans s3).trans s4)
            have er : dCond d i = ascI (ds.map fun e => dVal (dAt e 0)) := by unfold dCond; rw [eall, q, e]; rfl
            rw [er] at k; exact k
end
/-! ### methodworlds.errors -/
abbrev S_BadValue_init : Stmt := inClass (topS 13) 0
abbrev N_BadValue_init : List Str := ["self", "at"]
abbrev P_BadValue_init : List Str := ["self", "at"]
theorem sc_BadValue_init : FnScope N_BadValue_init P_BadValue_init (defScope S_BadValue_init) := ⟨rfl, rfl, rfl, by decide +kernel, rfl, by decide +kernel, by decide +kernel⟩
section
variable {P : Program} {w : World} {K : PySem.W.Frag} {mg : Str → Option Value} {base : Heap}
theorem exc_BadValue {C : Addr} (D : XDef K mg "BadValue" "BadValue.__init__" C S_BadValue_init P_BadValue_init) (nA : PySem.W.findIn K (.ref C) "at" = some none) : ExC P w K mg base "BadValue" C P_BadValue_init (spIni1 K C "at") := by
  have T := D.2.1
  refine D.ok sc_BadValue_init (fun vs H Q E h => ?_) (fun f cdv A outer s H vs Q E hr h => ?_)
  · obtain ⟨a, v, rfl, _⟩ := h; rfl
  · obtain ⟨a, v, rfl, ha, kq⟩ := h
    exact ⟨_, (pss_one (ps_put (pv 0) (pv 1))), _, rfl, _, rfl, a, C, rfl, T, nA, .inl ⟨ha, kq⟩⟩
end
abbrev S_BadMethod_init : Stmt := inClass (topS 14) 0
abbrev N_BadMethod_init : List Str := ["self", "task", "method"]
abbrev P_BadMethod_init : List Str := ["self", "task", "method"]
theorem sc_BadMethod_init : FnScope N_BadMethod_init P_BadMethod_init (defScope S_BadMethod_init) := ⟨rfl, rfl, rfl, by decide +kernel, rfl, by decide +kernel, by decide +kernel⟩
section
variable {P : Program} {w : World} {K : PySem.W.Frag} {mg : Str → Option Value} {base : Heap}
theorem exc_BadMethod {C : Addr} (D : XDef K mg "BadMethod" "BadMethod.__init__" C S_BadMethod_init P_BadMethod_init) (n1 : PySem.W.findIn K (.ref C) "task" = some none) (n2 : PySem.W.findIn K (.ref C) "method" = some none) : ExC P w K mg base "BadMethod" C P_BadMethod_init (spIni2 K C "task" "method") := by
  have T := D.2.1
  refine D.ok sc_BadMethod_init (fun vs H Q E h => ?_) (fun f cdv A outer s H vs Q E hr h => ?_)
  · obtain ⟨a, v, u, rfl, _⟩ := h; rfl
  · obtain ⟨a, v, u, rfl, ha, kq⟩ := h
    refine ⟨_, (pss_cons (ps_put (pv 0) (pv 1))
  (pss_one (ps_put (pv 0) (pv 2)))), _, rfl, _, rfl, a, C, rfl, T, n1, .inl ⟨ha, fun dx hdx hne => ?_⟩⟩
    refine ⟨_, rfl, _, rfl, a, C, rfl, T, n2, .inr ⟨dx, _, upd_same, by rw [upd_ne hne]; exact upd_same, by show 1 ≤ 900; decide, kq dx hdx hne⟩⟩
end
theorem not_true {b : Bool} (h : ¬ (!b) = true) : b = true := by cases b <;> simp_all
theorem not_false' {b : Bool} (h : (!b) = true) : b = false := by cases b <;> simp_all
end Mw
set_option Elab.async false
set_option maxRecDepth 100000
set_option maxHeartbeats 1000000
namespace Mw
open PySem L2
/-! ### methodworlds.books -/
abbrev S_is_step : Stmt := topS 21
abbrev N_is_step : List Str := ["value", "deeds", "tasks", "word", "number"]
abbrev P_is_step : List Str := ["value", "deeds", "tasks"]
theorem sc_is_step : FnScope N_is_step P_is_step (defScope S_is_step) := ⟨rfl, rfl, rfl, by decide +kernel, rfl, by decide +kernel, by decide +kernel⟩
abbrev S_is_method : Stmt := topS 22
abbrev N_is_method : List Str := ["value", "facts", "deeds", "tasks", "step"]
abbrev P_is_method : List Str := ["value", "facts", "deeds", "tasks"]
theorem sc_is_method : FnScope N_is_method P_is_method (defScope S_is_method) := ⟨rfl, rfl, rfl, by decide +kernel, rfl, by decide +kernel, by decide +kernel⟩
abbrev S_are_tasks : Stmt := topS 23
abbrev N_are_tasks : List Str := ["value", "task"]
abbrev P_are_tasks : List Str := ["value"]
theorem sc_are_tasks : FnScope N_are_tasks P_are_tasks (defScope S_are_tasks) := ⟨rfl, rfl, rfl, by decide +kernel, rfl, by decide +kernel, by decide +kernel⟩
section
variable {P : Program} {w : World} {K : PySem.W.Frag} {mg : Str → Option Value} {base : Heap}
theorem two_ofB {ds : List PyData} (l1 : (2 : Int) ≤ (ds.length : Int)) (l2 : (ds.length : Int) ≤ 2) : ∃ a b, ds = [a, b] := by
  rcases ds with _ | ⟨a, _ | ⟨b, _ | ⟨c, t⟩⟩⟩
  all_goals first
    | exact ⟨_, _, rfl⟩
    | (exfalso; simp only [List.length_cons, List.length_nil] at l1 l2; omega)
theorem cal_is_step (T : Bi mg) (C_is_row : Cal P w K mg base CX0 "is_row" 3 P_is_row (spB3 K dRow)) (C_is_number : Cal P w K mg base CX0 "is_number" 3 P_is_number (spB2 K dNum)) (D : Def K mg "is_step" S_is_step P_is_step) :
    Cal P w K mg base CX0 "is_step" 4 P_is_step (spStep K) := by
  refine D.cal sc_is_step (fun vs H Q E h => ?_) (fun f cdv A outer s H vs Q E hr h => ?_)
  · obtain ⟨x, d, n, i, j, rfl, _⟩ := h; rfl
  · obtain ⟨x, d, n, i, j, rfl, hd, hw, hsh, kq⟩ := h
    refine ⟨_, (pss_cons (ps_if (pt_not (pt_val (pe_fn C_is_row hr (pa_cons (pv 0) (pa_cons pe_int (pa_cons pe_int pa_nil)))))) (pss_one (ps_ret pe_bl)) pss_nil)
  (pss_cons (ps_asg (pv 0) (pg_seq rfl (pgs_cons (pg_name (i := 3) sc_is_step.nd rfl (Or.inl rfl)) (pgs_cons (pg_name (i := 4) sc_is_step.nd rfl (Or.inl rfl)) pgs_nil))))
  (pss_one (ps_ret (pe_or (pe_and (pe_cmpR (op_eqD (hu64 hr)) (pv 3) pe_str (nomark _)) (pe_one (pe_fn C_is_number hr (pa_cons (pv 4) (pa_cons (pv 1) pa_nil))))) (pe_one (pe_and (pe_cmpR (op_eqD (hu64 hr)) (pv 3) pe_str (nomark _)) (pe_one (pe_fn C_is_number hr (pa_cons (pv 4) (pa_cons (pv 2) pa_nil))))))))))), ?_⟩
    refine ⟨_, rfl, x, d, n, 2, 2, rfl, hd, hw, fun H1 s1 => ⟨_, rfl, ?_⟩⟩
    refine ite2 (fun c => ?_) (fun c => ?_)
    · have k := kq _ s1
      have er : dStep d i j = false := by unfold dStep; rw [not_false' c]; rfl
      rw [er] at k; exact k
    have c1 := not_true c
    obtain ⟨ds, e, l1, l2⟩ := row_items c1
    obtain ⟨a, xs, rfl, hq, ha⟩ := dp_items (dp_same s1 hd) e
    obtain ⟨hz, m', rfl, hwi⟩ := wf_items hw e
    obtain ⟨d0, d1, rfl⟩ := two_ofB l1 l2
    cases ha with
    | @cons v0 vr _ _ h0 ha =>
    cases ha with
    | @cons v1 vr _ _ h1 ha =>
      cases ha
      have e0 : dAt d 0 = d0 := by unfold dAt; rw [e]; rfl
      have e1 : dAt d 1 = d1 := by unfold dAt; rw [e]; rfl
      have er : dStep d i j = ((PyData.eqv d0 (.str "deed") && dNum d1 i) || (PyData.eqv d0 (.str "task") && dNum d1 j)) := by unfold dStep; rw [c1, e0, e1, Bool.true_and]
      have sh0 : Sh d0 := hsh.item e (by simp)
      have w1 := hwi d1 (by simp)
      refine tnx ?_
      dsimp only
      refine ⟨_, rfl, a, _, rfl, hq, rfl, _, _, rfl, _, _, rfl, rfl, ?_⟩
      refine ⟨_, rfl, d0, .str "deed", h0, .str _, sh0.shaped, (sh_str (by decide +kernel)).shaped, _, rfl, ?_⟩
      refine ite2 (fun c2 => ?_) (fun c2 => ?_)
      · refine ⟨_, rfl, _, rfl, v1, d1, m', i, rfl, h1, w1, fun H2 s2 => ⟨_, rfl, ?_⟩⟩
        refine ite2 (fun c3 => ?_) (fun c3 => ?_)
        · have k := kq _ (s1.trans s2)
          have e9 : dStep d i j = true := by rw [er, c2, c3]; rfl
          rw [e9] at k; exact k
        · refine ⟨_, rfl, d0, .str "task", dp_same s2 h0, .str _, sh0.shaped, (sh_str (by decide +kernel)).shaped, _, rfl, ?_⟩
          refine ite2 (fun c4 => ?_) (fun c4 => ?_)
          · refine ⟨_, rfl, _, rfl, v1, d1, m', j, rfl, dp_same s2 h1, w1, fun H3 s3 => ?_⟩
            have k := kq _ ((s1.trans s2).trans s3)
            have e9 : dStep d i j = dNum d1 j := by rw [er, c2, eq_false_of_ne_true c3, c4]; rfl
            rw [e9] at k; exact k
          · have k := kq _ (s1.trans s2)
            have e9 : dStep d i j = false := by rw [er, c2, eq_false_of_ne_true c3, eq_false_of_ne_true c4]; rfl
            rw [e9] at k; exact k
      · refine ⟨_, rfl, iteF ⟨_, rfl, d0, .str "task", h0, .str _, sh0.shaped, (sh_str (by decide +kernel)).shaped, _, rfl, ?_⟩⟩
        refine ite2 (fun c4 => ?_) (fun c4 => ?_)
        · refine ⟨_, rfl, _, rfl, v1, d1, m', j, rfl, h1, w1, fun H3 s3 => ?_⟩
          have k := kq _ (s1.trans s3)
          have e9 : dStep d i j = dNum d1 j := by rw [er, eq_false_of_ne_true c2, c4]; rfl
          rw [e9] at k; exact k
        · have k := kq _ s1
          have e9 : dStep d i j = false := by rw [er, eq_false_of_ne_true c2, eq_false_of_ne_true c4]; rfl
          rw [e9] at k; exact k
theorem cal_is_method (T : Bi mg) (C_is_row : Cal P w K mg base CX0 "is_row" 5 P_is_row (spB3 K dRow)) (C_is_condition : Cal P w K mg base CX0 "is_condition" 5 P_is_condition (spB2 K dCond)) (C_is_step : Cal P w K mg base CX0 "is_step" 5 P_is_step (spStep K)) (D : Def K mg "is_method" S_is_method P_is_method) :
    Cal P w K mg base CX0 "is_method" 6 P_is_method (spMethod K) := by
  refine D.cal sc_is_method (fun vs H Q E h => ?_) (fun f cdv A outer s H vs Q E hr h => ?_)
  · obtain ⟨x, d, n, f, i, j, rfl, _⟩ := h; rfl
  · obtain ⟨x, d, n, f, i, j, rfl, hd, hw, hsh, kq⟩ := h
    refine ⟨_, (pss_cons (ps_if (PW.pt (pw_or (pt_not (pt_val (pe_fn C_is_row hr (pa_cons (pv 0) (pa_cons pe_int (pa_cons pe_int pa_nil)))))) (pw_or (pt_not (pt_val (pe_fn C_is_condition hr (pa_cons (pe_ix ix_seq (pv 0) pe_int (fun _ _ => rfl)) (pa_cons (pv 1) pa_nil))))) (pw_or1 (pt_not (pt_val (pe_fn C_is_row hr (pa_cons (pe_ix ix_seq (pv 0) pe_int (fun _ _ => rfl)) (pa_cons pe_int (pa_cons (pe_const T.g_MOST_STEPS) pa_nil)))))))))) (pss_one (ps_ret pe_bl)) pss_nil)
  (pss_one (ps_ret (pe_callB (id := "all") (cr_all rfl) (by rfl) T.all (by decide +kernel) (pa_cons (pe_lc (own := [("step", 4)]) (tt := tYes) rfl sc_is_method.nd (pi_seq (pe_ix ix_seq (pv 0) pe_int (fun _ _ => rfl))) (blkOk_by (N := N_is_method) (sc := defScope S_is_method) (by decide +kernel)) (fun _ _ _ _ _ => (pg_name (i := 4) sc_is_method.nd rfl (Or.inl rfl))) (fun _ _ _ _ _ => pts_nil) (fun _ _ _ _ _ => (pe_fn C_is_step hr (pa_cons (pv 4) (pa_cons (pv 2) (pa_cons (pv 3) pa_nil)))))) pa_nil))))), ?_⟩
    refine ⟨_, rfl, x, d, n, 2, 2, rfl, hd, hw, fun H1 s1 => ⟨_, rfl, ?_⟩⟩
    refine ite2 (fun c => ?_) (fun c => ?_)
    · have k := kq _ s1
      have er : dMethod d f i j = false := by unfold dMethod; rw [not_false' c]; rfl
      rw [er] at k; exact iteT k
    have c1 := not_true c
    obtain ⟨ds, e, l1, l2⟩ := row_items c1
    obtain ⟨a, xs, rfl, hq, ha⟩ := dp_items (dp_same s1 hd) e
    obtain ⟨hz, m', rfl, hwi⟩ := wf_items hw e
    obtain ⟨d0, d1, rfl⟩ := two_ofB l1 l2
    cases ha with
    | @cons v0 vr _ _ h0 ha =>
    cases ha with
    | @cons v1 vr _ _ h1 ha =>
      cases ha
      have e0 : dAt d 0 = d0 := by unfold dAt; rw [e]; rfl
      have e1 : dAt d 1 = d1 := by unfold dAt; rw [e]; rfl
      have er : dMethod d f i j = (dCond d0 f && (dRow d1 0 5 && dAll (fun e => dStep e i j) d1)) := by unfold dMethod; rw [c1, e0, e1, Bool.true_and]
      have sh1 : Sh d1 := hsh.item e (by simp)
      have w0 := hwi d0 (by simp)
      have w1 := hwi d1 (by simp)
      refine ⟨_, rfl, seq_ix hq (at_of (j := 0) rfl rfl) ⟨_, rfl, v0, d0, m', f, rfl, h0, w0, fun H2 s2 => ⟨_, rfl, ?_⟩⟩⟩
      have s12 := s1.trans s2
      refine ite2 (fun c2 => ?_) (fun c2 => ?_)
      · have k := kq _ s12
        rw [er, not_false' c2] at k; exact iteT k
      rw [not_true c2, Bool.true_and] at er
      refine ⟨_, rfl, seq_ix (hq.same s2) (at_of (j := 1) rfl rfl) ⟨v1, d1, m', 0, 5, rfl, dp_same s2 h1, w1, fun H3 s3 => ⟨_, rfl, ?_⟩⟩⟩
      have s13 := s12.trans s3
      refine ite2 (fun c3 => ?_) (fun c3 => ?_)
      · have k := kq _ s13
        rw [er, not_false' c3] at k; exact k
      rw [not_true c3, Bool.true_and] at er
      obtain ⟨es, e9, _, _⟩ := row_items (not_true c3)
      obtain ⟨b, ys, rfl, hqb, hab⟩ := dp_items (dp_same (s2.trans s3) h1) e9
      obtain ⟨hz9, m2, rfl, hwe⟩ := wf_items w1 e9
      refine tnx ?_
      dsimp only
      refine tret (tcb1 (lc_dpS (fun e => .bool (dStep e i j)) (fun R k => ⟨_, rfl, seq_ix (hq.same (s2.trans s3)) (at_of (j := 1) rfl rfl) k⟩) hqb hab hz9 (fun e _ => ⟨0, .bl _⟩) (fun x => rfl) (fun q y e' H4 Qe he s4 hy k => ?_) (fun L acc H4 hL s4 hacc hda => ?_)))
      · exact ⟨_, rfl, _, rfl, _, rfl, y, e', m2, i, j, rfl, hy, hwe e' (List.mem_of_getElem? he), sh1.item e9 (List.mem_of_getElem? he), fun H5 s5 => k _ _ s5 (.bl _)⟩
      · have eb : acc = (es.map fun e => dStep e i j).map V.bl := bools_of (by rw [List.map_map]; exact hda)
        subst eb
        refine ⟨L, _, rfl, SqL.of hacc, ?_⟩
        have k := kq _ (s13.trans s4)
        have e10 : dAll (fun e => dStep e i j) d1 = (es.map fun e => dStep e i j).all id := by unfold dAll; rw [e9, List.all_map]; rfl
        rw [er, e10] at k; exact k
theorem cal_are_tasks (T : Bi mg) (C_is_row : Cal P w K mg base CX0 "is_row" 2 P_is_row (spB3 K dRow)) (D : Def K mg "are_tasks" S_are_tasks P_are_tasks) : Cal P w K mg base CX0 "are_tasks" 3 P_are_tasks (spB1 K dTasks) := by
  refine D.cal sc_are_tasks (fun vs H Q E h => ?_) (fun f cdv A outer s H vs Q E hr h => ?_)
  · obtain ⟨x, d, n, rfl, _⟩ := h; rfl
  · obtain ⟨x, d, n, rfl, hd, hw, kq⟩ := h
    refine ⟨_, (pss_one (ps_ret (pe_and (pe_fn C_is_row hr (pa_cons (pv 0) (pa_cons pe_int (pa_cons (pe_const T.g_MOST_TASKS) pa_nil)))) (pe_one (pe_callB (id := "all") (cr_all rfl) (by rfl) T.all (by decide +kernel) (pa_cons (pe_lc (own := [("task", 1)]) (tt := tYes) rfl sc_are_tasks.nd (pi_seq (pv 0)) (blkOk_by (N := N_are_tasks) (sc := defScope S_are_tasks) (by decide +kernel)) (fun _ _ _ _ _ => (pg_name (i := 1) sc_are_tasks.nd rfl (Or.inl rfl))) (fun _ _ _ _ _ => pts_nil) (fun _ _ _ _ _ => (pe_fn C_is_row hr (pa_cons (pv 1) (pa_cons pe_int (pa_cons (pe_const T.g_MOST_METHODS) pa_nil)))))) pa_nil)))))), ?_⟩
    refine ⟨_, rfl, x, d, n, 1, 6, rfl, hd, hw, fun H1 s1 => ⟨_, rfl, ?_⟩⟩
    refine ite2 (fun c => ?_) (fun c => ?_)
    · obtain ⟨ds, e, _, _⟩ := row_items c
      obtain ⟨a, xs, rfl, hq, ha⟩ := dp_items (dp_same s1 hd) e
      obtain ⟨hz, m', rfl, hwi⟩ := wf_items hw e
      refine tcb1 (lc_dpS (fun e => .bool (dRow e 0 5)) (fun R k => ⟨_, rfl, k⟩) hq ha hz (fun e _ => ⟨0, .bl _⟩) (fun x => rfl) (fun q y e' H2 Qe he s2 hy k => ?_) (fun L acc H2 hL s2 hacc hda => ?_))
      · exact ⟨_, rfl, y, e', m', 0, 5, rfl, hy, hwi e' (List.mem_of_getElem? he), fun H3 s3 => k _ _ s3 (.bl _)⟩
      · have eb : acc = (ds.map fun e => dRow e 0 5).map V.bl := bools_of (by rw [List.map_map]; exact hda)
        subst eb
        refine ⟨L, _, rfl, SqL.of hacc, ?_⟩
        have k := kq _ (s1.trans s2)
        have er : dTasks d = (ds.map fun e => dRow e 0 5).all id := by unfold dTasks dAll; rw [c, e, Bool.true_and, List.all_map]; rfl
        rw [er] at k; exact k
    · have k := kq _ s1
      have er : dTasks d = false := by unfold dTasks; rw [eq_false_of_ne_true c]; rfl
      rw [er] at k; exact k
end
end Mw
set_option Elab.async false
set_option maxRecDepth 100000
set_option maxHeartbeats 1000000
namespace Mw
open PySem L2
abbrev S_Book_init : Stmt := inClass (topS 24) 0
abbrev N_Book_init : List Str := ["self", "facts", "deeds", "tasks", "task", "methods", "method", "told"]
abbrev P_Book_init : List Str := ["self", "facts", "deeds", "tasks"]
theorem sc_Book_init : FnScope N_Book_init P_Book_init (defScope S_Book_init) := ⟨rfl, rfl, rfl, by decide +kernel, rfl, by decide +kernel, by decide +kernel⟩
section
variable {P : Program} {w : World} {K : PySem.W.Frag} {mg : Str → Option Value} {base : Heap}
/-- the attributes' names are no class's -/
structure BAttr (K : PySem.W.Frag) (C : Addr) : Prop where
  f : NoAttr K C "_facts"
  d : NoAttr K C "_deeds"
  t : NoAttr K C "_tasks"
theorem fs_b1 {f : V} : putF "_facts" f [] = [(("_facts" : Str), f)] := rfl
theorem fs_b2 {f s : V} : putF "_deeds" s [(("_facts" : Str), f)] = ([("_facts", f), ("_deeds", s)] : List (Str × V)) := by
  show (if ("_facts" : Str) = "_deeds" then [(("_facts" : Str), s)] else (("_facts" : Str), f) :: putF "_deeds" s []) = ([("_facts", f), ("_deeds", s)] : List (Str × V))
  rw [if_neg (by decide +kernel)]; rfl
theorem fs_b3 {f s m : V} : putF "_tasks" m [(("_facts" : Str), f), ("_deeds", s)] = ([("_facts", f), ("_deeds", s), ("_tasks", m)] : List (Str × V)) := by
  show (if ("_facts" : Str) = "_tasks" then [(("_facts" : Str), m), ("_deeds", s)] else (("_facts" : Str), f) :: (if ("_deeds" : Str) = "_tasks" then [(("_deeds" : Str), m)] else (("_deeds" : Str), s) :: putF "_tasks" m [])) = ([("_facts", f), ("_deeds", s), ("_tasks", m)] : List (Str × V))
  rw [if_neg (by decide +kernel), if_neg (by decide +kernel)]; rfl
theorem int_of_btw {d : PyData} {i j : Int} (h : dBtw d i j = true) : ∃ k, d = .int k := by cases d <;> first | exact ⟨_, rfl⟩ | cases h
theorem new_book {C : Addr} {cs : Nat → Addr} {n : Nat} (T : Bi mg) (X_BadValue : ExC P w K mg base "BadValue" (cs 0) P_BadValue_init (spIni1 K (cs 0) "at")) (X_BadMethod : ExC P w K mg base "BadMethod" (cs 2) P_BadMethod_init (spIni2 K (cs 2) "task" "method"))
    (C_is_between : Cal P w K mg base CX0 "is_between" (n + 7) P_is_between (spB3 K dBtw)) (C_are_tasks : Cal P w K mg base CX0 "are_tasks" (n + 7) P_are_tasks (spB1 K dTasks)) (C_is_method : Cal P w K mg base CX0 "is_method" (n + 7) P_is_method (spMethod K))
    (C_plain : Cal P w K mg base CX0 "plain" (n + 7) P_plain (spPlain K (n + 1))) (D : CDef K mg "Book" "Book.__init__" C S_Book_init P_Book_init) (wa : BAttr K C) :
    CCal P w K mg base (L2.CX P w) "Book" C (n + 8) P_Book_init (spBookInit K C cs n) := by
  have cl := D.2.1
  refine D.okX sc_Book_init (fun vs H Q E h => ?_) (fun f cdv A outer s H vs Q E hr h => ?_)
  · obtain ⟨a, dx, xf, xd, xt, df, dd, dt, rfl, _⟩ := h; rfl
  · obtain ⟨a, dx, xf, xd, xt, df, dd, dt, rfl, ha, hf, hdd, ht, wf, wd, wt, sh, kq⟩ := h
    refine ⟨_, (pss_cons (ps_if (pt_not (pt_val (pe_fn C_is_between hr (pa_cons (pv 1) (pa_cons pe_int (pa_cons (pe_const T.g_MOST_FACTS) pa_nil)))))) (pss_one (ps_raise rfl (takes_of rfl rfl rfl rfl) (pmk_ex (k := 1) X_BadValue (hr.mono (by omega)) (pa_cons pe_int pa_nil)))) pss_nil)
  (pss_cons (ps_if (pt_not (pt_val (pe_fn C_is_between hr (pa_cons (pv 2) (pa_cons pe_int (pa_cons (pe_const T.g_MOST_DEEDS) pa_nil)))))) (pss_one (ps_raise rfl (takes_of rfl rfl rfl rfl) (pmk_ex (k := 1) X_BadValue (hr.mono (by omega)) (pa_cons pe_int pa_nil)))) pss_nil)
  (pss_cons (ps_if (pt_not (pt_val (pe_fn C_are_tasks hr (pa_cons (pv 3) pa_nil)))) (pss_one (ps_raise rfl (takes_of rfl rfl rfl rfl) (pmk_ex (k := 1) X_BadValue (hr.mono (by omega)) (pa_cons pe_int pa_nil)))) pss_nil)
  (pss_cons (ps_for (passes_of rfl) rfl (pi_enumS (by rfl) T.enumerate (pa_cons (pv 3) pa_nil)) (pg_tup rfl (pgs_cons (pg_name (i := 4) sc_Book_init.nd rfl (Or.inl rfl)) (pgs_cons (pg_name (i := 5) sc_Book_init.nd rfl (Or.inl rfl)) pgs_nil))) (pss_one (ps_for (passes_of rfl) rfl (pi_enumS (by rfl) T.enumerate (pa_cons (pv 5) pa_nil)) (pg_tup rfl (pgs_cons (pg_name (i := 6) sc_Book_init.nd rfl (Or.inl rfl)) (pgs_cons (pg_name (i := 7) sc_Book_init.nd rfl (Or.inl rfl)) pgs_nil))) (pss_one (ps_if (pt_not (pt_val (pe_fn C_is_method hr (pa_cons (pv 7) (pa_cons (pv 1) (pa_cons (pv 2) (pa_cons (pe_callB (id := "len") call_len_seq (by rfl) T.len (by decide +kernel) (pa_cons (pv 3) pa_nil)) pa_nil))))))) (pss_one (ps_raise rfl (takes_of rfl rfl rfl rfl) (pmk_ex (k := 1) X_BadMethod (hr.mono (by omega)) (pa_cons (pv 4) (pa_cons (pv 6) pa_nil))))) pss_nil)))))
  (pss_cons (ps_fld (pv 0) (pv 1) rfl)
  (pss_cons (ps_fld (pv 0) (pv 2) rfl)
  (pss_one (ps_fld (pv 0) (pe_fn C_plain hr (pa_cons (pv 3) pa_nil)) rfl)))))))), ?_⟩
    refine ⟨_, rfl, xf, df, n, 0, 4, rfl, hf, wf, fun H1 s1 => ⟨_, rfl, ?_⟩⟩
    refine ite2 (fun c => ?_) (fun c => ?_)
    · have er : errBook df dd dt = fValue 1 := by unfold errBook; rw [not_false' c]; rfl
      rw [er] at kq
      exact ⟨by show 1 ≤ 1000; decide, made1 fun d9 H' s2 n2 e2 => kq d9 H' (s1.trans s2) (s1.free n2) e2⟩
    have c1 := not_true c
    obtain ⟨i, rfl⟩ := int_of_btw c1
    cases hf
    refine tnx ?_
    dsimp only
    refine ⟨_, rfl, xd, dd, n, 1, 5, rfl, dp_same s1 hdd, wd, fun H2 s2 => ⟨_, rfl, ?_⟩⟩
    have sA := s1.trans s2
    refine ite2 (fun c2 => ?_) (fun c2 => ?_)
    · have er : errBook (.int i) dd dt = fValue 2 := by unfold errBook; rw [if_pos c1, not_false' c2]; rfl
      rw [er] at kq
      exact ⟨by show 1 ≤ 1000; decide, made1 fun d9 H' s3 n3 e3 => kq d9 H' (sA.trans s3) (sA.free n3) e3⟩
    have c3 := not_true c2
    obtain ⟨j, rfl⟩ := int_of_btw c3
    cases hdd
    refine tnx ?_
    dsimp only
    refine ⟨_, rfl, xt, dt, n, rfl, dp_same sA ht, wt, fun H3 s3 => ⟨_, rfl, ?_⟩⟩
    have sB := sA.trans s3
    refine ite2 (fun c4 => ?_) (fun c4 => ?_)
    · have er : errBook (.int i) (.int j) dt = fValue 3 := by unfold errBook; rw [if_pos c1, if_pos c3, not_false' c4]; rfl
      rw [er] at kq
      exact ⟨by show 1 ≤ 1000; decide, made1 fun d9 H' s4 n4 e4 => kq d9 H' (sB.trans s4) (sB.free n4) e4⟩
    have c5 := not_true c4
    obtain ⟨c6, c7⟩ := Bool.and_eq_true_iff.mp (show (dRow dt 1 6 && dAll (fun e => dRow e 0 5) dt) = true from c5)
    obtain ⟨ts, et, l1, l6⟩ := row_items c6
    obtain ⟨tb, xs, rfl, hq, hta⟩ := dp_items (dp_same sB ht) et
    obtain ⟨hz, m', em, hwi⟩ := wf_items wt et
    have hrow : ∀ t ∈ ts, dRow t 0 5 = true := fun t h9 => by
      unfold dAll at c7; rw [et] at c7
      exact List.all_eq_true.mp c7 t h9
    have el := dpAll_len hta
    have en : dLen dt = (ts.length : Int) := by unfold dLen; rw [et]; rfl
    have er : errBook (.int i) (.int j) dt = errTasks i j (dLen dt) 0 ts := by unfold errBook; rw [if_pos c1, if_pos c3, if_pos c5, et]; rfl
    refine tnx ?_
    dsimp only
    refine ⟨_, rfl, tb, xs, rfl, for_enum hq (fun k σ H' => (∃ v4 v5 v6 v7 : Option V, σ = [some (.ref a), some (.int i), some (.int j), some (.ref tb), v4, v5, v6, v7]) ∧ Same H3 H' ∧ ∀ t ∈ ts.take k, badOf i j (dLen dt) t = none) ⟨⟨_, _, _, _, rfl⟩, Same.refl _, fun e he => by simp at he⟩ (fun _ _ _ _ p => p.2.1) ?_ ?_⟩
    · rintro k y σ H4 U hy ⟨⟨v4, v5, v6, v7, rfl⟩, s4, hall⟩ hU
      have hk : k < ts.length := by rw [← el]; exact (List.getElem?_eq_some_iff.mp hy).1
      obtain ⟨t, htk⟩ : ∃ t, ts[k]? = some t := ⟨ts[k], by simp [hk]⟩
      have htm := List.mem_of_getElem? htk
      obtain ⟨v, hv, hvd⟩ := dpAll_get hta htk
      rw [hy] at hv
      obtain rfl := Option.some.inj hv
      have s5 : Same H3 (upd H4 U (.tup [.int (k : Nat), y])) := s4.trans (Same.new hU)
      obtain ⟨es, ee, _, _⟩ := row_items (hrow t htm)
      obtain ⟨mb, ys, rfl, hqm, hma⟩ := dp_items (dp_same s5 hvd) ee
      obtain ⟨hze, m2, em2, hwe⟩ := wf_items (hwi t htm) ee
      have elm := dpAll_len hma
      have eb : badOf i j (dLen dt) t = firstBad (fun e => dMethod e i j (dLen dt)) es := by unfold badOf; rw [ee]; rfl
      refine ⟨U, [.int (k : Nat), .ref mb], rfl, SqT.of upd_same, rfl, _, _, rfl, _, _, rfl, rfl, ?_⟩
      refine ⟨_, rfl, mb, ys, rfl, for_enum hqm (fun q σ H' => (∃ v6 v7 : Option V, σ = [some (.ref a), some (.int i), some (.int j), some (.ref tb), some (.int (k : Nat)), some (.ref mb), v6, v7]) ∧ Same (upd H4 U (.tup [.int (k : Nat), .ref mb])) H' ∧ ∀ e ∈ es.take q, dMethod e i j (dLen dt) = true) ⟨⟨_, _, rfl⟩, Same.refl _, fun e he => by simp at he⟩ (fun _ _ _ _ p => p.2.1) ?_ ?_⟩
      · rintro q z σ H5 W hz5 ⟨⟨v6, v7, rfl⟩, s6, hall2⟩ hW
        have hq5 : q < es.length := by rw [← elm]; exact (List.getElem?_eq_some_iff.mp hz5).1
        obtain ⟨e, heq⟩ : ∃ e, es[q]? = some e := ⟨es[q], by simp [hq5]⟩
        have hem := List.mem_of_getElem? heq
        obtain ⟨v, hv, hed⟩ := dpAll_get hma heq
        rw [hz5] at hv
        obtain rfl := Option.some.inj hv
        have s7 : Same (upd H4 U (.tup [.int (k : Nat), .ref mb])) (upd H5 W (.tup [.int (q : Nat), z])) := s6.trans (Same.new hW)
        have s37 := s5.trans s7
        refine ⟨W, [.int (q : Nat), z], rfl, SqT.of upd_same, rfl, _, _, rfl, _, _, rfl, rfl, ?_⟩
        refine ⟨_, rfl, _, rfl, _, rfl, _, rfl, tb, xs, rfl, hq.same s37, z, e, m2, i, j, dLen dt, ?_, dp_same s7 hed, hwe e hem, (sh.item et htm).item ee hem, fun H6 s8 => ⟨_, rfl, ?_⟩⟩
        · show [z, V.int i, V.int j, V.int (xs.length : Int)] = _
          rw [el, en]
        · refine ite2 (fun c8 => ?_) (fun c8 => ?_)
          · have e9 : badOf i j (dLen dt) t = some q := by rw [eb]; exact firstBad_some heq (not_false' c8) hall2
            rw [er, errTasks_some htk e9 hall, Nat.zero_add] at kq
            have s9 := sB.trans (s37.trans s8)
            exact ⟨_, rfl, _, rfl, by show 2 ≤ 1000; decide, made2 fun d9 H' s10 n10 e10 => kq d9 H' (s9.trans s10) (s9.free n10) e10⟩
          · refine ⟨⟨_, _, rfl⟩, s7.trans s8, fun e' he' => ?_⟩
            rw [take_succ_of heq] at he'
            rcases List.mem_append.mp he' with g | g
            · exact hall2 e' g
            · rw [List.mem_singleton.mp g]; exact not_true c8
      · rintro σ H5 ⟨⟨v6, v7, rfl⟩, s6, hall2⟩
        rw [elm, List.take_length] at hall2
        refine ⟨⟨_, _, _, _, rfl⟩, s5.trans s6, fun t' ht' => ?_⟩
        rw [take_succ_of htk] at ht'
        rcases List.mem_append.mp ht' with g | g
        · exact hall t' g
        · rw [List.mem_singleton.mp g, eb]; exact firstBad_none hall2
    · rintro σ H4 ⟨⟨v4, v5, v6, v7, rfl⟩, s4, hall⟩
      rw [el, List.take_length] at hall
      rw [er, errTasks_none hall] at kq
      have sC := sB.trans s4
      dsimp only
      refine ⟨_, rfl, _, rfl, a, C, dx, _, rfl, sC _ _ ha, cl, wa.f, by show 0 < 1000; decide, ?_⟩
      rw [fs_b1]
      have k3 := SameS.put (fs' := [("_facts", V.int i)]) (sC _ _ ha)
      refine ⟨_, rfl, _, rfl, a, C, dx, _, rfl, upd_same, cl, wa.d, by show 1 < 1000; decide, ?_⟩
      rw [fs_b2]
      have k4 := SameS.put (fs' := [("_facts", V.int i), ("_deeds", V.int j)]) (upd_same (H := H4) (a := a) (o := .ins C dx [("_facts", V.int i)]))
      refine ⟨_, rfl, _, dt, n, rfl, dp_keep k4 (dp_keep k3 (dp_same sC ht)), wt, by omega, fun y1 H5 s5 hy1 => ?_⟩
      have a5 : H5 a = some (.ins C dx [("_facts", .int i), ("_deeds", .int j)]) := s5 _ _ upd_same
      refine ⟨_, rfl, a, C, dx, _, rfl, a5, cl, wa.t, by show 2 < 1000; decide, ?_⟩
      rw [fs_b3]
      have k6 := SameS.put (fs' := [("_facts", V.int i), ("_deeds", V.int j), ("_tasks", y1)]) a5
      exact kq _ ((((Same.but sC).put).put).same s5).put ⟨dx, y1, upd_same, dp_keep k6 hy1⟩
end
end Mw
set_option Elab.async false
set_option maxRecDepth 100000
set_option maxHeartbeats 1000000
namespace Mw
open PySem L2
/-! ### the row of drawn numbers, a draw, the next one -/
abbrev S_law_numbers : Stmt := topS 26
abbrev N_law_numbers : List Str := ["script", "row", "cell", "left", "k", "mixed"]
abbrev P_law_numbers : List Str := ["script"]
theorem sc_law_numbers : FnScope N_law_numbers P_law_numbers (defScope S_law_numbers) := ⟨rfl, rfl, rfl, by decide +kernel, rfl, by decide +kernel, by decide +kernel⟩
abbrev S_law_draw : Stmt := topS 27
abbrev N_law_draw : List Str := ["row", "at", "limit", "mixed"]
abbrev P_law_draw : List Str := ["row", "at", "limit"]
theorem sc_law_draw : FnScope N_law_draw P_law_draw (defScope S_law_draw) := ⟨rfl, rfl, rfl, by decide +kernel, rfl, by decide +kernel, by decide +kernel⟩
abbrev S_law_take : Stmt := topS 28
abbrev N_law_take : List Str := ["row", "spot", "limit"]
abbrev P_law_take : List Str := ["row", "spot", "limit"]
theorem sc_law_take : FnScope N_law_take P_law_take (defScope S_law_take) := ⟨rfl, rfl, rfl, by decide +kernel, rfl, by decide +kernel, by decide +kernel⟩
theorem small_log {i : Int} (h0 : 0 ≤ i) (h : i < 4294967296) : i.natAbs.log2 < 64 := PySem.Flt.log2_lt_of (by decide) (by omega)
theorem mulB_small {i j : Int} (h0 : 0 ≤ i) (h1 : i < 4294967296) (h2 : 0 ≤ j) (h3 : j < 4294967296) : CMulB i j := by
  have a := small_log h0 h1
  have b := small_log h2 h3
  unfold CMulB
  omega
theorem nums_at {ns : List Int} {i : Nat} (h : i < ns.length) : ∃ z, ns[i]? = some z ∧ (ns.map V.int)[i]? = some (V.int z) ∧ z ∈ ns :=
  ⟨ns[i], by simp [h], by simp [h], List.getElem_mem h⟩
theorem bits_log {z : Int} (h : Builtin.Int.intBits z ≤ 1048576) : z.natAbs.log2 < 1048577 := by
  by_cases z0 : z = 0
  · subst z0; decide
  · unfold Builtin.Int.intBits at h
    rw [if_neg (by simpa using z0)] at h
    omega
/-- the row so far -/
def Row0 (m : Nat) (ns : List Int) : Prop := ns.length ≤ m ∧ ∀ n ∈ ns, 0 ≤ n ∧ n < 2147483648
theorem Row0.more {m : Nat} {ns : List Int} {x : Int} (h : Row0 m ns) (h0 : 0 ≤ x) (h1 : x < 2147483648) : Row0 (m + 1) (ns ++ [x]) := by
  refine ⟨by rw [List.length_append, List.length_singleton]; have := h.1; omega, fun n hn => ?_⟩
  rcases List.mem_append.mp hn with q | q
  · exact h.2 n q
  · rw [List.mem_singleton.mp q]; exact ⟨h0, h1⟩
theorem Row0.mono {m m' : Nat} {ns : List Int} (h : Row0 m ns) (hm : m ≤ m') : Row0 m' ns := ⟨Nat.le_trans h.1 hm, h.2⟩
section
variable {P : Program} {w : World} {K : PySem.W.Frag} {mg : Str → Option Value} {base : Heap}
theorem cal_numbers (T : Bi mg) (D : Def K mg "_law_numbers" S_law_numbers P_law_numbers) : Cal P w K mg base CX0 "_law_numbers" 1 P_law_numbers (spNumbers K) := by
  refine D.cal sc_law_numbers (fun vs H Q E h => ?_) (fun f cdv A outer s H vs Q E hr h => ?_)
  · obtain ⟨a, ns, rfl, _⟩ := h; rfl
  · obtain ⟨a, ns, rfl, hS, hl, hb, kq⟩ := h
    refine ⟨_, (pss_cons (ps_set (i := 1) sc_law_numbers.nd rfl (Or.inl rfl) (pe_lst pa_nil))
  (pss_cons (ps_for PassesOwn.never rfl (pi_list (pe_slice sl_list (pv 0) po_none (po_some pe_int))) (pg_name (i := 2) sc_law_numbers.nd rfl (Or.inl rfl)) (pss_one (ps_if (pt_cmpR op_ge (pv 2) (pe_op op_pow pe_int pe_int) (nomark _)) (pss_cons (ps_set (i := 3) sc_law_numbers.nd rfl (Or.inl rfl) (pv 2))
  (pss_one (ps_for PassesOwn.never rfl (pi_range1 (by rfl) T.range (pa_cons pe_int pa_nil)) (pg_name (i := 4) sc_law_numbers.nd rfl (Or.inl rfl)) (pss_cons (ps_if (pt_cmpR op_eq (pv 3) pe_int (nomark _)) (pss_one ps_break) pss_nil)
  (pss_cons (ps_expr (pe_bm PySem.F.plainAttrs_list PySem.F.slot_list_append PySem.F.type_list_append mt_append (pv 1) (pa_cons (pe_op op_mod (pe_callTy (T := "int") call_int1 (by rfl) T.int (by decide +kernel) (pa_cons (pv 3) pa_nil)) pe_int) pa_nil)))
  (pss_one (ps_set (i := 3) sc_law_numbers.nd rfl (Or.inl rfl) (pe_op op_fdiv (pv 3) pe_int)))))))) (pss_one (ps_for PassesOwn.never rfl (pi_range1 (by rfl) T.range (pa_cons pe_int pa_nil)) (pg_name (i := 4) sc_law_numbers.nd rfl (Or.inl rfl)) (pss_cons (ps_set (i := 5) sc_law_numbers.nd rfl (Or.inl rfl) (pe_op op_mod (pe_callTy (T := "int") call_int1 (by rfl) T.int (by decide +kernel) (pa_cons (pe_op op_add (pe_op op_add (pe_op op_mulB (pv 2) pe_int) (pe_op op_mulB (pv 4) pe_int)) pe_int) pa_nil)) pe_int))
  (pss_one (ps_expr (pe_bm PySem.F.plainAttrs_list PySem.F.slot_list_append PySem.F.type_list_append mt_append (pv 1) (pa_cons (pe_op op_mod (pe_callTy (T := "int") call_int1 (by rfl) T.int (by decide +kernel) (pa_cons (pe_op op_add (pe_op op_mulB (pv 5) pe_int) (pv 4)) pa_nil)) pe_int) pa_nil))))))))))
  (pss_cons (ps_if (pt_cmpR op_eq (pe_callB (id := "len") call_len_seq (by rfl) T.len (by decide +kernel) (pa_cons (pv 1) pa_nil)) pe_int (nomark _)) (pss_one (ps_expr (pe_bm PySem.F.plainAttrs_list PySem.F.slot_list_append PySem.F.type_list_append mt_append (pv 1) (pa_cons pe_int pa_nil)))) pss_nil)
  (pss_one (ps_ret (pv 1)))))), ?_⟩
    refine ⟨Nat.zero_le _, fun p hp => ?_⟩
    have hS1 : SqL K (upd H p (.lst [])) a (ns.map V.int) := (Same.new hp).seq hS
    refine ⟨_, rfl, 63, rfl, a, _, rfl, hS1, fun q hq => ?_⟩
    have pq : p ≠ q := ne_of_none upd_same hq
    obtain ⟨ms, hms, hml, hmb⟩ : ∃ ms : List Int, cutV (ns.map V.int) none (some 63) = ms.map V.int ∧ ms.length ≤ 63 ∧ ∀ z ∈ ms, Builtin.Int.intBits z ≤ 1048576 := by
      refine ⟨(ns.drop (HT.sIx (ns.map V.int).length 0 none)).take (HT.sIx (ns.map V.int).length (ns.map V.int).length (some 63) - HT.sIx (ns.map V.int).length 0 none), ?_, ?_, fun z hz => ?_⟩
      · unfold cutV; rw [← List.map_drop, ← List.map_take]
      · rw [List.length_take, List.length_drop]; omega
      · exact hb z (List.mem_of_mem_drop (List.mem_of_mem_take hz))
    have s0 : Same H (upd (upd H p (.lst [])) q (.lst (cutV (ns.map V.int) none (some 63)))) := (Same.new hp).trans (Same.new hq)
    refine ⟨q, rfl, ⟨_, SqL.of upd_same⟩, for_list (K := K) (a := q) (xs := ms.map V.int) (fun i σ H' => ∃ (rs : List Int) (v2 v3 v4 v5 : Option V), σ = [some (.ref a), some (.ref p), v2, v3, v4, v5] ∧ Row0 (60 * i) rs ∧ H' p = some (.lst (rs.map V.int)) ∧ H' q = some (.lst (ms.map V.int)) ∧ (∀ b o, H b = some o → H' b = some o))
      ⟨[], none, none, none, none, rfl, ⟨Nat.zero_le _, fun n hn => nomatch hn⟩, by rw [upd_ne pq]; exact upd_same, by rw [← hms]; exact upd_same, s0⟩ (fun i σ H' _ ⟨_, _, _, _, _, _, _, _, e, _⟩ => SqL.of e) ?_ ?_⟩
    · rintro i y σ H1 hi ⟨rs, v2, v3, v4, v5, rfl, hr0, h1p, h1q, h1s⟩
      have him : i < ms.length := by
        have z := (List.getElem?_eq_some_iff.mp hi).1
        rw [List.length_map] at z; exact z
      obtain ⟨z, _, e2, hz⟩ := nums_at him
      rw [e2] at hi
      obtain rfl := Option.some.inj hi
      have hzb := bits_log (hmb z hz)
      have c48 : (48271 : Int).natAbs.log2 < 64 := small_log (by decide) (by decide)
      -- what both inner loops keep
      refine ⟨_, rfl, _, _, rfl, rfl, ⟨by decide, by decide, by decide⟩, _, _, rfl, rfl, _, rfl, ?_⟩
      refine ite2 (fun _ => ?_) (fun _ => ?_)
      · refine ⟨_, rfl, 60, rfl, by decide, by decide, for_range (lo := 0) (n := 60) (fun j σ H' => ∃ (rs : List Int) (l : Int) (v4 v5 : Option V), σ = [some (.ref a), some (.ref p), some (.int z), some (.int l), v4, v5] ∧ Row0 (60 * i + j) rs ∧ H' p = some (.lst (rs.map V.int)) ∧ H' q = some (.lst (ms.map V.int)) ∧ (∀ b o, H b = some o → H' b = some o))
          ⟨rs, z, v4, v5, rfl, hr0, h1p, h1q, h1s⟩ ?_ ?_⟩
        · rintro j σ H2 hj ⟨rs, l, v4, v5, rfl, hr0, h2p, h2q, h2s⟩
          refine ⟨_, rfl, rfl, _, rfl, ?_⟩
          refine ite2 (fun _ => ?_) (fun _ => ?_)
          · exact ⟨rs, _, _, _, _, rfl, hr0.mono (by omega), h2p, h2q, h2s⟩
          · have l0 : 0 ≤ l % 997 := Int.emod_nonneg _ (by decide)
            have l1 : l % 997 < 997 := Int.emod_lt_of_pos _ (by decide)
            refine ⟨_, rfl, .inl ⟨rfl, _, SqL.of h2p⟩, _, rfl, .inl ⟨_, rfl, _, _, rfl, rfl, by show (0 : Int) < 997; decide, p, _, _, rfl, rfl, h2p, ?_, ?_⟩⟩
            · rw [List.length_map]; exact Nat.lt_of_le_of_lt hr0.1 (Nat.lt_of_le_of_lt (by omega : 60 * i + j ≤ 4000) (by decide))
            · refine ⟨_, rfl, _, _, rfl, rfl, ⟨by decide, by decide⟩, ?_⟩
              refine ⟨rs ++ [l % 997], _, _, _, rfl, hr0.more l0 (by omega), ?_, ?_, fun b o e => ?_⟩
              · rw [upd_same, List.map_append]; rfl
              · rw [upd_ne pq.symm]; exact h2q
              · rw [upd_ne (ne_of_none e hp)]; exact h2s b o e
        · rintro σ H2 ⟨rs, l, v4, v5, rfl, hr0, h2p, h2q, h2s⟩
          exact ⟨rs, _, _, _, _, rfl, hr0.mono (by omega), h2p, h2q, h2s⟩
      · refine ⟨4, rfl, by decide, by decide, for_range (lo := 0) (n := 4) (fun j σ H' => ∃ (rs : List Int) (v3 v4 v5 : Option V), σ = [some (.ref a), some (.ref p), some (.int z), v3, v4, v5] ∧ Row0 (60 * i + j) rs ∧ H' p = some (.lst (rs.map V.int)) ∧ H' q = some (.lst (ms.map V.int)) ∧ (∀ b o, H b = some o → H' b = some o))
          ⟨rs, v3, v4, v5, rfl, hr0, h1p, h1q, h1s⟩ ?_ ?_⟩
        · rintro j σ H2 hj ⟨rs, v3, v4, v5, rfl, hr0, h2p, h2q, h2s⟩
          refine ⟨_, rfl, _, _, rfl, rfl, ?_, _, rfl, _, _, rfl, rfl, ?_, ?_⟩
          · show z.natAbs.log2 + (48271 : Int).natAbs.log2 < 100000000; omega
          · exact mulB_small (by omega) (by omega) (by decide) (by decide)
          · have m0 : 0 ≤ (z * 48271 + (0 + (j : Int)) * 69621 + 11) % 2147483647 := Int.emod_nonneg _ (by decide)
            have m1 : (z * 48271 + (0 + (j : Int)) * 69621 + 11) % 2147483647 < 2147483647 := Int.emod_lt_of_pos _ (by decide)
            refine ⟨_, _, rfl, rfl, _, _, rfl, rfl, .inl ⟨_, rfl, _, _, rfl, rfl, by show (0 : Int) < 2147483647; decide, ?_⟩⟩
            refine ⟨_, rfl, .inl ⟨rfl, _, SqL.of h2p⟩, _, rfl, _, _, rfl, rfl, mulB_small m0 (by omega) (by decide) (by decide), _, rfl, _, _, rfl, rfl, .inl ⟨_, rfl, _, _, rfl, rfl, by show (0 : Int) < 2147483629; decide, p, _, _, rfl, rfl, h2p, ?_, ?_⟩⟩
            · rw [List.length_map]; exact Nat.lt_of_le_of_lt hr0.1 (Nat.lt_of_le_of_lt (by omega : 60 * i + j ≤ 4000) (by decide))
            · have x0 : 0 ≤ ((z * 48271 + (0 + (j : Int)) * 69621 + 11) % 2147483647 * 16807 + (0 + (j : Int))) % 2147483629 := Int.emod_nonneg _ (by decide)
              have x1 : ((z * 48271 + (0 + (j : Int)) * 69621 + 11) % 2147483647 * 16807 + (0 + (j : Int))) % 2147483629 < 2147483629 := Int.emod_lt_of_pos _ (by decide)
              refine ⟨rs ++ [((z * 48271 + (0 + (j : Int)) * 69621 + 11) % 2147483647 * 16807 + (0 + (j : Int))) % 2147483629], _, _, _, rfl, hr0.more x0 (by omega), ?_, ?_, fun b o e => ?_⟩
              · rw [upd_same, List.map_append]; rfl
              · rw [upd_ne pq.symm]; exact h2q
              · rw [upd_ne (ne_of_none e hp)]; exact h2s b o e
        · rintro σ H2 ⟨rs, v3, v4, v5, rfl, hr0, h2p, h2q, h2s⟩
          exact ⟨rs, _, _, _, _, rfl, hr0.mono (by omega), h2p, h2q, h2s⟩
    · rintro σ H1 ⟨rs, v2, v3, v4, v5, rfl, hr0, h1p, h1q, h1s⟩
      refine ⟨_, rfl, p, _, rfl, .inl (SqL.of h1p), rfl, _, rfl, ?_⟩
      rw [List.length_map] at hr0
      refine ite2 (fun c => ?_) (fun c => ?_)
      · refine ⟨_, rfl, .inl ⟨rfl, _, SqL.of h1p⟩, p, _, _, rfl, rfl, h1p, ?_, ?_⟩
        · rw [List.length_map]; exact Nat.lt_of_le_of_lt hr0.1 (Nat.lt_of_le_of_lt (by omega : 60 * ms.length ≤ 4000) (by decide))
        · refine ⟨_, rfl, kq _ p (rs ++ [0]) (fun b o e => ?_) hp ⟨by rw [List.length_append, List.length_singleton]; omega, ?_, fun n hn => ?_⟩ ?_⟩
          · rw [upd_ne (ne_of_none e hp)]; exact h1s b o e
          · have := hr0.1; rw [List.length_append, List.length_singleton]; omega
          · exact (hr0.more (x := 0) (by decide) (by decide)).2 n hn
          · rw [upd_same, List.map_append]; rfl
      · refine ⟨_, rfl, kq _ p rs h1s hp ⟨?_, ?_, hr0.2⟩ h1p⟩
        · rcases Nat.eq_zero_or_pos rs.length with z | z
          · exact absurd (by rw [List.length_map, z]; rfl) c
          · exact z
        · have := hr0.1; omega
theorem cal_draw (T : Bi mg) (D : Def K mg "_law_draw" S_law_draw P_law_draw) : Cal P w K mg base CX0 "_law_draw" 1 P_law_draw (spDraw K) := by
  refine D.cal sc_law_draw (fun vs H Q E h => ?_) (fun f cdv A outer s H vs Q E hr h => ?_)
  · obtain ⟨r, ns, n, lim, rfl, _⟩ := h; rfl
  · obtain ⟨r, ns, n, lim, rfl, hS, ok, hlim, kq⟩ := h
    have hlim' : (fun (_ : Int) j => 0 < j) (0 : Int) lim := hlim
    refine ⟨_, (pss_cons (ps_if (pt_cmpR op_lt (pv 1) (pe_callB (id := "len") call_len_seq (by rfl) T.len (by decide +kernel) (pa_cons (pv 0) pa_nil)) (nomark _)) (pss_one (ps_ret (pe_op op_mod (pe_callTy (T := "int") call_int1 (by rfl) T.int (by decide +kernel) (pa_cons (pe_ix ix_list (pv 0) (pv 1) (fun _ _ => rfl)) pa_nil)) (pv 2)))) pss_nil)
  (pss_cons (ps_set (i := 3) sc_law_draw.nd rfl (Or.inl rfl) (pe_op op_mod (pe_callTy (T := "int") call_int1 (by rfl) T.int (by decide +kernel) (pa_cons (pe_op op_add (pe_op op_add (pe_op op_mul (pe_ix ix_list (pv 0) (pe_op op_mod (pe_callTy (T := "int") call_int1 (by rfl) T.int (by decide +kernel) (pa_cons (pv 1) pa_nil)) (pe_callB (id := "len") call_len_seq (by rfl) T.len (by decide +kernel) (pa_cons (pv 0) pa_nil))) (fun _ _ => rfl)) pe_int) (pe_op op_mul (pv 1) pe_int)) pe_int) pa_nil)) pe_int))
  (pss_one (ps_ret (pe_op op_mod (pe_callTy (T := "int") call_int1 (by rfl) T.int (by decide +kernel) (pa_cons (pe_op op_mod (pe_callTy (T := "int") call_int1 (by rfl) T.int (by decide +kernel) (pa_cons (pe_op op_add (pe_op op_mul (pv 3) pe_int) (pv 1)) pa_nil)) pe_int) pa_nil)) (pv 2)))))), ?_⟩
    refine ⟨_, rfl, _, rfl, r, _, rfl, .inl hS, _, _, rfl, rfl, _, rfl, ?_⟩
    refine ite2 (fun c => ?_) (fun c => ?_)
    · have c' : n < ns.length := by
        have z := of_decide_eq_true c
        rw [List.length_map] at z
        omega
      obtain ⟨z, _, hz, _⟩ := nums_at c'
      refine ⟨_, rfl, _, rfl, r, _, _, _, rfl, rfl, hS, at_of rfl hz, .inl ⟨_, rfl, _, rfl, _, _, rfl, rfl, hlim, ?_⟩⟩
      exact kq _ (Int.emod_nonneg _ (by omega)) (Int.emod_lt_of_pos _ hlim)
    · have hl : (0 : Int) < ((ns.map V.int).length : Int) := by rw [List.length_map]; have := ok.1; omega
      have hm : n % ns.length < ns.length := Nat.mod_lt _ ok.1
      obtain ⟨z, _, hz, hzm⟩ := nums_at hm
      have e : ((n : Int) % ((ns.map V.int).length : Int)) = ((n % ns.length : Nat) : Int) := by rw [List.length_map]; omega
      refine ⟨_, rfl, _, rfl, .inl ⟨_, rfl, _, rfl, r, _, rfl, .inl hS, _, _, rfl, rfl, hl, r, _, _, _, rfl, rfl, hS, at_of e hz, _, _, rfl, rfl, .inr ⟨by decide, by decide⟩, _, rfl, _, _, rfl, rfl, .inr ⟨by decide, by decide⟩, _, _, rfl, rfl, _, _, rfl, rfl,
        .inl ⟨_, rfl, _, _, rfl, rfl, by show (0 : Int) < 2147483399; decide, ?_⟩⟩⟩
      refine ⟨_, rfl, _, _, rfl, rfl, .inr ⟨by decide, by decide⟩, _, rfl, _, _, rfl, rfl, .inl ⟨_, rfl, _, _, rfl, rfl, by show (0 : Int) < 2147483647; decide, .inl ⟨_, rfl, _, rfl, _, _, rfl, rfl, hlim, ?_⟩⟩⟩
      exact kq _ (Int.emod_nonneg _ (by omega)) (Int.emod_lt_of_pos _ hlim)
theorem cal_take (T : Bi mg) (C_law_draw : Cal P w K mg base CX0 "_law_draw" 1 P_law_draw (spDraw K)) (D : Def K mg "_law_take" S_law_take P_law_take) : Cal P w K mg base CX0 "_law_take" 2 P_law_take spTake := by
  refine D.cal sc_law_take (fun vs H Q E h => ?_) (fun f cdv A outer s H vs Q E hr h => ?_)
  · obtain ⟨r, sp, lim, rfl, _⟩ := h; rfl
  · obtain ⟨r, sp, lim, rfl, ⟨ne, ⟨ns, ok, er⟩, n, en⟩, hlim, kq⟩ := h
    refine ⟨_, (pss_cons (ps_asg (pe_op op_add (pe_ix ix_list (pv 1) pe_int (fun _ _ => rfl)) pe_int) (pg_sub (pv 1) pe_int set_list))
  (pss_one (ps_ret (pe_fn C_law_draw hr (pa_cons (pv 0) (pa_cons (pe_op op_sub (pe_ix ix_list (pv 1) pe_int (fun _ _ => rfl)) pe_int) (pa_cons (pv 2) pa_nil))))))), ?_⟩
    refine ⟨_, rfl, sp, _, _, _, rfl, rfl, SqL.of en, at_of (j := 0) rfl rfl, _, _, rfl, rfl, _, rfl, sp, _, _, 0, rfl, rfl, en, rfl, ?_⟩
    have e2 : upd H sp (.lst ([V.int (n : Int)].set 0 (.int ((n : Int) + 1)))) sp = some (.lst [.int (((n + 1 : Nat) : Int))]) := by rw [upd_same]; rfl
    have er2 : upd H sp (.lst ([V.int (n : Int)].set 0 (.int ((n : Int) + 1)))) r = some (.lst (ns.map V.int)) := by rw [upd_ne ne]; exact er
    refine ⟨_, rfl, _, rfl, sp, _, _, _, rfl, rfl, SqL.of e2, at_of (j := 0) rfl rfl, _, _, rfl, rfl, _, rfl, r, ns, n, lim, ?_, SqL.of er2, ok, hlim, fun x h0 h1 => ?_⟩
    · show [V.ref r, V.int (((n + 1 : Nat) : Int) - 1), V.int lim] = _
      rw [show (((n + 1 : Nat) : Int) - 1) = (n : Int) by omega]
    · exact kq x _ h0 h1 Grow.at ⟨ne, ⟨ns, ok, er2⟩, n + 1, e2⟩ fun b hb => upd_ne hb
end
/-! ### what the law draws -/
abbrev S_law_cond : Stmt := topS 30
abbrev N_law_cond : List Str := ["row", "spot", "facts", "made", "k", "style"]
abbrev P_law_cond : List Str := ["row", "spot", "facts"]
theorem sc_law_cond : FnScope N_law_cond P_law_cond (defScope S_law_cond) := ⟨rfl, rfl, rfl, by decide +kernel, rfl, by decide +kernel, by decide +kernel⟩
section
variable {P : Program} {w : World} {K : PySem.W.Frag} {mg : Str → Option Value} {base : Heap}
/-- a drawn condition for f facts -/
structure CondD (c : PyData) (f : Int) : Prop where
  td : Td 2 c
  ok : dCond c f = true
  tup : ∃ es, c = .tuple es
def spCond (K : PySem.W.Frag) : Sp := fun vs H Q _ => ∃ (r sp : Addr) (f : Int), vs = [.ref r, .ref sp, .int f] ∧ Rolls r sp H ∧ 0 ≤ f ∧ f ≤ 4 ∧ ∀ (c : PyData) (y : V) (H' : Hp), CondD c f → Grow sp H H' → Rolls r sp H' → Dp K H' y c → Q y H'
theorem ascI_snoc : ∀ (l : List Int) (k : Int), ascI l = true → (∀ x ∈ l, x < k) → ascI (l ++ [k]) = true
  | [], _, _, _ => rfl
  | [a], k, _, h => by show (decide (a < k) && true) = true; rw [decide_eq_true (h a List.mem_cons_self)]; rfl
  | a :: b :: r, k, h, hk => by
    obtain ⟨h1, h2⟩ := Bool.and_eq_true_iff.mp (show (decide (a < b) && ascI (b :: r)) = true from h)
    show (decide (a < b) && ascI (b :: r ++ [k])) = true
    rw [h1, ascI_snoc (b :: r) k h2 fun x hx => hk x (List.mem_cons_of_mem _ hx)]; rfl
/-- the pairs so far, the facts below j -/
structure Cond0 (es : List PyData) (f : Int) (j : Nat) : Prop where
  len : es.length ≤ j
  all : ∀ e ∈ es, ∃ (i : Int) (b : Bool), e = .tuple [.int i, .bool b] ∧ 0 ≤ i ∧ i < f ∧ i < (j : Int)
  asc : ascI (es.map fun e => dVal (dAt e 0)) = true
theorem Cond0.td {es : List PyData} {f : Int} {j : Nat} (h : Cond0 es f j) : ∀ d ∈ es, ∃ n, Td n d := fun d hd => by
  obtain ⟨i, b, rfl, _⟩ := h.all d hd
  exact ⟨1, .tup (n := 0) (by simp) fun x hx => by
    simp at hx
    rcases hx with rfl | rfl
    · exact .int _
    · exact .bl _⟩
theorem Cond0.next {es : List PyData} {f : Int} {j : Nat} (h : Cond0 es f j) : Cond0 es f (j + 1) := ⟨Nat.le_succ_of_le h.len, fun e he => by
  obtain ⟨i, b, q, i0, i1, i2⟩ := h.all e he
  exact ⟨i, b, q, i0, i1, by omega⟩, h.asc⟩
theorem Cond0.more {es : List PyData} {f : Int} {j : Nat} (h : Cond0 es f j) (hj : (j : Int) < f) (b : Bool) : Cond0 (es ++ [.tuple [.int (j : Int), .bool b]]) f (j + 1) := by
  refine ⟨by rw [List.length_append]; have := h.len; simp; omega, fun e he => ?_, ?_⟩
  · rcases List.mem_append.mp he with q | q
    · obtain ⟨i, b, q, i0, i1, i2⟩ := h.all e q
      exact ⟨i, b, q, i0, i1, by omega⟩
    · rw [List.mem_singleton.mp q]
      exact ⟨j, b, rfl, by omega, hj, by omega⟩
  · rw [List.map_append]
    refine ascI_snoc _ _ h.asc fun x hx => ?_
    obtain ⟨e, he, rfl⟩ := List.mem_map.mp hx
    obtain ⟨i, b, rfl, i0, i1, i2⟩ := h.all e he
    exact i2
theorem Cond0.ok {es : List PyData} {f : Int} {j : Nat} (h : Cond0 es f j) (hj : j ≤ 1000) : CondD (.tuple es) f := by
  refine ⟨.tup (by have := h.len; omega) fun d hd => ?_, ?_, es, rfl⟩
  · obtain ⟨i, b, rfl, _⟩ := h.all d hd
    exact .tup (n := 0) (by simp) fun x hx => by
      simp at hx
      rcases hx with rfl | rfl
      · exact .int _
      · exact .bl _
  · unfold dCond
    have e1 : dAll (fun e => dWanted e f) (.tuple es) = true := by
      show es.all (fun e => dWanted e f) = true
      refine List.all_eq_true.mpr fun e he => ?_
      obtain ⟨i, b, rfl, i0, i1, _⟩ := h.all e he
      show ((decide ((2 : Int) ≤ (([PyData.int i, PyData.bool b].length : Nat) : Int)) && decide ((([PyData.int i, PyData.bool b].length : Nat) : Int) ≤ 2)) && ((decide (0 ≤ i) && decide (i ≤ f - 1)) && true)) = true
      rw [decide_eq_true i0, decide_eq_true (by omega : i ≤ f - 1)]; rfl
    rw [e1]
    exact h.asc
theorem cal_cond (T : Bi mg) (C_law_take : Cal P w K mg base CX0 "_law_take" 2 P_law_take spTake) (D : Def K mg "_law_cond" S_law_cond P_law_cond) : Cal P w K mg base CX0 "_law_cond" 3 P_law_cond (spCond K) := by
  refine D.cal sc_law_cond (fun vs H Q E h => ?_) (fun fa cdv A outer s H vs Q E hr h => ?_)
  · obtain ⟨r, sp, f, rfl, _⟩ := h; rfl
  · obtain ⟨r, sp, f, rfl, R, f0, f4, kq⟩ := h
    obtain ⟨l, hl⟩ := R.lst
    refine ⟨_, (pss_cons (ps_set (i := 3) sc_law_cond.nd rfl (Or.inl rfl) (pe_lst pa_nil))
  (pss_cons (ps_for PassesOwn.never rfl (pi_range1 (by rfl) T.range (pa_cons (pv 2) pa_nil)) (pg_name (i := 4) sc_law_cond.nd rfl (Or.inl rfl)) (pss_cons (ps_set (i := 5) sc_law_cond.nd rfl (Or.inl rfl) (pe_fn C_law_take hr (pa_cons (pv 0) (pa_cons (pv 1) (pa_cons pe_int pa_nil)))))
  (pss_one (ps_if (pt_cmpR op_gt (pv 5) pe_int (nomark _)) (pss_one (ps_expr (pe_bm PySem.F.plainAttrs_list PySem.F.slot_list_append PySem.F.type_list_append mt_append (pv 3) (pa_cons (pe_tup (pa_cons (pv 4) (pa_cons (pe_cmpR op_eq (pv 5) pe_int (nomark _)) pa_nil))) pa_nil)))) pss_nil))))
  (pss_one (ps_ret (pe_callTy (T := "tuple") call_tuple_of (by rfl) T.tuple (by decide +kernel) (pa_cons (pv 3) pa_nil)))))), ?_⟩
    refine ⟨Nat.zero_le _, fun M hM => ?_⟩
    have e62 : (2 : Int) ^ 62 = 4611686018427387904 := by decide
    have nspM : sp ≠ M := ne_of_none hl hM
    refine ⟨_, rfl, f, rfl, by omega, by omega, ?_⟩
    refine for_range (lo := 0) (n := f.toNat) (fun j σ H' => (∃ v4 v5 : Option V, σ = [some (.ref r), some (.ref sp), some (.int f), some (.ref M), v4, v5]) ∧ Grow sp H H' ∧ Rolls r sp H' ∧ ∃ acc es, H' M = some (.lst acc) ∧ DpAll K H' acc es ∧ Cond0 es f j)
      ⟨⟨_, _, rfl⟩, Grow.new hM, R.new hM, [], [], upd_same, .nil, Nat.le_refl _, fun e he => (by cases he), rfl⟩ ?_ ?_
    · rintro j σ H1 hj ⟨⟨v4, v5, rfl⟩, g1, R1, acc, es, hacc, hda, c0⟩
      obtain ⟨l1, hl1⟩ := R1.lst
      refine ⟨_, rfl, _, rfl, r, sp, 5, rfl, R1, by decide, fun x H2 x0 x1 g2 R2 e2 => ?_⟩
      have acc2 : H2 M = some (.lst acc) := g2 _ _ nspM.symm hacc
      have hda2 := dpAll_grow hl1 g2 c0.td hda
      refine ⟨_, rfl, _, _, rfl, rfl, _, rfl, ?_⟩
      refine ite2 (fun c => ?_) (fun c => ?_)
      · refine ⟨_, rfl, .inl ⟨rfl, _, SqL.of acc2⟩, _, rfl, _, rfl, rfl, by show 2 ≤ sizeLine; decide, fun p hp => ?_⟩
        have pM : M ≠ p := ne_of_none acc2 hp
        refine ⟨M, acc, .ref p, rfl, rfl, by rw [upd_ne pM]; exact acc2, ?_, ?_⟩
        · have := dpAll_len hda2
          have := c0.len
          exact Nat.lt_of_le_of_lt (by omega : acc.length ≤ 1000) (by decide)
        · have sp2 : Same H2 (upd H2 p (.tup [.int (0 + (j : Int)), .bl (decide (V.int x = V.int 3))])) := Same.new hp
          have g3 : Grow sp H (upd H2 p (.tup [.int (0 + (j : Int)), .bl (decide (V.int x = V.int 3))])) := (g1.trans g2).trans (Grow.new hp)
          obtain ⟨lr, hlr⟩ := R.rowAt
          have hpair : Dp K (upd H2 p (.tup [.int (0 + (j : Int)), .bl (decide (V.int x = V.int 3))])) (.ref p) (.tuple [.int (j : Int), .bool (decide (V.int x = V.int 3))]) := by
            refine .tup (SqT.of upd_same) (.cons ?_ (.cons (.bl _) .nil))
            rw [Int.zero_add]; exact .int _
          have cm := c0.more (by omega : (j : Int) < f) (decide (V.int x = V.int 3))
          refine ⟨⟨_, _, rfl⟩, g3.put hM, (R2.new hp).put (ne_of_none hlr hM) nspM, acc ++ [.ref p], es ++ [.tuple [.int (j : Int), .bool (decide (V.int x = V.int 3))]], upd_same, ?_, cm⟩
          exact dpAll_put cm.td (by rw [upd_ne pM]; exact acc2) (dpAll_append (dpAll_same sp2 hda2) (dpAll_one hpair))
      · exact ⟨⟨_, _, rfl⟩, g1.trans g2, R2, acc, es, acc2, hda2, c0.next⟩
    · rintro σ H1 ⟨⟨v4, v5, rfl⟩, g1, R1, acc, es, hacc, hda, c0⟩
      refine ⟨_, rfl, M, acc, rfl, .inl ⟨SqL.of hacc, fun p hp => ?_⟩⟩
      exact kq (.tuple es) _ _ (c0.ok (by omega)) (g1.trans (Grow.new hp)) (R1.new hp) (.tup (SqT.of upd_same) (dpAll_same (Same.new hp) hda))
end
end Mw
set_option Elab.async false
set_option maxRecDepth 100000
set_option maxHeartbeats 1000000
namespace Mw
open PySem L2
abbrev S_law_method : Stmt := topS 31
abbrev N_law_method : List Str := ["row", "spot", "book", "own", "tails", "steps", "count", "k", "low"]
abbrev P_law_method : List Str := ["row", "spot", "book", "own", "tails"]
theorem sc_law_method : FnScope N_law_method P_law_method (defScope S_law_method) := ⟨rfl, rfl, rfl, by decide +kernel, rfl, by decide +kernel, by decide +kernel⟩
section
variable {P : Program} {w : World} {K : PySem.W.Frag} {mg : Str → Option Value} {base : Heap}
theorem sqT_grow {sp b : Addr} {H H' : Hp} {l xs : List V} (hl : H sp = some (.lst l)) (g : Grow sp H H') (h : SqT K H b xs) : SqT K H' b xs := by
  rcases h with (e | ⟨o, e⟩) | e
  · exact .inl (.inl (g _ _ (fun q => by rw [q, hl] at e; cases e) e))
  · exact .inl (.inr ⟨o, g _ _ (fun q => by rw [q, hl] at e; cases e) e⟩)
  · exact .inr e
/-- a drawn step -/
def StepD (s : PyData) (d t : Int) : Prop := (∃ i : Int, s = .tuple [.str "deed", .int i] ∧ 0 ≤ i ∧ i < d) ∨ ∃ i : Int, s = .tuple [.str "task", .int i] ∧ 0 ≤ i ∧ i < t
theorem StepD.td {s : PyData} {d t : Int} (h : StepD s d t) : Td 1 s := by
  rcases h with ⟨i, rfl, _⟩ | ⟨i, rfl, _⟩ <;> exact .tup (n := 0) (by show 2 ≤ 1000; decide) fun x hx => by
    simp at hx
    rcases hx with rfl | rfl
    · exact .str _
    · exact .int _
/-- a drawn method -/
structure MethodD (m : PyData) (f d t : Int) : Prop where
  ex : ∃ (c : PyData) (ss : List PyData), m = .tuple [c, .tuple ss] ∧ CondD c f ∧ ss.length ≤ 5 ∧ ∀ s ∈ ss, StepD s d t
theorem MethodD.td {m : PyData} {f d t : Int} (h : MethodD m f d t) : Td 3 m := by
  obtain ⟨c, ss, rfl, hc, hl, hs⟩ := h.ex
  refine .tup (by show 2 ≤ 1000; decide) fun x hx => ?_
  simp at hx
  rcases hx with rfl | rfl
  · exact hc.td
  · exact .tup (n := 1) (by omega) fun s h => (hs s h).td
/-- _law_method(row, spot, sizes, own, tails) -/
def spLMethod (K : PySem.W.Frag) : Sp := fun vs H Q _ => ∃ (r sp b : Addr) (f d t own : Int) (tails : Bool), vs = [.ref r, .ref sp, .ref b, .int own, .bl tails] ∧ Rolls r sp H ∧ SqT K H b [.int f, .int d, .int t] ∧ 0 ≤ f ∧ f ≤ 4 ∧ 1 ≤ d ∧ 1 ≤ t ∧ 0 ≤ own ∧
  ∀ (m : PyData) (y : V) (H' : Hp), MethodD m f d t → Grow sp H H' → Rolls r sp H' → Dp K H' y m → Q y H'
theorem cal_lmethod (T : Bi mg) (C_law_take : Cal P w K mg base CX0 "_law_take" 3 P_law_take spTake) (C_law_cond : Cal P w K mg base CX0 "_law_cond" 3 P_law_cond (spCond K)) (D : Def K mg "_law_method" S_law_method P_law_method) : Cal P w K mg base CX0 "_law_method" 4 P_law_method (spLMethod K) := by
  refine D.cal sc_law_method (fun vs H Q E h => ?_) (fun fa cdv A outer s H vs Q E hr h => ?_)
  · obtain ⟨r, sp, b, f, d, t, own, tails, rfl, _⟩ := h; rfl
  · obtain ⟨r, sp, b, f, d, t, own, tails, rfl, R, hb, f0, f4, d1, t1, own0, kq⟩ := h
    obtain ⟨l, hl⟩ := R.lst
    have e62 : (2 : Int) ^ 62 = 4611686018427387904 := by decide
    refine ⟨_, (pss_cons (ps_set (i := 5) sc_law_method.nd rfl (Or.inl rfl) (pe_lst pa_nil))
  (pss_cons (ps_set (i := 6) sc_law_method.nd rfl (Or.inl rfl) (pe_ix ix_list (pe_lst (pa_cons pe_int (pa_cons pe_int (pa_cons pe_int (pa_cons pe_int (pa_cons pe_int (pa_cons pe_int (pa_cons pe_int (pa_cons pe_int pa_nil))))))))) (pe_fn C_law_take hr (pa_cons (pv 0) (pa_cons (pv 1) (pa_cons pe_int pa_nil)))) (fun _ _ => rfl)))
  (pss_cons (ps_for PassesOwn.never rfl (pi_range1 (by rfl) T.range (pa_cons (pv 6) pa_nil)) (pg_name (i := 7) sc_law_method.nd rfl (Or.inl rfl)) (pss_one (ps_if (pt_cmpR op_lt (pe_fn C_law_take hr (pa_cons (pv 0) (pa_cons (pv 1) (pa_cons pe_int pa_nil)))) pe_int (nomark _)) (pss_one (ps_expr (pe_bm PySem.F.plainAttrs_list PySem.F.slot_list_append PySem.F.type_list_append mt_append (pv 5) (pa_cons (pe_tup (pa_cons pe_str (pa_cons (pe_fn C_law_take hr (pa_cons (pv 0) (pa_cons (pv 1) (pa_cons (pe_ix ix_tup (pv 2) pe_int (fun _ _ => rfl)) pa_nil)))) pa_nil))) pa_nil)))) (pss_cons (ps_set (i := 8) sc_law_method.nd rfl (Or.inl rfl) pe_int)
  (pss_cons (ps_if (pt_val (pv 4)) (pss_cons (ps_set (i := 8) sc_law_method.nd rfl (Or.inl rfl) (pe_op op_sub (pv 3) (pe_op op_mod (pe_callTy (T := "int") call_int1 (by rfl) T.int (by decide +kernel) (pa_cons (pv 3) pa_nil)) pe_int)))
  (pss_one (ps_if (pt_cmpR op_lt (pv 7) (pe_op op_sub (pv 6) pe_int) (nomark _)) (pss_one (ps_set (i := 8) sc_law_method.nd rfl (Or.inl rfl) (pe_op op_add (pv 8) pe_int))) pss_nil))) pss_nil)
  (pss_one (ps_if (pt_cmpR op_lt (pv 8) (pe_ix ix_tup (pv 2) pe_int (fun _ _ => rfl)) (nomark _)) (pss_one (ps_expr (pe_bm PySem.F.plainAttrs_list PySem.F.slot_list_append PySem.F.type_list_append mt_append (pv 5) (pa_cons (pe_tup (pa_cons pe_str (pa_cons (pe_op op_add (pv 8) (pe_fn C_law_take hr (pa_cons (pv 0) (pa_cons (pv 1) (pa_cons (pe_op op_sub (pe_ix ix_tup (pv 2) pe_int (fun _ _ => rfl)) (pv 8)) pa_nil))))) pa_nil))) pa_nil)))) pss_nil)))))))
  (pss_one (ps_ret (pe_tup (pa_cons (pe_fn C_law_cond hr (pa_cons (pv 0) (pa_cons (pv 1) (pa_cons (pe_ix ix_tup (pv 2) pe_int (fun _ _ => rfl)) pa_nil)))) (pa_cons (pe_callTy (T := "tuple") call_tuple_of (by rfl) T.tuple (by decide +kernel) (pa_cons (pv 5) pa_nil)) pa_nil)))))))), ?_⟩
    refine ⟨Nat.zero_le _, fun M hM => ?_⟩
    have nspM : sp ≠ M := ne_of_none hl hM
    have hl1 := Same.new (o := .lst []) hM _ _ hl
    refine ⟨by show 8 ≤ sizeLine; decide, fun L hL => ⟨_, rfl, _, rfl, r, sp, 8, rfl, (R.new hM).new hL, by decide, fun x H2 x0 x1 g2 R2 e2 => ?_⟩⟩
    have nLs : L ≠ sp := (ne_of_none hl1 hL).symm
    have hL2 := g2 _ _ nLs upd_same
    obtain ⟨c, hc, c0, c5⟩ : ∃ c : Int, ([.int 0, .int 1, .int 1, .int 2, .int 2, .int 3, .int 4, .int 5] : List V)[x.toNat]? = some (.int c) ∧ 0 ≤ c ∧ c ≤ 5 := by
      have : x = 0 ∨ x = 1 ∨ x = 2 ∨ x = 3 ∨ x = 4 ∨ x = 5 ∨ x = 6 ∨ x = 7 := by omega
      rcases this with rfl | rfl | rfl | rfl | rfl | rfl | rfl | rfl <;> exact ⟨_, rfl, by decide, by decide⟩
    have hM2 : H2 M = some (.lst []) := g2 _ _ nspM.symm (Same.new hL _ _ upd_same)
    have gA : Grow sp H H2 := ((Grow.new hM).trans (Grow.new hL)).trans g2
    refine ⟨L, _, x, _, rfl, rfl, SqL.of hL2, at_of (j := x.toNat) (by omega) hc, ?_⟩
    refine ⟨_, rfl, c, rfl, by omega, by omega, ?_⟩
    refine for_range (lo := 0) (n := c.toNat) (fun k σ H' => (∃ v7 v8 : Option V, σ = [some (.ref r), some (.ref sp), some (.ref b), some (.int own), some (.bl tails), some (.ref M), some (.int c), v7, v8]) ∧ Grow sp H H' ∧ Rolls r sp H' ∧ ∃ acc es, H' M = some (.lst acc) ∧ DpAll K H' acc es ∧ es.length ≤ k ∧ ∀ s ∈ es, StepD s d t)
      ⟨⟨_, _, rfl⟩, gA, R2, [], [], hM2, .nil, Nat.le_refl _, fun e he => (by cases he)⟩ ?_ ?_
    · rintro k σ H3 hk ⟨⟨v7, v8, rfl⟩, g3, R3, acc, es, hacc, hda, hlen, hst⟩
      obtain ⟨l3, hl3⟩ := R3.lst
      have tdall : ∀ e ∈ es, ∃ n, Td n e := fun e he => ⟨1, (hst e he).td⟩
      refine ⟨_, rfl, _, rfl, r, sp, 5, rfl, R3, by decide, fun x H4 x0 x1 g4 R4 e4 => ⟨_, _, rfl, rfl, _, rfl, ?_⟩⟩
      obtain ⟨l4, hl4⟩ := R4.lst
      have hM4 := g4 _ _ nspM.symm hacc
      have hda4 := dpAll_grow hl3 g4 tdall hda
      have hb4 := sqT_grow hl (g3.trans g4) hb
      have grown : ∀ (H5 : Hp) (st : PyData) (p : Addr) (z : Int) (wd : Str), Grow sp H4 H5 → Rolls r sp H5 → H5 p = none → StepD (.tuple [.str wd, .int z]) d t →
          Grow sp H (upd (upd H5 p (.tup [.str wd, .int z])) M (.lst (acc ++ [.ref p]))) ∧ Rolls r sp (upd (upd H5 p (.tup [.str wd, .int z])) M (.lst (acc ++ [.ref p]))) ∧ ∃ acc' es', (upd (upd H5 p (.tup [.str wd, .int z])) M (.lst (acc ++ [.ref p]))) M = some (.lst acc') ∧ DpAll K (upd (upd H5 p (.tup [.str wd, .int z])) M (.lst (acc ++ [.ref p]))) acc' es' ∧ es'.length ≤ k + 1 ∧ ∀ s ∈ es', StepD s d t := by
        intro H5 st p z wd g5 R5 hp hs
        obtain ⟨lr, hlr⟩ := R.rowAt
        have hM5 := g5 _ _ nspM.symm hM4
        have hda5 := dpAll_grow hl4 g5 tdall hda4
        have all2 : ∀ s ∈ es ++ [.tuple [.str wd, .int z]], StepD s d t := fun s h => by
          rcases List.mem_append.mp h with q | q
          · exact hst s q
          · rw [List.mem_singleton.mp q]; exact hs
        refine ⟨(((g3.trans g4).trans g5).trans (Grow.new hp)).put hM, (R5.new hp).put (ne_of_none hlr hM) nspM, acc ++ [.ref p], es ++ [.tuple [.str wd, .int z]], upd_same, ?_, by rw [List.length_append]; simp; omega, all2⟩
        exact dpAll_put (fun e he => ⟨1, (all2 e he).td⟩) (Same.new hp _ _ hM5) (dpAll_append (dpAll_same (Same.new hp) hda5) (dpAll_one (.tup (SqT.of upd_same) (.cons (.str _) (.cons (.int _) .nil)))))
      have small : acc.length < sizeLine := by
        have := dpAll_len hda
        exact Nat.lt_of_le_of_lt (by omega : acc.length ≤ 1000) (by decide)
      refine ite2 (fun c9 => ?_) (fun c9 => ?_)
      · refine ⟨_, rfl, .inl ⟨rfl, _, SqL.of hM4⟩, _, rfl, _, rfl, _, rfl, b, _, _, _, rfl, rfl, hb4, at_of (j := 1) rfl rfl, r, sp, d, rfl, R4, by omega, fun y H5 y0 y1 g5 R5 e5 => ⟨by show 2 ≤ sizeLine; decide, fun p hp => ?_⟩⟩
        exact ⟨M, acc, .ref p, rfl, rfl, Same.new hp _ _ (g5 _ _ nspM.symm hM4), small, ⟨_, _, rfl⟩, grown H5 .none p y "deed" g5 R5 hp (.inl ⟨y, rfl, y0, y1⟩)⟩
      · have o2 : 0 ≤ own % 2 := Int.emod_nonneg _ (by decide)
        have o3 : own % 2 ≤ own := by omega
        refine ⟨_, rfl, _, rfl, ?_⟩
        cases tails
        · refine iteF (tnx ?_)
          dsimp only
          refine ⟨_, rfl, _, rfl, b, _, _, _, rfl, rfl, hb4, at_of (j := 2) rfl rfl, _, _, rfl, rfl, _, rfl, ?_⟩
          refine ite2 (fun c11 => ?_) (fun c11 => ?_)
          · have lt := of_decide_eq_true c11
            refine ⟨_, rfl, .inl ⟨rfl, _, SqL.of hM4⟩, _, rfl, _, rfl, _, rfl, _, rfl, b, _, _, _, rfl, rfl, hb4, at_of (j := 2) rfl rfl, _, rfl, _, _, rfl, rfl, r, sp, _, rfl, R4, by omega, fun y H5 y0 y1 g5 R5 e5 => ⟨_, _, rfl, rfl, by show 2 ≤ sizeLine; decide, fun p hp => ?_⟩⟩
            exact ⟨M, acc, .ref p, rfl, rfl, Same.new hp _ _ (g5 _ _ nspM.symm hM4), small, ⟨_, _, rfl⟩, grown H5 .none p _ "task" g5 R5 hp (.inr ⟨_, rfl, by omega, by omega⟩)⟩
          · exact ⟨⟨_, _, rfl⟩, g3.trans g4, R4, acc, es, hM4, hda4, by omega, hst⟩
        · refine iteT ⟨_, rfl, _, rfl, .inl ⟨_, rfl, _, _, rfl, rfl, by show (0 : Int) < 2; decide, _, _, rfl, rfl, ?_⟩⟩
          refine ⟨_, rfl, _, rfl, _, _, rfl, rfl, _, _, rfl, rfl, _, rfl, ite2 (fun c12 => ?_) (fun c12 => ?_)⟩
          refine ⟨_, rfl, _, _, rfl, rfl, ?_⟩
          refine ⟨_, rfl, _, rfl, b, _, _, _, rfl, rfl, hb4, at_of (j := 2) rfl rfl, _, _, rfl, rfl, _, rfl, ?_⟩
          refine ite2 (fun c11 => ?_) (fun c11 => ?_)
          · have lt := of_decide_eq_true c11
            refine ⟨_, rfl, .inl ⟨rfl, _, SqL.of hM4⟩, _, rfl, _, rfl, _, rfl, _, rfl, b, _, _, _, rfl, rfl, hb4, at_of (j := 2) rfl rfl, _, rfl, _, _, rfl, rfl, r, sp, _, rfl, R4, by omega, fun y H5 y0 y1 g5 R5 e5 => ⟨_, _, rfl, rfl, by show 2 ≤ sizeLine; decide, fun p hp => ?_⟩⟩
            exact ⟨M, acc, .ref p, rfl, rfl, Same.new hp _ _ (g5 _ _ nspM.symm hM4), small, ⟨_, _, rfl⟩, grown H5 .none p _ "task" g5 R5 hp (.inr ⟨_, rfl, by omega, by omega⟩)⟩
          · exact ⟨⟨_, _, rfl⟩, g3.trans g4, R4, acc, es, hM4, hda4, by omega, hst⟩
          refine tnx ?_
          dsimp only
          refine ⟨_, rfl, _, rfl, b, _, _, _, rfl, rfl, hb4, at_of (j := 2) rfl rfl, _, _, rfl, rfl, _, rfl, ?_⟩
          refine ite2 (fun c11 => ?_) (fun c11 => ?_)
          · have lt := of_decide_eq_true c11
            refine ⟨_, rfl, .inl ⟨rfl, _, SqL.of hM4⟩, _, rfl, _, rfl, _, rfl, _, rfl, b, _, _, _, rfl, rfl, hb4, at_of (j := 2) rfl rfl, _, rfl, _, _, rfl, rfl, r, sp, _, rfl, R4, by omega, fun y H5 y0 y1 g5 R5 e5 => ⟨_, _, rfl, rfl, by show 2 ≤ sizeLine; decide, fun p hp => ?_⟩⟩
            exact ⟨M, acc, .ref p, rfl, rfl, Same.new hp _ _ (g5 _ _ nspM.symm hM4), small, ⟨_, _, rfl⟩, grown H5 .none p _ "task" g5 R5 hp (.inr ⟨_, rfl, by omega, by omega⟩)⟩
          · exact ⟨⟨_, _, rfl⟩, g3.trans g4, R4, acc, es, hM4, hda4, by omega, hst⟩
    · rintro σ H3 ⟨⟨v7, v8, rfl⟩, g3, R3, acc, es, hacc, hda, hlen, hst⟩
      obtain ⟨l3, hl3⟩ := R3.lst
      have tdall : ∀ e ∈ es, ∃ n, Td n e := fun e he => ⟨1, (hst e he).td⟩
      have hb3 := sqT_grow hl g3 hb
      refine ⟨_, rfl, _, rfl, _, rfl, b, _, _, _, rfl, rfl, hb3, at_of (j := 0) rfl rfl, r, sp, f, rfl, R3, f0, f4, fun cc y H4 cd g4 R4 hy => ⟨_, rfl, M, acc, rfl, .inl ⟨SqL.of (g4 _ _ nspM.symm hacc), fun p hp => ⟨by show 2 ≤ sizeLine; decide, fun q hq => ?_⟩⟩⟩⟩
      have hda4 := dpAll_grow hl3 g4 tdall hda
      have sp1 := Same.new (o := .tup acc) hp
      have s2 := sp1.trans (Same.new (o := .tup [y, .ref p]) hq)
      refine kq (.tuple [cc, .tuple es]) _ _ ⟨cc, es, rfl, cd, by omega, hst⟩ ((g3.trans g4).trans (Same.grow s2)) ((R4.new hp).new hq) ?_
      exact .tup (SqT.of upd_same) (.cons (dp_same s2 hy) (.cons (.tup (SqT.of (Same.new hq _ _ upd_same)) (dpAll_same s2 hda4)) .nil))
end
end Mw
set_option Elab.async false
set_option maxRecDepth 100000
set_option maxHeartbeats 1000000
namespace Mw
open PySem L2
abbrev S_law_book : Stmt := topS 32
abbrev N_law_book : List Str := ["row", "spot", "facts", "deeds", "tasks", "many", "tails", "sizes", "made", "own", "k"]
abbrev P_law_book : List Str := ["row", "spot", "facts", "deeds", "tasks", "many", "tails"]
theorem sc_law_book : FnScope N_law_book P_law_book (defScope S_law_book) := ⟨rfl, rfl, rfl, by decide +kernel, rfl, by decide +kernel, by decide +kernel⟩
section
variable {P : Program} {w : World} {K : PySem.W.Frag} {mg : Str → Option Value} {base : Heap}
/-- a drawn task -/
structure TaskD (d : PyData) (f i t : Int) : Prop where
  ex : ∃ ms, d = .tuple ms ∧ ms.length ≤ 5 ∧ ∀ m ∈ ms, MethodD m f i t
theorem TaskD.td {d : PyData} {f i t : Int} (h : TaskD d f i t) : Td 4 d := by
  obtain ⟨ms, rfl, hl, hm⟩ := h.ex
  exact .tup (n := 3) (by omega) fun m h => (hm m h).td
theorem sqT_putl {M Z : Addr} {H : Hp} {l l' xs : List V} (hM : H M = some (.lst l)) (h : SqT K H Z xs) : SqT K (upd H M (.lst l')) Z xs := by
  have ne : ∀ o, H Z = some o → (∀ q, o ≠ .lst q) → Z ≠ M := fun o e n q => by rw [q, hM] at e; exact n l (Option.some.inj e).symm
  rcases h with (e | ⟨o, e⟩) | e
  · exact .inl (.inl (by rw [upd_ne (ne _ e fun q z => by cases z)]; exact e))
  · exact .inl (.inr ⟨o, by rw [upd_ne (ne _ e fun q z => by cases z)]; exact e⟩)
  · exact .inr e
theorem dpAll_set {H : Hp} : ∀ {vs : List V} {ds : List PyData} {i : Nat} {v : V} {d : PyData}, DpAll K H vs ds → Dp K H v d → DpAll K H (vs.set i v) (ds.set i d)
  | _, _, _, _, _, .nil, _ => .nil
  | _, _, 0, _, _, .cons _ h2, hd => .cons hd h2
  | _, _, i + 1, _, _, .cons h1 h2, hd => .cons h1 (dpAll_set h2 hd)
/-- _law_book(row, spot, facts, deeds, tasks, many, tails) -/
def spLBook (K : PySem.W.Frag) : Sp := fun vs H Q _ => ∃ (r sp : Addr) (f d many : Int) (t : Nat) (tails : Bool), vs = [.ref r, .ref sp, .int f, .int d, .int (t : Int), .int many, .bl tails] ∧ Rolls r sp H ∧ 0 ≤ f ∧ f ≤ 4 ∧ 1 ≤ d ∧ 1 ≤ t ∧ t ≤ 6 ∧ 0 ≤ many ∧ many ≤ 5 ∧
  ∀ (b : Addr) (y : V) (ts : List PyData) (H' : Hp), ts.length = t → (∀ e ∈ ts, TaskD e f d t) → Grow sp H H' → Rolls r sp H' → SqT K H' b [.int f, .int d, y] → Dp K H' y (.tuple ts) → Q (.ref b) H'
theorem cal_lbook (T : Bi mg) (C_law_take : Cal P w K mg base CX0 "_law_take" 4 P_law_take spTake) (C_law_method : Cal P w K mg base CX0 "_law_method" 4 P_law_method (spLMethod K)) (D : Def K mg "_law_book" S_law_book P_law_book) : Cal P w K mg base CX0 "_law_book" 5 P_law_book (spLBook K) := by
  refine D.cal sc_law_book (fun vs H Q E h => ?_) (fun fa cdv A outer s H vs Q E hr h => ?_)
  · obtain ⟨r, sp, f, d, many, t, tails, rfl, _⟩ := h; rfl
  · obtain ⟨r, sp, f, d, many, t, tails, rfl, R, f0, f4, d1, t1, t6, m0, m5, kq⟩ := h
    obtain ⟨l, hl⟩ := R.lst
    obtain ⟨lr, hlr⟩ := R.rowAt
    have e62 : (2 : Int) ^ 62 = 4611686018427387904 := by decide
    refine ⟨_, (pss_cons (ps_set (i := 7) sc_law_book.nd rfl (Or.inr rfl) (pe_tup (pa_cons (pv 2) (pa_cons (pv 3) (pa_cons (pv 4) pa_nil)))))
  (pss_cons (ps_set (i := 8) sc_law_book.nd rfl (Or.inl rfl) (pe_lst pa_nil))
  (pss_cons (ps_for PassesOwn.never rfl (pi_range1 (by rfl) T.range (pa_cons (pv 4) pa_nil)) (pg_name (i := 9) sc_law_book.nd rfl (Or.inr rfl)) (pss_one (ps_expr (pe_bm PySem.F.plainAttrs_list PySem.F.slot_list_append PySem.F.type_list_append mt_append (pv 8) (pa_cons (pe_callTy (T := "tuple") call_tuple_of (by rfl) T.tuple (by decide +kernel) (pa_cons (pe_lc (own := [("k", 10)]) (tt := tYes) rfl sc_law_book.nd (pi_range1 (by rfl) T.range (pa_cons (pe_fn C_law_take hr (pa_cons (pv 0) (pa_cons (pv 1) (pa_cons (pe_op op_add (pv 5) pe_int) pa_nil)))) pa_nil)) (blkOk_by (N := N_law_book) (sc := defScope S_law_book) (by decide +kernel)) (fun _ _ _ _ _ => (pg_name (i := 10) sc_law_book.nd rfl (Or.inl rfl))) (fun _ _ _ _ _ => pts_nil) (fun _ _ _ _ _ => (pe_fn C_law_method hr (pa_cons (pv 0) (pa_cons (pv 1) (pa_cons (pv 7) (pa_cons (pv 9) (pa_cons (pv 6) pa_nil)))))))) pa_nil)) pa_nil)))))
  (pss_cons (ps_if (PW.pt (pw_and (pt_cmpR op_eq (pe_callB (id := "len") call_len_seq (by rfl) T.len (by decide +kernel) (pa_cons (pe_ix ix_list (pv 8) pe_int (fun _ _ => rfl)) pa_nil)) pe_int (nomark _)) (pw_and1 (pt_cmpR op_gt (pe_fn C_law_take hr (pa_cons (pv 0) (pa_cons (pv 1) (pa_cons pe_int pa_nil)))) pe_int (nomark _))))) (pss_one (ps_asg (pe_tup (pa_cons (pe_fn C_law_method hr (pa_cons (pv 0) (pa_cons (pv 1) (pa_cons (pv 7) (pa_cons pe_int (pa_cons (pv 6) pa_nil)))))) pa_nil)) (pg_sub (pv 8) pe_int set_list))) pss_nil)
  (pss_one (ps_ret (pe_tup (pa_cons (pv 2) (pa_cons (pv 3) (pa_cons (pe_callTy (T := "tuple") call_tuple_of (by rfl) T.tuple (by decide +kernel) (pa_cons (pv 8) pa_nil)) pa_nil)))))))))), ?_⟩
    refine ⟨_, rfl, _, rfl, _, rfl, by show 3 ≤ sizeLine; decide, fun Z hZ => ?_⟩
    have sZ := Same.new (o := .tup [.int f, .int d, .int (t : Int)]) hZ
    refine ⟨Nat.zero_le _, fun M hM => ?_⟩
    have nsM : sp ≠ M := ne_of_none (sZ _ _ hl) hM
    have nrM : r ≠ M := ne_of_none (sZ _ _ hlr) hM
    have gM : Grow sp H (upd (upd H Z (.tup [.int f, .int d, .int (t : Int)])) M (.lst [])) := (Grow.new hZ).trans (Grow.new hM)
    have hZ1 : SqT K (upd (upd H Z (.tup [.int f, .int d, .int (t : Int)])) M (.lst [])) Z [.int f, .int d, .int (t : Int)] := SqT.of (Same.new hM _ _ upd_same)
    have hlB : upd (upd H Z (.tup [.int f, .int d, .int (t : Int)])) M (.lst []) sp = some (.lst l) := Same.new hM _ _ (sZ _ _ hl)
    have hMH : H M = none := sZ.free hM
    have tdT : ∀ e, TaskD e f d t → ∃ n, Td n e := fun e h => ⟨4, h.td⟩
    refine ⟨_, rfl, (t : Int), rfl, by omega, by omega, ?_⟩
    rw [Int.toNat_natCast]
    refine for_range (lo := 0) (n := t) (fun k σ H' => (∃ v9 v10 : Option V, σ = [some (.ref r), some (.ref sp), some (.int f), some (.int d), some (.int (t : Int)), some (.int many), some (.bl tails), some (.ref Z), some (.ref M), v9, v10]) ∧ Grow sp H H' ∧ Rolls r sp H' ∧ SqT K H' Z [.int f, .int d, .int (t : Int)] ∧ ∃ acc es, H' M = some (.lst acc) ∧ DpAll K H' acc es ∧ es.length = k ∧ ∀ e ∈ es, TaskD e f d t)
      ⟨⟨_, _, rfl⟩, gM, (R.new hZ).new hM, hZ1, [], [], upd_same, .nil, rfl, fun e he => (by cases he)⟩ ?_ ?_
    · rintro k σ H3 hk ⟨⟨v9, v10, rfl⟩, g3, R3, hZ3, acc, es, hacc, hda, hlen, hall⟩
      obtain ⟨l3, hl3⟩ := R3.lst
      refine ⟨_, rfl, .inl ⟨rfl, _, SqL.of hacc⟩, tcons1 (tcb1 (lc_rngP (K := K) (r := r) (sp := sp) 5 (fun m => MethodD m f d t) (fun m h => ⟨3, h.td⟩) (by omega) (fun R9 kk => ⟨_, rfl, _, rfl, _, rfl, _, _, rfl, rfl, r, sp, _, rfl, R3, by omega, fun x H4 x0 x1 g4 R4 _ => ?_⟩) (fun x => rfl) (fun i H4 Qe g4 R4 kk => ?_) (fun Ml accm ms H4 g4 R4 hMl hdm hlm hallm => ?_)))⟩
      · have z := kk x.toNat H4 (by omega) g4 R4
        rwa [Int.toNat_of_nonneg x0] at z
      · exact ⟨_, rfl, _, rfl, _, rfl, _, rfl, _, rfl, r, sp, Z, f, d, t, _, tails, rfl, R4, sqT_grow hl3 g4 hZ3, f0, f4, d1, by omega, by omega, fun m y H5 hm g5 R5 hy => kk m y H5 hm g5 R5 hy⟩
      · refine ⟨Ml, accm, rfl, .inl ⟨SqL.of hMl, fun p hp => ?_⟩⟩
        have hM4 := g4 _ _ nsM.symm hacc
        have sp1 := Same.new (o := .tup accm) hp
        have all2 : ∀ e ∈ es ++ [.tuple ms], TaskD e f d t := fun e he => by
          rcases List.mem_append.mp he with q | q
          · exact hall e q
          · rw [List.mem_singleton.mp q]; exact ⟨ms, rfl, hlm, hallm⟩
        have el := dpAll_len hda
        refine ⟨M, acc, .ref p, rfl, rfl, sp1 _ _ hM4, Nat.lt_of_le_of_lt (by omega : acc.length ≤ 1000) (by decide), ⟨_, _, rfl⟩, ((g3.trans g4).trans (Grow.new hp)).put (hMH), (R4.new hp).put nrM nsM, sqT_putl (sp1 _ _ hM4) (sqT_same sp1 (sqT_grow hl3 g4 hZ3)), acc ++ [.ref p], es ++ [.tuple ms], upd_same, ?_, by rw [List.length_append, hlen]; rfl, all2⟩
        · exact dpAll_put (fun e he => tdT e (all2 e he)) (sp1 _ _ hM4) (dpAll_append (dpAll_same sp1 (dpAll_grow hl3 g4 (fun e he => tdT e (hall e he)) hda)) (dpAll_one (.tup (SqT.of upd_same) (dpAll_same sp1 hdm))))
    · rintro σ H3 ⟨⟨v9, v10, rfl⟩, g3, R3, hZ3, acc, es, hacc, hda, hlen, hall⟩
      have el := dpAll_len hda
      obtain ⟨l3, hl3⟩ := R3.lst
      obtain ⟨e0, he0⟩ : ∃ e0, es[0]? = some e0 := ⟨es[0]'(by omega), by simp⟩
      obtain ⟨v0, hv0, hd0⟩ := dpAll_get hda he0
      obtain ⟨ms0, rfl, hl0, hm0⟩ := (hall e0 (List.mem_of_getElem? he0)).ex
      cases hd0 with
      | @tup q0 xs0 _ hq0 ha0 =>
      dsimp only
      refine ⟨_, rfl, M, _, 0, _, rfl, rfl, SqL.of hacc, at_of (j := 0) rfl hv0, q0, xs0, rfl, .inr hq0, rfl, _, rfl, ?_⟩
      refine ite2 (fun c => ?_) (fun c => ?_)
      · refine ⟨_, rfl, _, rfl, r, sp, 4, rfl, R3, by decide, fun x H4 x0 x1 g4 R4 _ => ⟨_, _, rfl, rfl, _, rfl, ?_⟩⟩
        have hM4 := g4 _ _ nsM.symm hacc
        have hda4 := dpAll_grow hl3 g4 (fun e he => tdT e (hall e he)) hda
        have hZ4 := sqT_grow hl3 g4 hZ3
        obtain ⟨l4, hl4⟩ := R4.lst
        refine ite2 (fun c2 => ?_) (fun c2 => ?_)
        · refine ⟨_, rfl, _, rfl, _, rfl, _, rfl, r, sp, Z, f, d, t, 0, tails, rfl, R4, hZ4, f0, f4, d1, by omega, by decide, fun m y H5 hm g5 R5 hy => ⟨by show 1 ≤ sizeLine; decide, fun q hq => ⟨_, rfl, M, acc, 0, 0, rfl, rfl, Same.new hq _ _ (g5 _ _ nsM.symm hM4), ?_, ?_⟩⟩⟩
          · show ixN acc.length 0 = some 0
            unfold ixN
            rw [if_pos (by decide), if_pos (by omega)]; rfl
          · dsimp only
            obtain ⟨lr4, hlr4⟩ := R4.rowAt
            have sq := Same.new (o := .tup [y]) hq
            have hM6 := sq _ _ (g5 _ _ nsM.symm hM4)
            have hda6 := dpAll_same sq (dpAll_grow hl4 g5 (fun e he => tdT e (hall e he)) hda4)
            have gx : Grow sp H (upd (upd H5 q (.tup [y])) M (.lst (acc.set 0 (.ref q)))) := (((g3.trans g4).trans g5).trans (Grow.new hq)).put hMH
            have Rx : Rolls r sp (upd (upd H5 q (.tup [y])) M (.lst (acc.set 0 (.ref q)))) := (R5.new hq).put nrM nsM
            have hMx : upd (upd H5 q (.tup [y])) M (.lst (acc.set 0 (.ref q))) M = some (.lst (acc.set 0 (.ref q))) := upd_same
            have allx : ∀ e ∈ es.set 0 (.tuple [m]), TaskD e f d t := fun e he => by
              rcases List.mem_or_eq_of_mem_set he with g | g
              · exact hall e g
              · rw [g]; exact ⟨[m], rfl, by show 1 ≤ 5; decide, fun m' h' => by rw [List.mem_singleton.mp h']; exact hm⟩
            have lenx : (es.set 0 (.tuple [m])).length = t := by rw [List.length_set, hlen]
            have hdax : DpAll K (upd (upd H5 q (.tup [y])) M (.lst (acc.set 0 (.ref q)))) (acc.set 0 (.ref q)) (es.set 0 (.tuple [m])) := dpAll_put (fun e he => tdT e (allx e he)) hM6 (dpAll_set hda6 (.tup (SqT.of upd_same) (.cons (dp_same sq hy) .nil)))
            refine tret ⟨_, rfl, _, rfl, _, rfl, M, _, rfl, .inl ⟨SqL.of hMx, fun p hp => ⟨by show 3 ≤ sizeLine; decide, fun q2 hq2 => ?_⟩⟩⟩
            have s2 := (Same.new (o := .tup (acc.set 0 (.ref q))) hp).trans (Same.new (o := .tup [.int f, .int d, .ref p]) hq2)
            exact kq q2 (.ref p) _ _ lenx allx (gx.trans (Same.grow s2)) ((Rx.new hp).new hq2) (SqT.of upd_same) (.tup (SqT.of (Same.new hq2 _ _ upd_same)) (dpAll_same s2 hdax))
        · refine tnx ?_
          dsimp only
          refine tret ⟨_, rfl, _, rfl, _, rfl, M, _, rfl, .inl ⟨SqL.of hM4, fun p hp => ⟨by show 3 ≤ sizeLine; decide, fun q2 hq2 => ?_⟩⟩⟩
          have s2 := (Same.new (o := .tup acc) hp).trans (Same.new (o := .tup [.int f, .int d, .ref p]) hq2)
          exact kq q2 (.ref p) _ _ hlen hall ((g3.trans g4).trans (Same.grow s2)) ((R4.new hp).new hq2) (SqT.of upd_same) (.tup (SqT.of (Same.new hq2 _ _ upd_same)) (dpAll_same s2 hda4))
      · refine tnx ?_
        dsimp only
        refine tret ⟨_, rfl, _, rfl, _, rfl, M, _, rfl, .inl ⟨SqL.of hacc, fun p hp => ⟨by show 3 ≤ sizeLine; decide, fun q2 hq2 => ?_⟩⟩⟩
        have s2 := (Same.new (o := .tup acc) hp).trans (Same.new (o := .tup [.int f, .int d, .ref p]) hq2)
        exact kq q2 (.ref p) _ _ hlen hall (g3.trans (Same.grow s2)) ((R3.new hp).new hq2) (SqT.of upd_same) (.tup (SqT.of (Same.new hq2 _ _ upd_same)) (dpAll_same s2 hda))
end
end Mw
set_option Elab.async false
set_option maxRecDepth 100000
set_option maxHeartbeats 1000000
namespace Mw
open PySem L2
abbrev S_law_set : Stmt := topS 29
abbrev N_law_set : List Str := ["values", "at", "value", "made"]
abbrev P_law_set : List Str := ["values", "at", "value"]
theorem sc_law_set : FnScope N_law_set P_law_set (defScope S_law_set) := ⟨rfl, rfl, rfl, by decide +kernel, rfl, by decide +kernel, by decide +kernel⟩
abbrev S_law_book_fault : Stmt := topS 33
abbrev N_law_book_fault : List Str := ["facts", "deeds", "tasks", "error"]
abbrev P_law_book_fault : List Str := ["facts", "deeds", "tasks"]
theorem sc_law_book_fault : FnScope N_law_book_fault P_law_book_fault (defScope S_law_book_fault) := ⟨rfl, rfl, rfl, by decide +kernel, rfl, by decide +kernel, by decide +kernel⟩
section
variable {P : Program} {w : World} {K : PySem.W.Frag} {mg : Str → Option Value} {base : Heap}
/-- what the errors' classes must say, here -/
structure Kn (K : PySem.W.Frag) (c0 c2 : Addr) : Prop where
  xf0 : XfC K c0
  xf2 : XfC K c2
  own0 : PySem.W.exmOne K (.ref c0) (.ref c0) = some true
  no20 : PySem.W.exmOne K (.ref c2) (.ref c0) = some false
  own2 : PySem.W.exmOne K (.ref c2) (.ref c2) = some true
  at_ : PySem.W.findIn K (.ref c0) "at" = some none
  task : PySem.W.findIn K (.ref c2) "task" = some none
  method : PySem.W.findIn K (.ref c2) "method" = some none
structure Xs (mg : Str → Option Value) (c0 c2 : Addr) : Prop extends Bi mg where
  g_BadValue : mg "BadValue" = some (.ref c0)
  g_BadMethod : mg "BadMethod" = some (.ref c2)
/-- _law_set(values, at, value): a tuple changed at one place -/
def spSet (K : PySem.W.Frag) : Sp := fun vs H Q _ => ∃ (p : Addr) (xs : List V) (i : Nat) (v : V), vs = [.ref p, .int (i : Int), v] ∧ SqT K H p xs ∧ i < xs.length ∧ xs.length ≤ 1000 ∧ ∀ q H', Same H H' → H' q = some (.tup (xs.set i v)) → Q (.ref q) H'
theorem cal_set (T : Bi mg) (D : Def K mg "_law_set" S_law_set P_law_set) : Cal P w K mg base CX0 "_law_set" 1 P_law_set (spSet K) := by
  refine D.cal sc_law_set (fun vs H Q E h => ?_) (fun f cdv A outer s H vs Q E hr h => ?_)
  · obtain ⟨p, xs, i, v, rfl, _⟩ := h; rfl
  · obtain ⟨p, xs, i, v, rfl, hp, hi, hl, kq⟩ := h
    refine ⟨_, (pss_cons (ps_set (i := 3) sc_law_set.nd rfl (Or.inl rfl) (pe_callTy (T := "list") call_list_of (by rfl) T.list (by decide +kernel) (pa_cons (pv 0) pa_nil)))
  (pss_cons (ps_asg (pv 2) (pg_sub (pv 3) (pv 1) set_list))
  (pss_one (ps_ret (pe_callTy (T := "tuple") call_tuple_of (by rfl) T.tuple (by decide +kernel) (pa_cons (pv 3) pa_nil)))))), ?_⟩
    refine ⟨_, rfl, p, xs, rfl, .inr hp, fun l hl9 => ?_⟩
    refine ⟨_, rfl, _, rfl, _, rfl, l, xs, (i : Int), i, rfl, rfl, upd_same, ?_, ?_⟩
    · unfold ixN
      rw [if_pos (by omega), if_pos (by omega), Int.toNat_natCast]
    · refine ⟨_, rfl, l, xs.set i v, rfl, .inl ⟨SqL.of upd_same, fun q hq => kq q _ (fun b o e => ?_) upd_same⟩⟩
      have hb := ne_of_none e hl9
      have hbq : b ≠ q := fun z => by rw [z] at e; rw [upd_ne (by rw [← z]; exact hb), upd_ne (by rw [← z]; exact hb)] at hq; rw [hq] at e; cases e
      rw [upd_ne hbq, upd_ne hb, upd_ne hb]; exact e
theorem errTasks_cases {f i j : Int} : ∀ {l : List PyData} {k : Nat}, errTasks f i j k l = none ∨ ∃ p q : Int, errTasks f i j k l = fMethod p q
  | [], _ => .inl rfl
  | t :: r, k => by
    unfold errTasks
    cases badOf f i j t with
    | some m => exact .inr ⟨_, _, rfl⟩
    | none => exact errTasks_cases
theorem errBook_cases (df dd dt : PyData) : errBook df dd dt = none ∨ (∃ i : Int, errBook df dd dt = fValue i) ∨ ∃ i j : Int, errBook df dd dt = fMethod i j := by
  unfold errBook
  split
  · split
    · split
      · rcases errTasks_cases (f := dVal df) (i := dVal dd) (j := dLen dt) (l := (dItems dt).getD []) (k := 0) with h | h
        · exact .inl h
        · exact .inr (.inr h)
      · exact .inr (.inl ⟨_, rfl⟩)
    · exact .inr (.inl ⟨_, rfl⟩)
  · exact .inr (.inl ⟨_, rfl⟩)
/-- _law_book_fault(facts, deeds, tasks) -/
def spBookFault (K : PySem.W.Frag) (n : Nat) : Sp := fun vs H Q _ => ∃ (xf xd xt : V) (df dd dt : PyData), vs = [xf, xd, xt] ∧ Dp K H xf df ∧ Dp K H xd dd ∧ Dp K H xt dt ∧ Wf n df ∧ Wf n dd ∧ Wf n dt ∧ Sh dt ∧
  ((errBook df dd dt = none → ∀ H', Same H H' → Q .non H') ∧ (∀ i : Int, errBook df dd dt = fValue i → ∀ q H', Same H H' → H' q = some (.tup [.str "value", .int i]) → Q (.ref q) H') ∧
   (∀ i j : Int, errBook df dd dt = fMethod i j → ∀ q H', Same H H' → H' q = some (.tup [.str "method", .int i, .int j]) → Q (.ref q) H'))
theorem cal_book_fault {C c0 c2 : Addr} {cs : Nat → Addr} {n k : Nat} (h0 : cs 0 = c0) (h2 : cs 2 = c2) (T : Xs mg c0 c2) (Z : Kn K c0 c2) (N_Book : CCal P w K mg base (L2.CX P w) "Book" C k P_Book_init (spBookInit K C cs n)) (D : Def K mg "_law_book_fault" S_law_book_fault P_law_book_fault) :
    Cal P w K mg base CX0 "_law_book_fault" (k + 2) P_law_book_fault (spBookFault K n) := by
  refine D.cal sc_law_book_fault (fun vs H Q E h => ?_) (fun f cdv A outer s H vs Q E hr h => ?_)
  · obtain ⟨xf, xd, xt, df, dd, dt, rfl, _⟩ := h; rfl
  · obtain ⟨xf, xd, xt, df, dd, dt, rfl, hf, hd, ht, wf, wd, wt, sh, k1, k2, k3⟩ := h
    refine ⟨_, (pss_cons (ps_try_names rfl rfl sc_law_book_fault.nd takes0
  (fun W pn xe tk _ => (pss_one (ps_expr (pe_newS tk N_Book hr (pa_cons (pv 0) (pa_cons (pv 1) (pa_cons (pv 2) pa_nil)))))))
  (.cons (i := 3) rfl rfl ⟨by rfl, by decide, .inl T.g_BadValue⟩ (fun a oe cls d pn hz hf => (pss_one (ps_ret (pe_tup (pa_cons pe_str (pa_cons (show PE _ _ (tXg K a cls d "at" _) from pe_xg hz hf (pv 3)) pa_nil)))))) (.cons (i := 3) rfl rfl ⟨by rfl, by decide, .inl T.g_BadMethod⟩ (fun a oe cls d pn hz hf => (pss_one (ps_ret (pe_tup (pa_cons pe_str (pa_cons (show PE _ _ (tXg K a cls d "task" _) from pe_xg hz hf (pv 3)) (pa_cons (show PE _ _ (tXg K a cls d "method" _) from pe_xg hz hf (pv 3)) pa_nil))))))) .nil)))
  (pss_one (ps_ret pe_non))), ?_⟩
    subst h0 h2
    refine ⟨_, rfl, _, rfl, _, rfl, fun x dx hx hdx hne => ?_⟩
    have sN : Same H (upd (upd H dx (.own x)) x (.ins C dx [])) := fun b o e => by rw [upd_ne (ne_of_none e hx), upd_ne (ne_of_none e hdx)]; exact e
    refine ⟨x, dx, xf, xd, xt, df, dd, dt, rfl, upd_same, dp_same sN hf, dp_same sN hd, dp_same sN ht, wf, wd, wt, sh, ?_⟩
    rcases errBook_cases df dd dt with e | ⟨i, e⟩ | ⟨i, j, e⟩
    · rw [e]
      exact fun H' hb _ => ⟨rfl, k1 e H' fun b o q => hb b o (ne_of_none q hx) (sN _ _ q)⟩
    · rw [e]
      refine fun d H' s' n' hd => ⟨true, Z.own0, fun _ a ha => ?_, fun q => by cases q⟩
      refine tret ⟨_, rfl, rfl, cs 0, d, _, .int i, rfl, Z.xf0, Z.at_, rfl, hd, rfl, by show 2 ≤ sizeLine; decide, fun q hq => ?_⟩
      exact k2 i e q _ ((sN.trans s').trans (Same.new hq)) upd_same
    · rw [e]
      refine fun d H' s' n' hd => ⟨false, Z.no20, (fun q => by cases q), fun _ => ⟨true, Z.own2, fun _ a ha => ?_, fun q => by cases q⟩⟩
      refine tret ⟨_, rfl, rfl, cs 2, d, _, .int i, rfl, Z.xf2, Z.task, rfl, hd, rfl, _, rfl, rfl, cs 2, d, _, .int j, rfl, Z.xf2, Z.method, rfl, hd, rfl, by show 3 ≤ sizeLine; decide, fun q hq => ?_⟩
      exact k3 i j e q _ ((sN.trans s').trans (Same.new hq)) upd_same
end
end Mw
set_option Elab.async false
set_option maxRecDepth 100000
set_option maxHeartbeats 1000000
namespace Mw
open PySem L2
section
variable {K : PySem.W.Frag}
theorem wanted_items {e : PyData} {n : Int} (h : dWanted e n = true) : ∃ (es : List PyData) (i : Int) (b : Bool), dItems e = some es ∧ es = [.int i, .bool b] ∧ dAt e 0 = .int i ∧ dAt e 1 = .bool b ∧ 0 ≤ i ∧ i < n := by
  unfold dWanted at h
  obtain ⟨c3, c4⟩ := Bool.and_eq_true_iff.mp h
  obtain ⟨c5, c6⟩ := Bool.and_eq_true_iff.mp c4
  obtain ⟨es, e9, l1, l2⟩ := row_items c3
  match es, l1, l2, e9 with
  | [x, y], _, _, e9 =>
    have e0 : dAt e 0 = x := by unfold dAt; rw [e9]; rfl
    have e1 : dAt e 1 = y := by unfold dAt; rw [e9]; rfl
    rw [e0] at c5
    rw [e1] at c6
    obtain ⟨i, rfl⟩ : ∃ i, x = .int i := by cases x <;> first | exact ⟨_, rfl⟩ | cases c5
    obtain ⟨b, rfl⟩ : ∃ b, y = .bool b := by cases y <;> first | exact ⟨_, rfl⟩ | cases c6
    have q : (decide (0 ≤ i) && decide (i ≤ n - 1)) = true := c5
    obtain ⟨q1, q2⟩ := Bool.and_eq_true_iff.mp q
    exact ⟨[.int i, .bool b], i, b, e9, rfl, e0, e1, of_decide_eq_true q1, by have := of_decide_eq_true q2; omega⟩
  | [], l1, _, _ => exact absurd l1 (by decide)
  | [_], l1, _, _ => exact absurd l1 (by simp)
  | _ :: _ :: _ :: r, _, l2, _ => exact absurd l2 (by simp only [List.length_cons]; omega)
theorem cond_items {c : PyData} {n : Int} (h : dCond c n = true) : ∃ es, dItems c = some es ∧ ∀ e ∈ es, dWanted e n = true := by
  unfold dCond at h
  obtain ⟨h1, _⟩ := Bool.and_eq_true_iff.mp h
  unfold dAll at h1
  cases e : dItems c with
  | none => rw [e] at h1; cases h1
  | some es => rw [e] at h1; exact ⟨es, rfl, List.all_eq_true.mp h1⟩
end
section
theorem td_wf {n : Nat} {d : PyData} (h : Td n d) : Wf n d := by
  induction h with
  | non => exact .non
  | bl b => exact .bl b
  | int i => exact .int i
  | str x => exact .str x
  | tup z _ ih => exact .tup z ih
/-- what may be laid, of depth at most n -/
def Sn (n : Nat) (d : PyData) : Prop := d.canLay0 = true ∧ d.depth ≤ n
theorem Sn.sh {n : Nat} {d : PyData} (h : Sn n d) (hn : n ≤ 64) : Sh d := ⟨h.1, Nat.le_trans h.2 hn⟩
theorem sn_int (i : Int) : Sn 0 (.int i) := ⟨by simp [PyData.canLay0], by simp [PyData.depth]⟩
theorem sn_bl (i : Bool) : Sn 0 (.bool i) := ⟨by simp [PyData.canLay0], by simp [PyData.depth]⟩
theorem sn_non : Sn 0 .none := ⟨by simp [PyData.canLay0], by simp [PyData.depth]⟩
theorem sn_str {x : Str} (h : (PyData.str x).canLay0 = true) : Sn 0 (.str x) := ⟨h, by simp [PyData.depth]⟩
theorem Sn.mono {n m : Nat} {d : PyData} (h : Sn n d) (k : n ≤ m) : Sn m d := ⟨h.1, Nat.le_trans h.2 k⟩
theorem sn_all : ∀ {n : Nat} {ds : List PyData}, (∀ d ∈ ds, Sn n d) → PyData.canLayAll0 ds = true ∧ PyData.depthAll ds ≤ n
  | n, [], _ => ⟨by simp [PyData.canLayAll0], by simp [PyData.depthAll]⟩
  | n, d :: ds, h => by
    obtain ⟨h1, h2⟩ := sn_all fun e he => h e (List.mem_cons_of_mem _ he)
    obtain ⟨h3, h4⟩ := h d List.mem_cons_self
    refine ⟨by simp [PyData.canLayAll0, h1, h3], ?_⟩
    have : PyData.depthAll (d :: ds) = max d.depth (PyData.depthAll ds) := by simp [PyData.depthAll]
    rw [this]; omega
theorem sn_tup {n : Nat} {ds : List PyData} (h : ∀ d ∈ ds, Sn n d) : Sn (n + 1) (.tuple ds) := by
  obtain ⟨h1, h2⟩ := sn_all h
  exact ⟨by simpa [PyData.canLay0] using h1, by simp [PyData.depth]; omega⟩
theorem CondD.sn {c : PyData} {f : Int} (h : CondD c f) : Sn 2 c := by
  obtain ⟨es, rfl⟩ := h.tup
  obtain ⟨es', e, hall⟩ := cond_items h.ok
  obtain rfl := Option.some.inj e
  refine sn_tup fun x hx => ?_
  obtain ⟨ys, i1, b1, ey, rfl, _⟩ := wanted_items (hall x hx)
  have tx : ∀ z, z ∈ ([.int i1, .bool b1] : List PyData) → Sn 0 z := fun z hz => by
    simp at hz
    rcases hz with rfl | rfl
    · exact sn_int _
    · exact sn_bl _
  cases x with
  | tuple zs => cases ey; exact sn_tup tx
  | list zs =>
    cases ey
    obtain ⟨h1, h2⟩ := sn_all tx
    exact ⟨by simpa [PyData.canLay0] using h1, by simp [PyData.depth]; omega⟩
  | _ => cases ey
theorem StepD.sn {s : PyData} {d t : Int} (h : StepD s d t) : Sn 1 s := by
  rcases h with ⟨i, rfl, _⟩ | ⟨i, rfl, _⟩ <;> exact sn_tup fun x hx => by
    simp at hx
    rcases hx with rfl | rfl
    · exact sn_str (by decide +kernel)
    · exact sn_int _
theorem StepD.ok {s : PyData} {d t : Int} (h : StepD s d t) : dStep s d t = true := by
  have e1 : PyData.eqv (.str "deed") (.str "deed") = true := by decide +kernel
  have e2 : PyData.eqv (.str "task") (.str "task") = true := by decide +kernel
  rcases h with ⟨i, rfl, h0, h1⟩ | ⟨i, rfl, h0, h1⟩
  · show ((decide ((2 : Int) ≤ ((2 : Nat) : Int)) && decide (((2 : Nat) : Int) ≤ 2)) && ((PyData.eqv (.str "deed") (.str "deed") && (decide (0 ≤ i) && decide (i ≤ d - 1))) || _)) = true
    rw [e1, decide_eq_true h0, decide_eq_true (by omega : i ≤ d - 1)]; rfl
  · show ((decide ((2 : Int) ≤ ((2 : Nat) : Int)) && decide (((2 : Nat) : Int) ≤ 2)) && ((PyData.eqv (.str "task") (.str "deed") && (decide (0 ≤ i) && decide (i ≤ d - 1))) || (PyData.eqv (.str "task") (.str "task") && (decide (0 ≤ i) && decide (i ≤ t - 1))))) = true
    rw [e2, decide_eq_true h0, decide_eq_true (by omega : i ≤ t - 1)]; simp
theorem MethodD.sn {m : PyData} {f d t : Int} (h : MethodD m f d t) : Sn 3 m := by
  obtain ⟨c, ss, rfl, hc, _, hs⟩ := h.ex
  refine sn_tup fun x hx => ?_
  simp at hx
  rcases hx with rfl | rfl
  · exact hc.sn
  · exact sn_tup fun s h => (hs s h).sn
theorem row_tup {ds : List PyData} {i j : Int} (h1 : i ≤ (ds.length : Int)) (h2 : (ds.length : Int) ≤ j) : dRow (.tuple ds) i j = true := by
  show (decide (i ≤ (ds.length : Int)) && decide ((ds.length : Int) ≤ j)) = true
  rw [decide_eq_true h1, decide_eq_true h2]; rfl
theorem MethodD.ok {m : PyData} {f d t : Int} (h : MethodD m f d t) : dMethod m f d t = true := by
  obtain ⟨c, ss, rfl, hc, hl, hs⟩ := h.ex
  unfold dMethod
  have e0 : dAt (.tuple [c, .tuple ss]) 0 = c := rfl
  have e1 : dAt (.tuple [c, .tuple ss]) 1 = .tuple ss := rfl
  have e2 : dAll (fun e => dStep e d t) (.tuple ss) = true := List.all_eq_true.mpr fun s h => (hs s h).ok
  rw [e0, e1, hc.ok, e2, row_tup (by show (2 : Int) ≤ ((2 : Nat) : Int); decide) (by show ((2 : Nat) : Int) ≤ 2; decide), row_tup (by omega) (by omega)]; rfl
theorem TaskD.sn {e : PyData} {f d t : Int} (h : TaskD e f d t) : Sn 4 e := by
  obtain ⟨ms, rfl, _, hm⟩ := h.ex
  exact sn_tup fun m h => (hm m h).sn
theorem TaskD.row {e : PyData} {f d t : Int} (h : TaskD e f d t) : dRow e 0 5 = true := by
  obtain ⟨ms, rfl, hl, _⟩ := h.ex
  exact row_tup (by omega) (by omega)
theorem TaskD.none {e : PyData} {f d t : Int} (h : TaskD e f d t) : badOf f d t e = Option.none := by
  obtain ⟨ms, rfl, _, hm⟩ := h.ex
  exact firstBad_none fun m h => (hm m h).ok
theorem btw_int {i lo hi : Int} (h1 : lo ≤ i) (h2 : i ≤ hi) : dBtw (.int i) lo hi = true := by
  show (decide (lo ≤ i) && decide (i ≤ hi)) = true
  rw [decide_eq_true h1, decide_eq_true h2]; rfl
/-- errBook where the numbers and the rows are right -/
theorem errBook_rows {f d : Int} {ts : List PyData} (f0 : 0 ≤ f) (f4 : f ≤ 4) (d1 : 1 ≤ d) (d5 : d ≤ 5) (t1 : 1 ≤ ts.length) (t6 : ts.length ≤ 6) (hr : ∀ e ∈ ts, dRow e 0 5 = true) : errBook (.int f) (.int d) (.tuple ts) = errTasks f d ts.length 0 ts := by
  have e1 : dTasks (.tuple ts) = true := by
    unfold dTasks
    rw [row_tup (by omega) (by omega), Bool.true_and]
    exact List.all_eq_true.mpr hr
  unfold errBook
  rw [if_pos (btw_int f0 f4), if_pos (btw_int d1 d5), if_pos e1]; rfl
theorem errBook_drawn {f d : Int} {ts : List PyData} (f0 : 0 ≤ f) (f4 : f ≤ 4) (d1 : 1 ≤ d) (d5 : d ≤ 5) (t1 : 1 ≤ ts.length) (t6 : ts.length ≤ 6) (h : ∀ e ∈ ts, TaskD e f d ts.length) : errBook (.int f) (.int d) (.tuple ts) = none := by
  rw [errBook_rows f0 f4 d1 d5 t1 t6 fun e he => (h e he).row]
  exact errTasks_none fun e he => (h e he).none
end
end Mw
set_option Elab.async false
set_option maxRecDepth 100000
set_option maxHeartbeats 1000000
namespace Mw
open PySem L2
section
variable {P : Program} {w : World} {K : PySem.W.Frag} {mg : Str → Option Value} {base : Heap}
abbrev rTupX (K : PySem.W.Frag) : List V → Hp → VK → Prop := fun xs H Q => ∃ p ys, xs = [V.ref p] ∧ ((SqL K H p ys ∧ ∀ l, H l = none → Q (V.ref l) (upd H l (HO.tup ys))) ∨ SqT K H p ys ∧ Q (V.ref p) H)
def tFullM (K : PySem.W.Frag) : TE := tTup (tCons (tCB (rTupQ K) (tCons (tLc (iRng1 (tCons (tC (.int 4)) tNil)) (gName 15) tYes (tTup (tCons (tVar 15) (tCons (tC (.bl true)) tNil))) [15]) tNil)) (tCons (tCB (rTupQ K) (tCons (tLc (iRng1 (tCons (tC (.int 5)) tNil)) (gName 15) tYes (tTup (tCons (tC (.str "task")) (tCons (tC (.int 5)) tNil))) [15]) tNil)) tNil))
def tFull (K : PySem.W.Frag) : TE := tCB (rTupX K) (tCons (tLc (iRng1 (tCons (tC (.int 6)) tNil)) (gName 16) tYes (tCB (rTupQ K) (tCons (tLc (iRng1 (tCons (tC (.int 5)) tNil)) (gName 17) tYes (tFullM K) [17]) tNil)) [16]) tNil)
def tRetK02 (K : PySem.W.Frag) (n : Nat) : TS := tRet (tAndV (tIsN (tCall (spBookFault K (n + 8)) [] E0 (tCons (tC (.int 4)) (tCons (tC (.int 5)) (tCons (tVar 14) tNil))))) (tIsN (tCall (spBookFault K (n + 8)) [] E0 (tCons (tC (.int 0)) (tCons (tC (.int 1)) (tCons (tTup (tCons (tTup tNil) tNil)) tNil))))))
def tFaultP (K : PySem.W.Frag) (n : Nat) : TE := tCall (spBookFault K (n + 8)) [] E0 (tCons (tOp (rIxL K) (tVar 5) (tC (.int 0))) (tCons (tOp (rIxL K) (tVar 5) (tC (.int 1))) (tCons (tOp (rIxL K) (tVar 5) (tC (.int 2))) tNil)))
def tEndK02 (K : PySem.W.Frag) (n : Nat) : TS := tSeq (tIfS (tTest (tOp (rNeD K) (tFaultP K n) (tVar 6))) (tRet (tC (.bl false))) tNext) (tSeq (tAsg (tFull K) (gName 14)) (tRetK02 K n))
theorem rd_tlcQ {σ : St} {H0 : Hp} {n : Nat} {F : Nat → PyData} {i0 : Nat} {ta : TA} {te : TE} {vs : List Nat} (hz : n ≤ 1000) (ht : ∀ (H : Hp) (R : List V → Hp → Prop), Same H0 H → R [.int (n : Int)] H → ta σ H R) (hF : ∀ i, i < n → ∃ m, Td m (F i)) (hw : ∀ x : V, wipe ((wipe σ vs).set i0 (some x)) vs = wipe σ vs)
    (he : ∀ (i : Nat) (H1 : Hp), Same H0 H1 → i < n → Rd K ((wipe σ vs).set i0 (some (.int (0 + (i : Int))))) H1 te (F i)) :
    Rd K σ H0 (tCB (rTupQ K) (tCons (tLc (iRng1 ta) (gName i0) tYes te vs) tNil)) (.tuple ((List.range n).map F)) := rd_tlc hz ht hF hw he
def fullM : PyData := .tuple [.tuple ((List.range 4).map fun (k : Nat) => .tuple [.int (k : Int), .bool true]), .tuple ((List.range 5).map fun _ => .tuple [.str "task", .int 5])]
def fullD : PyData := .tuple ((List.range 6).map fun _ => .tuple ((List.range 5).map fun _ => fullM))
theorem td_pair (x y : PyData) (hx : Td 0 x) (hy : Td 0 y) : Td 1 (.tuple [x, y]) := .tup (n := 0) (by show 2 ≤ 1000; decide) fun z hz => by
  simp at hz
  rcases hz with rfl | rfl
  · exact hx
  · exact hy
theorem td_rng {n m : Nat} {F : Nat → PyData} (hn : n ≤ 1000) (h : ∀ i, Td m (F i)) : Td (m + 1) (.tuple ((List.range n).map F)) := .tup (by rw [List.length_map, List.length_range]; exact hn) fun z hz => by
  obtain ⟨i, _, rfl⟩ := List.mem_map.mp hz
  exact h i
theorem td_fullM : Td 3 fullM := .tup (n := 2) (by show 2 ≤ 1000; decide) fun z hz => by
  simp at hz
  rcases hz with rfl | rfl
  · exact td_rng (n := 4) (by decide) fun i => td_pair _ _ (.int _) (.bl _)
  · exact td_rng (n := 5) (by decide) fun i => td_pair _ _ (.str _) (.int _)
theorem td_fullD : Td 5 fullD := td_rng (n := 6) (by decide) fun _ => td_rng (n := 5) (by decide) fun _ => td_fullM
theorem sh_fullD : Sh fullD := ⟨by decide +kernel, by decide +kernel⟩
theorem full_ok : errBook (.int 4) (.int 5) fullD = none := by
  have h : (errBook (.int 4) (.int 5) fullD).isNone = true := by decide +kernel
  exact Option.isNone_iff_eq_none.mp h
theorem rd_full {v0 v1 v2 v3 v4 v5 v6 v7 v8 v9 v10 v11 v12 v13 v14 v15 v16 v17 : Option V} {H0 : Hp} : Rd K [v0, v1, v2, v3, v4, v5, v6, v7, v8, v9, v10, v11, v12, v13, v14, v15, v16, v17] H0 (tFull K) fullD := by
  unfold tFull
  refine rd_tlc (n := 6) (F := fun _ => .tuple ((List.range 5).map fun _ => fullM)) (by decide) (fun H R s k => k) (fun i _ => ⟨4, td_rng (n := 5) (by decide) fun _ => td_fullM⟩) (fun x => rfl) fun i H1 s1 hi => ?_
  refine rd_tlcQ (n := 5) (F := fun _ => fullM) (by decide) (fun H R s k => k) (fun i _ => ⟨3, td_fullM⟩) (fun x => rfl) fun j H2 s2 hj => ?_
  unfold tFullM fullM
  refine rd_tup (rdA_cons ?_ (rdA_cons ?_ rdA_nil)) (by show 2 ≤ 1000; decide)
  · refine rd_tlcQ (n := 4) (F := fun k => .tuple [.int (k : Int), .bool true]) (by decide) (fun H R s k => k) (fun i _ => ⟨1, td_pair _ _ (.int _) (.bl _)⟩) (fun x => rfl) fun q H3 s3 hq => ?_
    refine rd_tup (rdA_cons (rd_var rfl ?_) (rdA_cons (rd_bl true) rdA_nil)) (by show 2 ≤ 1000; decide)
    rw [Int.zero_add]; exact .int _
  · refine rd_tlcQ (n := 5) (F := fun _ => .tuple [.str "task", .int 5]) (by decide) (fun H R s k => k) (fun i _ => ⟨1, td_pair _ _ (.str _) (.int _)⟩) (fun x => rfl) fun q H3 s3 hq => ?_
    exact rd_tup (rdA_cons (rd_str _) (rdA_cons (rd_int _) rdA_nil)) (by show 2 ≤ 1000; decide)
def oneD : PyData := .tuple [.tuple []]
theorem one_ok : errBook (.int 0) (.int 1) oneD = none := by
  have h : (errBook (.int 0) (.int 1) oneD).isNone = true := by decide +kernel
  exact Option.isNone_iff_eq_none.mp h
theorem no_value {i : Int} : ¬ (none : Flt) = fValue i := fun h => by cases h
theorem no_method {i j : Int} : ¬ (none : Flt) = fMethod i j := fun h => by cases h
theorem k02_full {n : Nat} {D : Ends} {H : Hp} {v0 v1 v2 v3 v4 v5 v6 v7 v8 v9 v10 v11 v12 v13 v14 v15 v16 v17 : Option V} (kq : ∀ H', D.rt (.bl true) H') :
    tSeq (tAsg (tFull K) (gName 14)) (tRetK02 K n) D [v0, v1, v2, v3, v4, v5, v6, v7, v8, v9, v10, v11, v12, v13, v14, v15, v16, v17] H := by
  unfold tRetK02
  refine tseq (tasg (rd_full.go fun y H1 s1 hy => ?_))
  dsimp only
  have w1 : Wf (n + 8) fullD := td_fullD.wf.mono (by omega)
  refine tret ⟨_, rfl, .int 4, .int 5, y, .int 4, .int 5, fullD, rfl, .int _, .int _, hy, .int _, .int _, w1, sh_fullD, fun _ H2 s2 => ?_, fun i e => ?_, fun i j e => ?_⟩
  · refine ⟨true, rfl, iteT ⟨Nat.zero_le _, fun p hp => ⟨by show 1 ≤ sizeLine; decide, fun q hq => ?_⟩⟩⟩
    have hone : Dp K (upd (upd H2 p (.tup [])) q (.tup [.ref p])) (.ref q) oneD := .tup (SqT.of upd_same) (.cons (.tup (SqT.of (Same.new hq _ _ upd_same)) .nil) .nil)
    refine ⟨.int 0, .int 1, .ref q, .int 0, .int 1, oneD, rfl, .int _, .int _, hone, .int _, .int _, ?_, ⟨by decide +kernel, by decide +kernel⟩, fun _ H3 s3 => kq _, fun i e => ?_, fun i j e => ?_⟩
    · have t1 : Wf 2 oneD := .tup (n := 1) (by show 1 ≤ 1000; decide) fun z hz => by rw [List.mem_singleton.mp hz]; exact .tup (n := 0) (by decide) (fun z hz => (by cases hz))
      exact t1.mono (by omega)
    · rw [one_ok] at e; exact absurd e no_value
    · rw [one_ok] at e; exact absurd e no_method
  · rw [full_ok] at e; exact absurd e no_value
  · rw [full_ok] at e; exact absurd e no_method
theorem eqv_value (i : Int) : PyData.eqv (.tuple [.str "value", .int i]) (.tuple [.str "value", .int i]) = true := by simp [PyData.eqv, PyData.eqvAll]
theorem eqv_method (i j : Int) : PyData.eqv (.tuple [.str "method", .int i, .int j]) (.tuple [.str "method", .int i, .int j]) = true := by simp [PyData.eqv, PyData.eqvAll]
theorem sh_value (i : Int) : Sh (.tuple [.str "value", .int i]) := (sn_tup (n := 0) fun x hx => by
  simp at hx
  rcases hx with rfl | rfl
  · exact sn_str (by decide +kernel)
  · exact sn_int _).sh (by decide)
theorem sh_method (i j : Int) : Sh (.tuple [.str "method", .int i, .int j]) := (sn_tup (n := 0) fun x hx => by
  simp at hx
  rcases hx with rfl | rfl | rfl
  · exact sn_str (by decide +kernel)
  · exact sn_int _
  · exact sn_int _).sh (by decide)
theorem value_inj {i j : Int} (h : fValue i = fValue j) : i = j := by
  unfold fValue at h
  injection h with h
  injection h with _ h
  injection h with h _
  injection h with _ h
  injection h
theorem method_inj {i j i' j' : Int} (h : fMethod i j = fMethod i' j') : i = i' ∧ j = j' := by
  unfold fMethod at h
  injection h with h
  injection h with _ h
  injection h with h1 h2
  injection h1 with _ h1
  injection h2 with h2 _
  injection h2 with _ h2
  injection h1 with h1
  injection h2 with h2
  exact ⟨h2, h1⟩
theorem value_method {i j k : Int} : ¬ fValue i = fMethod j k := fun h => by
  unfold fValue fMethod at h
  injection h with h
  injection h with h _
  cases h
theorem k02_end {n : Nat} {D : Ends} {H : Hp} {v0 v1 v2 v3 v4 v7 v8 v9 v10 v11 v12 v13 v14 v15 v16 v17 : Option V} {Pl du : Addr} {xf xd xt : V} {df dd dt due : PyData} (hP : H Pl = some (.lst [xf, xd, xt])) (h1 : Dp K H xf df) (h2 : Dp K H xd dd) (h3 : Dp K H xt dt) (hdue : Dp K H (.ref du) due)
    (w1 : Wf (n + 8) df) (w2 : Wf (n + 8) dd) (w3 : Wf (n + 8) dt) (sh : Sh dt) (he : (∃ i, errBook df dd dt = fValue i ∧ due = .tuple [.str "value", .int i]) ∨ ∃ i j, errBook df dd dt = fMethod i j ∧ due = .tuple [.str "method", .int i, .int j]) (kq : ∀ H', D.rt (.bl true) H') :
    tEndK02 K n D [v0, v1, v2, v3, v4, some (.ref Pl), some (.ref du), v7, v8, v9, v10, v11, v12, v13, v14, v15, v16, v17] H := by
  unfold tEndK02 tFaultP
  refine ⟨_, rfl, Pl, _, 0, _, rfl, rfl, SqL.of hP, at_of (j := 0) rfl rfl, _, rfl, Pl, _, 1, _, rfl, rfl, SqL.of hP, at_of (j := 1) rfl rfl, _, rfl, Pl, _, 2, _, rfl, rfl, SqL.of hP, at_of (j := 2) rfl rfl, xf, xd, xt, df, dd, dt, rfl, h1, h2, h3, w1, w2, w3, sh, fun e => ?_, fun i e q H' s' hq => ?_, fun i j e q H' s' hq => ?_⟩
  · rcases he with ⟨i, h, _⟩ | ⟨i, j, h, _⟩ <;> (rw [h] at e; cases e)
  · rcases he with ⟨i', h, rfl⟩ | ⟨i', j', h, rfl⟩
    · obtain rfl := value_inj (e.symm.trans h)
      refine ⟨_, rfl, _, _, .tup (SqT.of hq) (.cons (.str _) (.cons (.int _) .nil)), dp_same s' hdue, (sh_value i).shaped, (sh_value i).shaped, _, rfl, ?_⟩
      rw [eqv_value]
      exact iteF (tnx (k02_full kq))
    · exact absurd (e.symm.trans h) value_method
  · rcases he with ⟨i', h, rfl⟩ | ⟨i', j', h, rfl⟩
    · exact absurd (h.symm.trans e) value_method
    · obtain ⟨rfl, rfl⟩ := method_inj (e.symm.trans h)
      refine ⟨_, rfl, _, _, .tup (SqT.of hq) (.cons (.str _) (.cons (.int _) (.cons (.int _) .nil))), dp_same s' hdue, (sh_method i j).shaped, (sh_method i j).shaped, _, rfl, ?_⟩
      rw [eqv_method]
      exact iteF (tnx (k02_full kq))
theorem rd_lset {σ : St} {H0 : Hp} {t1 t2 t3 : TE} {ds : List PyData} {i : Nat} {d : PyData} (h1 : Rd K σ H0 t1 (.tuple ds)) (h2 : Rd K σ H0 t2 (.int (i : Int))) (h3 : Rd K σ H0 t3 d) (hi : i < ds.length) (hz : ds.length ≤ 1000) :
    Rd K σ H0 (tCall (spSet K) [] E0 (tCons t1 (tCons t2 (tCons t3 tNil)))) (.tuple (ds.set i d)) := fun H Q s k =>
  h1 H _ s fun x H1 s1 hx => h2 H1 _ (s.trans s1) fun y H2 s2 hy => h3 H2 _ ((s.trans s1).trans s2) fun z H3 s3 hd => by
    cases hy
    have hx3 := dp_same (s2.trans s3) hx
    cases hx3 with
    | @tup p xs _ hq ha =>
      have el := dpAll_len ha
      exact ⟨p, xs, i, z, rfl, hq, by omega, by omega, fun q H' s' hq' => k _ _ (((s1.trans s2).trans s3).trans s') (.tup (SqT.of hq') (dpAll_set (dpAll_same s' ha) (dp_same s' hd)))⟩
theorem set_mem {ts : List PyData} {i : Nat} {d : PyData} (hi : i < ts.length) : d ∈ ts.set i d := List.mem_of_getElem? (i := i) (by simp [hi])
theorem tasks_bad {ts : List PyData} {i : Nat} {d : PyData} (hi : i < ts.length) (h : dRow d 0 5 = false) : dTasks (.tuple (ts.set i d)) = false := by
  have e : dAll (fun e => dRow e 0 5) (.tuple (ts.set i d)) = false := List.all_eq_false.mpr ⟨d, set_mem hi, by rw [h]; decide⟩
  unfold dTasks
  rw [e, Bool.and_false]
theorem td_set {ts : List PyData} {n i : Nat} {d : PyData} (h : ∀ e ∈ ts, Td n e) (hd : Td n d) (hl : ts.length ≤ 1000) : Td (n + 1) (.tuple (ts.set i d)) := .tup (by rw [List.length_set]; exact hl) fun e he => by
  rcases List.mem_or_eq_of_mem_set he with g | g
  · exact h e g
  · rw [g]; exact hd
theorem sn_set {ts : List PyData} {n i : Nat} {d : PyData} (h : ∀ e ∈ ts, Sn n e) (hd : Sn n d) : Sn (n + 1) (.tuple (ts.set i d)) := sn_tup fun e he => by
  rcases List.mem_or_eq_of_mem_set he with g | g
  · exact h e g
  · rw [g]; exact hd
/-- what style 2 puts in the tasks' place -/
def sixD : PyData := .tuple ((List.range 6).map fun _ => .tuple [.tuple [], .tuple []])
def wrongD (ts : List PyData) (i : Nat) : List PyData := [.none, .tuple [], .str "ab", .tuple ((List.range 7).map fun _ => .tuple []), .tuple (ts.set i .none), .tuple (ts.set i sixD)]
theorem td_nil {n : Nat} : Td (n + 1) (.tuple []) := .tup (by decide) fun e he => (by cases he)
theorem td_six : Td 4 sixD := (td_rng (m := 2) (n := 6) (by decide) fun _ => .tup (n := 1) (by show 2 ≤ 1000; decide) fun z hz => by
  simp at hz
  rw [hz]; exact td_nil : Td 3 sixD).mono (by decide)
theorem sn_six : Sn 4 sixD := ⟨by decide +kernel, by decide +kernel⟩
theorem wrong_ok {ts : List PyData} {i : Nat} (hi : i < ts.length) (h6 : ts.length ≤ 6) (ht : ∀ e ∈ ts, Td 4 e) (hs : ∀ e ∈ ts, Sn 4 e) : ∀ d ∈ wrongD ts i, Td 5 d ∧ Sh d ∧ dTasks d = false := by
  intro d hd
  unfold wrongD at hd
  simp only [List.mem_cons, List.not_mem_nil, or_false] at hd
  rcases hd with rfl | rfl | rfl | rfl | rfl | rfl
  · exact ⟨.non, sh_non, rfl⟩
  · exact ⟨td_nil, ⟨by decide +kernel, by decide +kernel⟩, by decide⟩
  · exact ⟨.str _, sh_str (by decide +kernel), rfl⟩
  · exact ⟨(td_rng (m := 1) (n := 7) (by decide) fun _ => td_nil).mono (by decide), ⟨by decide +kernel, by decide +kernel⟩, by decide +kernel⟩
  · exact ⟨td_set ht .non (by omega), (sn_set hs (sn_non.mono (by decide))).sh (by decide), tasks_bad hi rfl⟩
  · exact ⟨td_set ht td_six (by omega), (sn_set hs sn_six).sh (by decide), tasks_bad hi (by decide +kernel)⟩
end
section
variable {K : PySem.W.Frag}
def fineD (d t : Int) : PyData := .tuple [.tuple [], .tuple [.tuple [.str "deed", .int (d - 1)], .tuple [.str "task", .int (t - 1)]]]
def bad1 (f : Int) : List PyData := [.none, .int 5, .tuple [.tuple []], .tuple [.tuple [], .tuple [], .tuple []], .tuple [.none, .tuple []], .tuple [.tuple [], .none], .tuple [.tuple [.tuple [.int 0, .int 1]], .tuple []], .tuple [.tuple [.tuple [.int 0, .bool true], .tuple [.int 0, .bool false]], .tuple []],
  .tuple [.tuple [.tuple [.int f, .bool true]], .tuple []], .tuple [.tuple [.tuple [.int 1, .bool true], .tuple [.int 0, .bool true]], .tuple []]]
def bad2 (d t : Int) : List PyData := [.tuple [.tuple [], .tuple [.tuple [.str "deed", .int d]]], .tuple [.tuple [], .tuple [.tuple [.str "task", .int t]]], .tuple [.tuple [], .tuple [.tuple [.str "deed"]]], .tuple [.tuple [], .tuple [.tuple [.str "do", .int 0]]], .tuple [.tuple [], .tuple [.tuple [.int 0, .int 0]]],
  .tuple [.tuple [], .tuple [.tuple [.str "deed", .int (-1)]]], .tuple [.tuple [], .tuple [.tuple [.str "deed", .bool true]]]]
def bad3 : List PyData := [.tuple [.tuple [], .tuple ((List.range 6).map fun _ => .tuple [.str "deed", .int 0])], .tuple [.tuple [.tuple [.int 0, .bool true, .int 1]], .tuple []], .tuple [.tuple [.tuple [.int 0]], .tuple []]]
theorem eqv_words : PyData.eqv (.str "deed") (.str "task") = false ∧ PyData.eqv (.str "task") (.str "deed") = false ∧ PyData.eqv (.str "do") (.str "deed") = false ∧ PyData.eqv (.str "do") (.str "task") = false ∧ PyData.eqv (.int 0) (.str "deed") = false ∧ PyData.eqv (.int 0) (.str "task") = false := by decide +kernel
theorem cond_bad {c s : PyData} {f d t : Int} (h : dCond c f = false) : dMethod (.tuple [c, s]) f d t = false := by
  unfold dMethod
  rw [show dAt (.tuple [c, s]) 0 = c from rfl, h, Bool.false_and, Bool.and_false]
theorem step_bad {c s : PyData} {f d t : Int} (h : dStep s d t = false) : dMethod (.tuple [c, .tuple [s]]) f d t = false := by
  unfold dMethod
  have e : dAll (fun e => dStep e d t) (.tuple [s]) = false := by show ((dStep s d t) && true) = false; rw [h]; rfl
  rw [show dAt (.tuple [c, .tuple [s]]) 1 = .tuple [s] from rfl, e, Bool.and_false, Bool.and_false, Bool.and_false]
theorem wanted_bad {x : PyData} {f : Int} (h : dWanted x f = false) : dCond (.tuple [x]) f = false := by
  unfold dCond
  have e : dAll (fun e => dWanted e f) (.tuple [x]) = false := by show ((dWanted x f) && true) = false; rw [h]; rfl
  rw [e, Bool.false_and]
theorem asc_bad {x y : PyData} {f : Int} (h : ascI [dVal (dAt x 0), dVal (dAt y 0)] = false) : dCond (.tuple [x, y]) f = false := by
  unfold dCond
  have e : ascI (((dItems (.tuple [x, y])).getD []).map fun e => dVal (dAt e 0)) = false := h
  rw [e, Bool.and_false]
theorem step_parts {w x : PyData} {d t : Int} : dStep (.tuple [w, x]) d t = ((PyData.eqv w (.str "deed") && dNum x d) || (PyData.eqv w (.str "task") && dNum x t)) := by
  unfold dStep
  rw [row_tup (by show (2 : Int) ≤ ((2 : Nat) : Int); decide) (by show ((2 : Nat) : Int) ≤ 2; decide)]; rfl
theorem num_top {i : Int} : dNum (.int i) i = false := by
  show (decide (0 ≤ i) && decide (i ≤ i - 1)) = false
  rw [decide_eq_false (by omega : ¬ i ≤ i - 1), Bool.and_false]
theorem num_neg {i : Int} : dNum (.int (-1)) i = false := by
  show (decide ((0 : Int) ≤ -1) && decide ((-1 : Int) ≤ i - 1)) = false
  rw [decide_eq_false (by decide : ¬ (0 : Int) ≤ -1), Bool.false_and]
theorem bad_ok {f d t : Int} : ∀ m ∈ bad1 f ++ bad2 d t ++ bad3, dMethod m f d t = false := by
  obtain ⟨e1, e2, e3, e4, e5, e6⟩ := eqv_words
  intro m hm
  unfold bad1 bad2 bad3 at hm
  simp only [List.cons_append, List.nil_append, List.mem_cons, List.not_mem_nil, or_false] at hm
  rcases hm with rfl | rfl | rfl | rfl | rfl | rfl | rfl | rfl | rfl | rfl | rfl | rfl | rfl | rfl | rfl | rfl | rfl | rfl | rfl | rfl
  · rfl
  · rfl
  · rfl
  · rfl
  · exact cond_bad rfl
  · rfl
  · exact cond_bad (wanted_bad (by unfold dWanted; show (_ && (_ && false)) = false; rw [Bool.and_false, Bool.and_false]))
  · exact cond_bad (asc_bad rfl)
  · exact cond_bad (wanted_bad (by unfold dWanted; rw [show dAt (.tuple [.int f, .bool true]) 0 = .int f from rfl, num_top, Bool.false_and, Bool.and_false]))
  · exact cond_bad (asc_bad rfl)
  · exact step_bad (by rw [step_parts, num_top, e1]; simp)
  · exact step_bad (by rw [step_parts, num_top, e2]; simp)
  · exact step_bad rfl
  · exact step_bad (by rw [step_parts, e3, e4]; rfl)
  · exact step_bad (by rw [step_parts, e5, e6]; rfl)
  · exact step_bad (by rw [step_parts, num_neg, e1]; simp)
  · exact step_bad (by rw [step_parts, e1, show dNum (.bool true) d = false from rfl]; simp)
  · unfold dMethod
    rw [show dAt (.tuple [.tuple [], .tuple ((List.range 6).map fun _ => PyData.tuple [.str "deed", .int 0])]) 1 = .tuple ((List.range 6).map fun _ => .tuple [.str "deed", .int 0]) from rfl, show dRow (.tuple ((List.range 6).map fun _ => PyData.tuple [.str "deed", .int 0])) 0 5 = false from by decide +kernel]
    simp
  · exact cond_bad (wanted_bad rfl)
  · exact cond_bad (wanted_bad rfl)
theorem fine_ok {f d t : Int} (hd : 1 ≤ d) (ht : 1 ≤ t) (f0 : 0 ≤ f) : dMethod (fineD d t) f d t = true := by
  have e1 : PyData.eqv (.str "deed") (.str "deed") = true := by decide +kernel
  have e2 : PyData.eqv (.str "task") (.str "task") = true := by decide +kernel
  have n1 : dNum (.int (d - 1)) d = true := by
    show (decide (0 ≤ d - 1) && decide (d - 1 ≤ d - 1)) = true
    rw [decide_eq_true (by omega), decide_eq_true (by omega)]; rfl
  have n2 : dNum (.int (t - 1)) t = true := by
    show (decide (0 ≤ t - 1) && decide (t - 1 ≤ t - 1)) = true
    rw [decide_eq_true (by omega), decide_eq_true (by omega)]; rfl
  have s1 : dStep (.tuple [.str "deed", .int (d - 1)]) d t = true := by rw [step_parts, e1, n1]; rfl
  have s2 : dStep (.tuple [.str "task", .int (t - 1)]) d t = true := by rw [step_parts, e2, n2]; simp
  show ((dRow (fineD d t) 2 2) && (dCond (.tuple []) f && (dRow _ 0 5 && (dStep (.tuple [.str "deed", .int (d - 1)]) d t && (dStep (.tuple [.str "task", .int (t - 1)]) d t && true))))) = true
  rw [s1, s2]; rfl
theorem rd_neg {σ : St} {H0 : Hp} (j : Int) : Rd K σ H0 (tUn (rU fun i => V.int (-i)) (tC (.int j))) (.int (-j)) := fun H Q s k => ⟨j, rfl, k _ _ (Same.refl _) (.int _)⟩
end
section
variable {K : PySem.W.Frag}
abbrev rLenX (K : PySem.W.Frag) : List V → Hp → VK → Prop := fun xs H Q => ∃ p ys, xs = [V.ref p] ∧ (SqL K H p ys ∨ SqT K H p ys) ∧ Q (V.int (ys.length : Int)) H
def tMidK02 (K : PySem.W.Frag) : TS :=
  tSeq (tAsg (tCall (spSet K) [] E0 (tCons (tOp (rIxT K) (tVar 3) (tC (.int 2))) (tCons (tVar 7) (tCons (tCB (rTupX K) (tCons (tVar 13) tNil)) tNil)))) (gSub (tVar 5) (tC (.int 2)) rSetL))
    (tSeq (tIfS (tAnd (tTest (tOp (rI0 fun i j => V.bl (decide (i < j))) (tVar 7) (tOp (rI0 fun i j => V.int (i - j)) (tCB (rLenX K) (tCons (tOp (rIxT K) (tVar 3) (tC (.int 2))) tNil)) (tC (.int 1))))) (tTest (tOp rEq (tCall spTake [] E0 (tCons (tVar 1) (tCons (tVar 2) (tCons (tC (.int 2)) tNil)))) (tC (.int 0)))))
        (tAsg (tCall (spSet K) [] E0 (tCons (tOp (rIxL K) (tVar 5) (tC (.int 2))) (tCons (tOp (rI0 fun i j => V.int (i + j)) (tVar 7) (tC (.int 1))) (tCons (tTup (tCons (tC .non) tNil)) tNil)))) (gSub (tVar 5) (tC (.int 2)) rSetL)) tNext)
      (tAsg (tTup (tCons (tC (.str "method")) (tCons (tVar 7) (tCons (tVar 12) tNil)))) (gName 6)))
theorem take_set2 {ts : List PyData} {i : Nat} {x y : PyData} : ((ts.set i x).set (i + 1) y).take i = ts.take i ∧ (ts.set i x).take i = ts.take i := by
  constructor
  · apply List.ext_getElem?
    intro k
    by_cases h : k < i
    · simp [List.getElem?_take, h, List.getElem?_set, show ¬ i + 1 = k by omega, show ¬ i = k by omega]
    · simp [List.getElem?_take, h]
  · apply List.ext_getElem?
    intro k
    by_cases h : k < i
    · simp [List.getElem?_take, h, List.getElem?_set, show ¬ i = k by omega]
    · simp [List.getElem?_take, h]
theorem k02_err {f d : Int} {ts ts' ms : List PyData} {i j : Nat} {bad : PyData} (f0 : 0 ≤ f) (f4 : f ≤ 4) (d1 : 1 ≤ d) (d5 : d ≤ 5) (t1 : 1 ≤ ts.length) (t6 : ts.length ≤ 6) (tall : ∀ e ∈ ts, TaskD e f d ts.length) (hl : ts'.length = ts.length) (hr : ∀ e ∈ ts', dRow e 0 5 = true) (hi : ts'[i]? = some (.tuple ms)) (htake : ts'.take i = ts.take i)
    (hj : ms[j]? = some bad) (hb : dMethod bad f d ts.length = false) (hfine : ∀ e ∈ ms.take j, dMethod e f d ts.length = true) : errBook (.int f) (.int d) (.tuple ts') = fMethod i j := by
  rw [errBook_rows f0 f4 d1 d5 (by omega) (by omega) hr, hl]
  have hbad : badOf f d ts.length (.tuple ms) = some j := firstBad_some hj hb hfine
  rw [errTasks_some hi hbad fun e he => ?_, Nat.zero_add]
  rw [htake] at he
  exact (tall e (List.mem_of_mem_take he)).none
theorem k02_mid {n : Nat} {D : Ends} {H : Hp} {v0 v4 v6 v8 v9 v10 v11 v14 v15 v16 v17 : Option V} {r sp b Pl Ml q : Addr} {f d : Int} {ts ms : List PyData} {macc : List V} {i j : Nat} {bad : PyData} (R : Rolls r sp H) (hb : SqT K H b [.int f, .int d, .ref q]) (hy : Dp K H (.ref q) (.tuple ts)) (hP : H Pl = some (.lst [.int f, .int d, .ref q])) (nsP : sp ≠ Pl) (nrP : r ≠ Pl)
    (hM : H Ml = some (.lst macc)) (hmd : DpAll K H macc ms) (f0 : 0 ≤ f) (f4 : f ≤ 4) (d1 : 1 ≤ d) (d5 : d ≤ 5) (t1 : 1 ≤ ts.length) (t6 : ts.length ≤ 6) (tall : ∀ e ∈ ts, TaskD e f d ts.length) (hi : i < ts.length) (ml : ms.length = 5) (hj : ms[j]? = some bad) (hbad : dMethod bad f d ts.length = false) (hfine : ∀ e ∈ ms.take j, dMethod e f d ts.length = true)
    (mtd : ∀ e ∈ ms, Td 4 e) (msn : ∀ e ∈ ms, Sn 4 e) (kq : ∀ H', D.rt (.bl true) H') :
    tMidK02 K { D with nx := tEndK02 K n D } [v0, some (.ref r), some (.ref sp), some (.ref b), v4, some (.ref Pl), v6, some (.int (i : Int)), v8, v9, v10, v11, some (.int (j : Int)), some (.ref Ml), v14, v15, v16, v17] H := by
  unfold tMidK02
  obtain ⟨ys, hq, hA⟩ : ∃ ys, SqT K H q ys ∧ DpAll K H ys ts := by
    cases hy with
    | tup h1 h2 => exact ⟨_, h1, h2⟩
  have el := dpAll_len hA
  have tdX : Td 5 (.tuple ms) := .tup (n := 4) (by omega) mtd
  have snX : Sn 5 (.tuple ms) := sn_tup msn
  have tdT : ∀ e ∈ ts, Td 5 e := fun e he => (tall e he).td.mono (by decide)
  have snT : ∀ e ∈ ts, Sn 5 e := fun e he => (tall e he).sn.mono (by decide)
  have rowX : ∀ e ∈ ts.set i (.tuple ms), dRow e 0 5 = true := fun e he => by
    rcases List.mem_or_eq_of_mem_set he with g | g
    · exact (tall e g).row
    · rw [g]; exact row_tup (by omega) (by omega)
  have td1 : Td 6 (.tuple (ts.set i (.tuple ms))) := td_set tdT tdX (by omega)
  have sn1 : Sn 6 (.tuple (ts.set i (.tuple ms))) := sn_set snT snX
  have l1 : (ts.set i (.tuple ms)).length = ts.length := List.length_set
  have e1 : errBook (.int f) (.int d) (.tuple (ts.set i (.tuple ms))) = fMethod i j := k02_err f0 f4 d1 d5 t1 t6 tall l1 rowX (by simp [hi]) (take_set2 (y := .none)).2 hj hbad hfine
  refine ⟨_, rfl, b, _, 2, _, rfl, rfl, hb, at_of (j := 2) rfl rfl, _, rfl, _, rfl, Ml, macc, rfl, .inl ⟨SqL.of hM, fun p hp => ?_⟩⟩
  have sp1 := Same.new (o := .tup macc) hp
  refine ⟨q, ys, i, .ref p, rfl, sqT_same sp1 hq, by omega, by omega, fun q2 H' s' hq2 => ?_⟩
  have s2 := sp1.trans s'
  refine ⟨_, rfl, Pl, _, 2, 2, rfl, rfl, s2 _ _ hP, rfl, ?_⟩
  have hA2 : Dp K H' (.ref q2) (.tuple (ts.set i (.tuple ms))) := .tup (SqT.of hq2) (dpAll_set (dpAll_same s2 hA) (.tup (SqT.of (s' _ _ upd_same)) (dpAll_same s2 hmd)))
  have hP2 := s2 _ _ hP
  have R2 : Rolls r sp (upd H' Pl (.lst ([.int f, .int d, .ref q].set 2 (.ref q2)))) := (rolls_same R s2).put nrP nsP
  have hb2 : SqT K (upd H' Pl (.lst ([.int f, .int d, .ref q].set 2 (.ref q2)))) b [.int f, .int d, .ref q] := sqT_putl hP2 (sqT_same s2 hb)
  have hqq : SqT K (upd H' Pl (.lst ([.int f, .int d, .ref q].set 2 (.ref q2)))) q ys := sqT_putl hP2 (sqT_same s2 hq)
  have hA3 : Dp K (upd H' Pl (.lst ([.int f, .int d, .ref q].set 2 (.ref q2)))) (.ref q2) (.tuple (ts.set i (.tuple ms))) := dp_putl td1 hP2 hA2
  have hP3 : upd H' Pl (.lst ([.int f, .int d, .ref q].set 2 (.ref q2))) Pl = some (.lst [.int f, .int d, .ref q2]) := upd_same
  generalize upd H' Pl (.lst ([.int f, .int d, .ref q].set 2 (.ref q2))) = H2 at *
  obtain ⟨l2, hl2⟩ := R2.lst
  have fin : ∀ (H9 : Hp) (q9 : Addr) (ts9 : List PyData), H9 Pl = some (.lst [.int f, .int d, .ref q9]) → Dp K H9 (.ref q9) (.tuple ts9) → Td 6 (.tuple ts9) → Sn 6 (.tuple ts9) → errBook (.int f) (.int d) (.tuple ts9) = fMethod i j →
      tAsg (tTup (tCons (tC (.str "method")) (tCons (tVar 7) (tCons (tVar 12) tNil)))) (gName 6) { D with nx := tEndK02 K n D } [v0, some (.ref r), some (.ref sp), some (.ref b), v4, some (.ref Pl), v6, some (.int (i : Int)), v8, v9, v10, v11, some (.int (j : Int)), some (.ref Ml), v14, v15, v16, v17] H9 := by
    intro H9 q9 ts9 hP9 hd9 t9 s9 e9
    refine ⟨_, rfl, _, rfl, by show 3 ≤ sizeLine; decide, fun du2 hdu2 => ?_⟩
    have sd := Same.new (o := .tup [.str "method", .int (i : Int), .int (j : Int)]) hdu2
    exact k02_end (Pl := Pl) (du := du2) (sd _ _ hP9) (.int f) (.int d) (dp_same sd hd9) (.tup (SqT.of upd_same) (.cons (.str _) (.cons (.int _) (.cons (.int _) .nil)))) (.int _) (.int _) (t9.wf.mono (by omega)) (s9.sh (by decide)) (.inr ⟨i, j, e9, rfl⟩) kq
  refine ⟨_, rfl, _, rfl, b, _, 2, _, rfl, rfl, hb2, at_of (j := 2) rfl rfl, q, ys, rfl, .inr hqq, _, _, rfl, rfl, _, _, rfl, rfl, _, rfl, ?_⟩
  refine ite2 (fun c => ?_) (fun c => ?_)
  · have hlt := of_decide_eq_true c
    refine ⟨_, rfl, _, rfl, r, sp, 2, rfl, R2, by decide, fun x H3 x0 x1 g3 R3 _ => ⟨rfl, _, rfl, ?_⟩⟩
    have hP4 := g3 _ _ nsP.symm hP3
    have hA4 := dp_grow hl2 g3 td1 hA3
    refine ite2 (fun c2 => ?_) (fun c2 => ?_)
    · refine ⟨_, rfl, Pl, _, 2, _, rfl, rfl, SqL.of hP4, at_of (j := 2) rfl rfl, _, rfl, _, _, rfl, rfl, by show 1 ≤ sizeLine; decide, fun p9 hp9 => ?_⟩
      have s9 := Same.new (o := .tup [.non]) hp9
      obtain ⟨zs, hz, hZ⟩ : ∃ zs, SqT K H3 q2 zs ∧ DpAll K H3 zs (ts.set i (.tuple ms)) := by
        cases hA4 with
        | tup h1 h2 => exact ⟨_, h1, h2⟩
      have ez := dpAll_len hZ
      have hi2 : i + 1 < (ts.set i (.tuple ms)).length := by rw [l1]; omega
      refine ⟨q2, zs, i + 1, .ref p9, rfl, sqT_same s9 hz, by omega, by omega, fun q3 H5 s5 hq3 => ?_⟩
      have s95 := s9.trans s5
      have tdN : Td 1 (.tuple [.none]) := .tup (n := 0) (by decide) fun e he => by rw [List.mem_singleton.mp he]; exact .non
      have snN : Sn 1 (.tuple [.none]) := sn_tup fun e he => by rw [List.mem_singleton.mp he]; exact sn_non
      have h6 : Dp K H5 (.ref q3) (.tuple ((ts.set i (.tuple ms)).set (i + 1) (.tuple [.none]))) := .tup (SqT.of hq3) (dpAll_set (dpAll_same s95 hZ) (.tup (SqT.of (s5 _ _ upd_same)) (.cons .non .nil)))
      have t5 : ∀ e ∈ ts.set i (.tuple ms), Td 5 e := fun e he => by
        rcases List.mem_or_eq_of_mem_set he with g | g
        · exact tdT e g
        · rw [g]; exact tdX
      have n5 : ∀ e ∈ ts.set i (.tuple ms), Sn 5 e := fun e he => by
        rcases List.mem_or_eq_of_mem_set he with g | g
        · exact snT e g
        · rw [g]; exact snX
      have t6' : Td 6 (.tuple ((ts.set i (.tuple ms)).set (i + 1) (.tuple [.none]))) := td_set t5 (tdN.mono (by decide)) (by omega)
      have n6 : Sn 6 (.tuple ((ts.set i (.tuple ms)).set (i + 1) (.tuple [.none]))) := sn_set n5 (snN.mono (by decide))
      refine ⟨_, rfl, Pl, _, 2, 2, rfl, rfl, s95 _ _ hP4, rfl, ?_⟩
      refine fin _ q3 _ upd_same (dp_putl t6' (s95 _ _ hP4) h6) t6' n6 ?_
      refine k02_err f0 f4 d1 d5 t1 t6 tall (by rw [List.length_set, l1]) (fun e he => ?_) ?_ take_set2.1 hj hbad hfine
      · rcases List.mem_or_eq_of_mem_set he with g | g
        · exact rowX e g
        · rw [g]; decide
      · simp [List.getElem?_set, hi]
    · exact tnx (fin _ q2 _ hP4 hA4 td1 sn1 e1)
  · exact tnx (fin _ q2 _ hP3 hA3 td1 sn1 e1)
end
section
variable {K : PySem.W.Frag}
def Gd (n : Nat) (d : PyData) : Prop := Td n d ∧ Sn n d
def GdL (n : Nat) (ds : List PyData) : Prop := ∀ d ∈ ds, Gd n d
theorem gd_int {n : Nat} (i : Int) : Gd n (.int i) := ⟨.int i, (sn_int i).mono (Nat.zero_le _)⟩
theorem gd_bl {n : Nat} (i : Bool) : Gd n (.bool i) := ⟨.bl i, (sn_bl i).mono (Nat.zero_le _)⟩
theorem gd_non {n : Nat} : Gd n .none := ⟨.non, sn_non.mono (Nat.zero_le _)⟩
theorem gd_str {n : Nat} {x : Str} (h : (PyData.str x).canLay0 = true) : Gd n (.str x) := ⟨.str x, (sn_str h).mono (Nat.zero_le _)⟩
theorem gdL_nil {n : Nat} : GdL n [] := fun d h => by cases h
theorem gdL_cons {n : Nat} {d : PyData} {ds : List PyData} (h1 : Gd n d) (h2 : GdL n ds) : GdL n (d :: ds) := fun e he => by
  rcases List.mem_cons.mp he with rfl | q
  · exact h1
  · exact h2 e q
theorem gd_tup {n : Nat} {ds : List PyData} (h : GdL n ds) (hl : ds.length ≤ 1000) : Gd (n + 1) (.tuple ds) := ⟨.tup hl fun d hd => (h d hd).1, sn_tup fun d hd => (h d hd).2⟩
theorem gdL_rng {n m : Nat} {F : Nat → PyData} (h : ∀ i, Gd m (F i)) : GdL m ((List.range n).map F) := fun d hd => by
  obtain ⟨i, _, rfl⟩ := List.mem_map.mp hd
  exact h i
theorem bad_gd {f d t : Int} : GdL 4 (bad1 f ++ bad2 d t ++ bad3) := by
  have h1 : GdL 4 (bad1 f) := by
    unfold bad1
    repeat' first | exact gdL_nil | refine gdL_cons ?_ ?_ | exact gd_non | exact gd_int _ | exact gd_bl _ | exact gd_str (by decide +kernel) | refine gd_tup ?_ (by simp)
  have h2 : GdL 4 (bad2 d t) := by
    unfold bad2
    repeat' first | exact gdL_nil | refine gdL_cons ?_ ?_ | exact gd_non | exact gd_int _ | exact gd_bl _ | exact gd_str (by decide +kernel) | refine gd_tup ?_ (by simp)
  have h3 : GdL 4 bad3 := by
    unfold bad3
    repeat' first | exact gdL_nil | refine gdL_cons ?_ ?_ | exact gd_non | exact gd_int _ | exact gd_bl _ | exact gd_str (by decide +kernel) | refine gdL_rng fun _ => ?_ | refine gd_tup ?_ (by simp)
  intro e he
  rcases List.mem_append.mp he with q | q
  · rcases List.mem_append.mp q with q | q
    · exact h1 e q
    · exact h2 e q
  · exact h3 e q
theorem fine_gd {d t : Int} : Gd 4 (fineD d t) := by
  unfold fineD
  repeat' first | exact gdL_nil | refine gdL_cons ?_ ?_ | exact gd_int _ | exact gd_str (by decide +kernel) | refine gd_tup ?_ (by simp)
theorem take_set_le {ts : List PyData} {j m : Nat} {x : PyData} (h : j ≤ m) : (ts.set m x).take j = ts.take j := by
  apply List.ext_getElem?
  intro k
  by_cases hk : k < j
  · simp [List.getElem?_take, hk, List.getElem?_set, show ¬ m = k by omega]
  · simp [List.getElem?_take, hk]
end
end Mw
set_option Elab.async false
set_option maxRecDepth 100000
set_option maxHeartbeats 4000000
namespace Mw
open PySem L2
section
variable {K : PySem.W.Frag}
def tOneK02 (K : PySem.W.Frag) : TS :=
  tSeq (tAsg (tOp (rIxL K) (tVar 10) (tCall spTake [] E0 (tCons (tVar 1) (tCons (tVar 2) (tCons (tCB (rLenX K) (tCons (tVar 10) tNil)) tNil))))) (gName 11))
    (tSeq (tAsg (tCall spTake [] E0 (tCons (tVar 1) (tCons (tVar 2) (tCons (tC (.int 5)) tNil)))) (gName 12))
      (tSeq (tAsg (tLc (iRng1 (tCons (tC (.int 5)) tNil)) (gName 15) tYes (tVar 9) [15]) (gName 13))
        (tSeq (tAsg (tVar 11) (gSub (tVar 13) (tVar 12) rSetL))
          (tSeq (tIfS (tAnd (tTest (tOp (rI0 fun i j => V.bl (decide (i < j))) (tVar 12) (tC (.int 4)))) (tTest (tOp rEq (tCall spTake [] E0 (tCons (tVar 1) (tCons (tVar 2) (tCons (tC (.int 2)) tNil)))) (tC (.int 0))))) (tAsg (tC .non) (gSub (tVar 13) (tC (.int 4)) rSetL)) tNext)
            (tMidK02 K)))))
theorem k02_one {n : Nat} {D : Ends} {H15 : Hp} {v0 v4 v6 v8 v14 v15 v16 v17 : Option V} {r sp b Pl L5 q8 : Addr} {f d : Int} {ts : List PyData} {yb : List V} {yf : V} {i : Nat} (R15 : Rolls r sp H15) (hb15 : SqT K H15 b [.int f, .int d, .ref q8]) (hy15 : Dp K H15 (.ref q8) (.tuple ts)) (hP15 : H15 Pl = some (.lst [.int f, .int d, .ref q8])) (nsP : sp ≠ Pl) (nrP : r ≠ Pl)
    (hL5u : H15 L5 = some (.lst yb)) (nL5 : L5 ≠ sp) (hyb : DpAll K H15 yb (bad1 f ++ bad2 d ts.length ++ bad3)) (hyf15 : Dp K H15 yf (fineD d ts.length)) (tdts : Td 5 (.tuple ts)) (f0 : 1 ≤ f) (f4 : f ≤ 4) (d1 : 1 ≤ d) (d5 : d ≤ 5) (t1 : 1 ≤ ts.length) (t6 : ts.length ≤ 6) (tall : ∀ e ∈ ts, TaskD e f d ts.length) (hi : i < ts.length) (kq : ∀ H', D.rt (.bl true) H') :
    tOneK02 K { D with nx := tEndK02 K n D } [v0, some (.ref r), some (.ref sp), some (.ref b), v4, some (.ref Pl), v6, some (.int (i : Int)), v8, some yf, some (.ref L5), none, none, none, v14, v15, v16, v17] H15 := by
      unfold tOneK02
      have zb : yb.length = 20 := by rw [dpAll_len hyb]; rfl
      obtain ⟨l15, hl15⟩ := R15.lst
      refine ⟨_, rfl, _, rfl, _, rfl, _, rfl, L5, _, rfl, .inl (SqL.of hL5u), r, sp, _, rfl, R15, by omega, fun z H16 z0 z1' g16 R16 _ => ?_⟩
      have hL16 := g16 _ _ nL5 hL5u
      have hyb16 := dpAll_grow hl15 g16 (fun e he => ⟨4, (bad_gd e he).1⟩) hyb
      have hz9 : z.toNat < (bad1 f ++ bad2 d ts.length ++ bad3).length := by show z.toNat < 20; omega
      obtain ⟨dv, hdv⟩ : ∃ dv, (bad1 f ++ bad2 d ts.length ++ bad3)[z.toNat]? = some dv := ⟨(bad1 f ++ bad2 d ts.length ++ bad3)[z.toNat], by simp [hz9]⟩
      obtain ⟨v, hv, hvd⟩ := dpAll_get hyb16 hdv
      have dvm := List.mem_of_getElem? hdv
      have dvb : dMethod dv f d ts.length = false := bad_ok dv dvm
      have dvg := bad_gd dv dvm
      have hyf16 := dp_grow hl15 g16 fine_gd.1 hyf15
      refine ⟨L5, _, z, v, rfl, rfl, SqL.of hL16, at_of (j := z.toNat) (by omega) hv, ?_⟩
      refine ⟨_, rfl, _, rfl, r, sp, 5, rfl, R16, by decide, fun zj H17 zj0 zj1 g17 R17 _ => ?_⟩
      obtain ⟨j, rfl⟩ : ∃ j : Nat, zj = (j : Int) := ⟨zj.toNat, by omega⟩
      obtain ⟨l16, hl16⟩ := R16.lst
      have hvd17 := dp_grow hl16 g17 dvg.1 hvd
      have hyf17 := dp_grow hl16 g17 fine_gd.1 hyf16
      have hb17 := sqT_grow hl16 g17 (sqT_grow hl15 g16 hb15)
      have hy17 := dp_grow hl16 g17 tdts (dp_grow hl15 g16 tdts (hy15))
      have hP17 := g17 _ _ nsP.symm (g16 _ _ nsP.symm (hP15))
      obtain ⟨l17, hl17⟩ := R17.lst
      dsimp only
      refine tseq (tasg (lc_rng (K := K) (j := 5) 5 (fun _ => fineD d ts.length) (fun R k => k) rfl (by decide) (by decide) (fun _ _ => ⟨4, fine_gd.1⟩) (fun x => wipe_one x) (fun q H18 Qe hq s18 k => ?_) (fun Ml macc H18 hMl s18 hM18 hmd18 => ?_)))
      · exact ⟨_, rfl, k _ _ (Same.refl _) (dp_same s18 hyf17)⟩
      have nsM : sp ≠ Ml := ne_of_none hl17 hMl
      have em := dpAll_len hmd18
      have zm : macc.length = 5 := by rw [em]; rfl
      have hj : j < 5 := by omega
      obtain ⟨lr17, hlr17⟩ := R17.rowAt
      have nrM : r ≠ Ml := ne_of_none hlr17 hMl
      have nPM : Pl ≠ Ml := ne_of_none hP17 hMl
      have fl : ∀ e ∈ (List.range 5).map fun _ => fineD d ts.length, e = fineD d ts.length := fun e he => by
        obtain ⟨_, _, rfl⟩ := List.mem_map.mp he
        rfl
      have m1g : GdL 4 (((List.range 5).map fun _ => fineD d ts.length).set j dv) := fun e he => by
        rcases List.mem_or_eq_of_mem_set he with g | g
        · rw [fl e g]; exact fine_gd
        · rw [g]; exact dvg
      have m1t : ∀ e ∈ (((List.range 5).map fun _ => fineD d ts.length).set j dv).take j, dMethod e f d ts.length = true := fun e he => by
        rw [take_set_le (Nat.le_refl j)] at he
        rw [fl e (List.mem_of_mem_take he)]
        exact fine_ok d1 (by omega) (by omega)
      have m1l : (((List.range 5).map fun _ => fineD d ts.length).set j dv).length = 5 := by rw [List.length_set]; rfl
      have m1j : (((List.range 5).map fun _ => fineD d ts.length).set j dv)[j]? = some dv := by simp [List.getElem?_set, hj]
      dsimp only
      refine ⟨_, rfl, _, rfl, _, rfl, Ml, macc, (j : Int), j, rfl, rfl, hM18, ?_, ?_⟩
      · unfold ixN
        rw [if_pos (by omega), if_pos (by omega), Int.toNat_natCast]
      have hm1 : DpAll K (upd H18 Ml (.lst (macc.set j v))) (macc.set j v) (((List.range 5).map fun _ => fineD d ts.length).set j dv) := dpAll_put (fun e he => ⟨4, (m1g e he).1⟩) hM18 (dpAll_set hmd18 (dp_same s18 hvd17))
      have R19 : Rolls r sp (upd H18 Ml (.lst (macc.set j v))) := (rolls_same R17 s18).put nrM nsM
      have hb19 : SqT K (upd H18 Ml (.lst (macc.set j v))) b [.int f, .int d, .ref q8] := sqT_putl hM18 (sqT_same s18 hb17)
      have hy19 : Dp K (upd H18 Ml (.lst (macc.set j v))) (.ref q8) (.tuple ts) := dp_putl tdts hM18 (dp_same s18 hy17)
      have hP19 : upd H18 Ml (.lst (macc.set j v)) Pl = some (.lst [.int f, .int d, .ref q8]) := by rw [upd_ne nPM]; exact s18 _ _ hP17
      have hM19 : upd H18 Ml (.lst (macc.set j v)) Ml = some (.lst (macc.set j v)) := upd_same
      generalize upd H18 Ml (.lst (macc.set j v)) = H19 at *
      obtain ⟨l19, hl19⟩ := R19.lst
      dsimp only
      refine ⟨_, rfl, _, _, rfl, rfl, _, rfl, ite2 (fun c4 => ?_) (fun c4 => ?_)⟩
      · have j4 : j < 4 := by have := of_decide_eq_true c4; omega
        refine ⟨_, rfl, _, rfl, r, sp, 2, rfl, R19, by decide, fun x H20 x0 x1 g20 R20 _ => ⟨rfl, _, rfl, ?_⟩⟩
        have hb20 := sqT_grow hl19 g20 hb19
        have hy20 := dp_grow hl19 g20 tdts hy19
        have hP20 := g20 _ _ nsP.symm hP19
        have hM20 := g20 _ _ nsM.symm hM19
        have hm20 := dpAll_grow hl19 g20 (fun e he => ⟨4, (m1g e he).1⟩) hm1
        refine ite2 (fun c5 => ?_) (fun c5 => ?_)
        · have m2g : GdL 4 ((((List.range 5).map fun _ => fineD d ts.length).set j dv).set 4 .none) := fun e he => by
            rcases List.mem_or_eq_of_mem_set he with g | g
            · exact m1g e g
            · rw [g]; exact gd_non
          refine ⟨_, rfl, Ml, _, 4, 4, rfl, rfl, hM20, ?_, ?_⟩
          · unfold ixN
            rw [if_pos (by decide), if_pos (by rw [List.length_set, zm]; decide)]; rfl
          exact k02_mid (bad := dv) (R20.put nrM nsM) (sqT_putl hM20 hb20) (dp_putl tdts hM20 hy20) (by rw [upd_ne nPM]; exact hP20) nsP nrP upd_same (dpAll_put (fun e he => ⟨4, (m2g e he).1⟩) hM20 (dpAll_set hm20 .non)) (by omega) f4 d1 d5 t1 t6 tall hi (by rw [List.length_set, m1l]) (by rw [List.getElem?_set_ne (by omega)]; exact m1j) dvb (by rw [take_set_le (by omega)]; exact m1t) (fun e he => (m2g e he).1) (fun e he => (m2g e he).2) kq
        · refine tnx ?_
          exact k02_mid (bad := dv) R20 hb20 hy20 hP20 nsP nrP hM20 hm20 (by omega) f4 d1 d5 t1 t6 tall hi m1l m1j dvb m1t (fun e he => (m1g e he).1) (fun e he => (m1g e he).2) kq
      · refine tnx ?_
        exact k02_mid (bad := dv) R19 hb19 hy19 hP19 nsP nrP hM19 hm1 (by omega) f4 d1 d5 t1 t6 tall hi m1l m1j dvb m1t (fun e he => (m1g e he).1) (fun e he => (m1g e he).2) kq
end
end Mw
set_option Elab.async false
set_option maxRecDepth 100000
set_option maxHeartbeats 8000000
namespace Mw
open PySem L2
abbrev S_law : Stmt := topS 34
abbrev N_law : List Str := ["script", "row", "spot", "book", "style", "parts", "due", "at", "wrong", "fine", "bad", "one", "place", "methods", "full", "k", "i", "j"]
abbrev P_law : List Str := ["script"]
theorem sc_law : FnScope N_law P_law (defScope S_law) := ⟨rfl, rfl, rfl, by decide +kernel, rfl, by decide +kernel, by decide +kernel⟩
section
variable {P : Program} {w : World} {K : PySem.W.Frag} {mg : Str → Option Value} {base : Heap}
theorem fn_law {k n : Nat} (T : Bi mg) (C_law_numbers : Cal P w K mg base CX0 "_law_numbers" k P_law_numbers (spNumbers K)) (C_law_take : Cal P w K mg base CX0 "_law_take" k P_law_take spTake) (C_law_book : Cal P w K mg base CX0 "_law_book" k P_law_book (spLBook K)) (C_law_set : Cal P w K mg base CX0 "_law_set" k P_law_set (spSet K))
    (C_law_book_fault : Cal P w K mg base CX0 "_law_book_fault" k P_law_book_fault (spBookFault K (n + 8))) {fa : Addr} {fd : FuncData} (F : Fun K "law" "law" S_law fa fd) : FnOk P w K mg base CX0 (k + 1) fa fd P_law (spLaw K) := by
  refine F.ok sc_law (fun vs H Q E h => ?_) (fun cdv A outer s H vs Q E hr h => ?_)
  · obtain ⟨a, ns, rfl, _⟩ := h; rfl
  · obtain ⟨a, ns, rfl, hs, hl, hb, kq⟩ := h
    refine ⟨_, (pss_cons (ps_set (i := 1) sc_law.nd rfl (Or.inl rfl) (pe_fn C_law_numbers hr (pa_cons (pv 0) pa_nil)))
  (pss_cons (ps_set (i := 2) sc_law.nd rfl (Or.inl rfl) (pe_lst (pa_cons pe_int pa_nil)))
  (pss_cons (ps_set (i := 3) sc_law.nd rfl (Or.inl rfl) (pe_fn C_law_book hr (pa_cons (pv 1) (pa_cons (pv 2) (pa_cons (pe_op op_add pe_int (pe_fn C_law_take hr (pa_cons (pv 1) (pa_cons (pv 2) (pa_cons pe_int pa_nil))))) (pa_cons (pe_op op_add pe_int (pe_fn C_law_take hr (pa_cons (pv 1) (pa_cons (pv 2) (pa_cons pe_int pa_nil))))) (pa_cons (pe_op op_add pe_int (pe_fn C_law_take hr (pa_cons (pv 1) (pa_cons (pv 2) (pa_cons pe_int pa_nil))))) (pa_cons pe_int (pa_cons pe_bl pa_nil)))))))))
  (pss_cons (ps_if (pt_cmp (pc_notN (pe_fn C_law_book_fault hr (pa_cons (pe_ix ix_tup (pv 3) pe_int (fun _ _ => rfl)) (pa_cons (pe_ix ix_tup (pv 3) pe_int (fun _ _ => rfl)) (pa_cons (pe_ix ix_tup (pv 3) pe_int (fun _ _ => rfl)) pa_nil)))))) (pss_one (ps_ret pe_bl)) pss_nil)
  (pss_cons (ps_set (i := 4) sc_law.nd rfl (Or.inl rfl) (pe_fn C_law_take hr (pa_cons (pv 1) (pa_cons (pv 2) (pa_cons pe_int pa_nil)))))
  (pss_cons (ps_set (i := 5) sc_law.nd rfl (Or.inl rfl) (pe_lst (pa_cons (pe_ix ix_tup (pv 3) pe_int (fun _ _ => rfl)) (pa_cons (pe_ix ix_tup (pv 3) pe_int (fun _ _ => rfl)) (pa_cons (pe_ix ix_tup (pv 3) pe_int (fun _ _ => rfl)) pa_nil)))))
  (pss_cons (ps_set (i := 6) sc_law.nd rfl (Or.inl rfl) (pe_tup (pa_cons pe_str (pa_cons pe_int pa_nil))))
  (pss_cons (ps_if (pt_cmpR op_eq (pv 4) pe_int (nomark _)) (pss_one (ps_asg (pe_ix ix_list (pe_lst (pa_cons (pe_un un_neg pe_int) (pa_cons pe_int (pa_cons pe_bl (pa_cons pe_non (pa_cons pe_str pa_nil)))))) (pe_fn C_law_take hr (pa_cons (pv 1) (pa_cons (pv 2) (pa_cons pe_int pa_nil)))) (fun _ _ => rfl)) (pg_sub (pv 5) pe_int set_list))) pss_nil)
  (pss_cons (ps_if (pt_cmpR op_eq (pv 4) pe_int (nomark _)) (pss_cons (ps_asg (pe_ix ix_list (pe_lst (pa_cons pe_int (pa_cons pe_int (pa_cons pe_bl (pa_cons pe_non (pa_cons (pe_op op_pow pe_int pe_int) pa_nil)))))) (pe_fn C_law_take hr (pa_cons (pv 1) (pa_cons (pv 2) (pa_cons pe_int pa_nil)))) (fun _ _ => rfl)) (pg_sub (pv 5) pe_int set_list))
  (pss_one (ps_set (i := 6) sc_law.nd rfl (Or.inl rfl) (pe_tup (pa_cons pe_str (pa_cons pe_int pa_nil)))))) pss_nil)
  (pss_cons (ps_if (pt_cmpR op_eq (pv 4) pe_int (nomark _)) (pss_cons (ps_set (i := 7) sc_law.nd rfl (Or.inl rfl) (pe_fn C_law_take hr (pa_cons (pv 1) (pa_cons (pv 2) (pa_cons (pe_callB (id := "len") call_len_seq (by rfl) T.len (by decide +kernel) (pa_cons (pe_ix ix_tup (pv 3) pe_int (fun _ _ => rfl)) pa_nil)) pa_nil)))))
  (pss_cons (ps_set (i := 8) sc_law.nd rfl (Or.inl rfl) (pe_lst (pa_cons pe_non (pa_cons (pe_tup pa_nil) (pa_cons pe_str (pa_cons (pe_callTy (T := "tuple") call_tuple_of (by rfl) T.tuple (by decide +kernel) (pa_cons (pe_lc (own := [("k", 15)]) (tt := tYes) rfl sc_law.nd (pi_range1 (by rfl) T.range (pa_cons pe_int pa_nil)) (blkOk_by (N := N_law) (sc := defScope S_law) (by decide +kernel)) (fun _ _ _ _ _ => (pg_name (i := 15) sc_law.nd rfl (Or.inl rfl))) (fun _ _ _ _ _ => pts_nil) (fun _ _ _ _ _ => (pe_tup pa_nil))) pa_nil)) (pa_cons (pe_fn C_law_set hr (pa_cons (pe_ix ix_tup (pv 3) pe_int (fun _ _ => rfl)) (pa_cons (pv 7) (pa_cons pe_non pa_nil)))) (pa_cons (pe_fn C_law_set hr (pa_cons (pe_ix ix_tup (pv 3) pe_int (fun _ _ => rfl)) (pa_cons (pv 7) (pa_cons (pe_callTy (T := "tuple") call_tuple_of (by rfl) T.tuple (by decide +kernel) (pa_cons (pe_lc (own := [("k", 15)]) (tt := tYes) rfl sc_law.nd (pi_range1 (by rfl) T.range (pa_cons pe_int pa_nil)) (blkOk_by (N := N_law) (sc := defScope S_law) (by decide +kernel)) (fun _ _ _ _ _ => (pg_name (i := 15) sc_law.nd rfl (Or.inl rfl))) (fun _ _ _ _ _ => pts_nil) (fun _ _ _ _ _ => (pe_tup (pa_cons (pe_tup pa_nil) (pa_cons (pe_tup pa_nil) pa_nil))))) pa_nil)) pa_nil)))) pa_nil))))))))
  (pss_cons (ps_asg (pe_ix ix_list (pv 8) (pe_fn C_law_take hr (pa_cons (pv 1) (pa_cons (pv 2) (pa_cons pe_int pa_nil)))) (fun _ _ => rfl)) (pg_sub (pv 5) pe_int set_list))
  (pss_one (ps_set (i := 6) sc_law.nd rfl (Or.inl rfl) (pe_tup (pa_cons pe_str (pa_cons pe_int pa_nil)))))))) pss_nil)
  (pss_cons (ps_if (pt_cmpR op_gt (pv 4) pe_int (nomark _)) (pss_cons (ps_set (i := 7) sc_law.nd rfl (Or.inl rfl) (pe_fn C_law_take hr (pa_cons (pv 1) (pa_cons (pv 2) (pa_cons (pe_callB (id := "len") call_len_seq (by rfl) T.len (by decide +kernel) (pa_cons (pe_ix ix_tup (pv 3) pe_int (fun _ _ => rfl)) pa_nil)) pa_nil)))))
  (pss_cons (ps_set (i := 9) sc_law.nd rfl (Or.inr rfl) (pe_tup (pa_cons (pe_tup pa_nil) (pa_cons (pe_tup (pa_cons (pe_tup (pa_cons pe_str (pa_cons (pe_op op_sub (pe_ix ix_tup (pv 3) pe_int (fun _ _ => rfl)) pe_int) pa_nil))) (pa_cons (pe_tup (pa_cons pe_str (pa_cons (pe_op op_sub (pe_callB (id := "len") call_len_seq (by rfl) T.len (by decide +kernel) (pa_cons (pe_ix ix_tup (pv 3) pe_int (fun _ _ => rfl)) pa_nil)) pe_int) pa_nil))) pa_nil))) pa_nil))))
  (pss_cons (ps_set (i := 10) sc_law.nd rfl (Or.inl rfl) (pe_lst (pa_cons pe_non (pa_cons pe_int (pa_cons (pe_tup (pa_cons (pe_tup pa_nil) pa_nil)) (pa_cons (pe_tup (pa_cons (pe_tup pa_nil) (pa_cons (pe_tup pa_nil) (pa_cons (pe_tup pa_nil) pa_nil)))) (pa_cons (pe_tup (pa_cons pe_non (pa_cons (pe_tup pa_nil) pa_nil))) (pa_cons (pe_tup (pa_cons (pe_tup pa_nil) (pa_cons pe_non pa_nil))) (pa_cons (pe_tup (pa_cons (pe_tup (pa_cons (pe_tup (pa_cons pe_int (pa_cons pe_int pa_nil))) pa_nil)) (pa_cons (pe_tup pa_nil) pa_nil))) (pa_cons (pe_tup (pa_cons (pe_tup (pa_cons (pe_tup (pa_cons pe_int (pa_cons pe_bl pa_nil))) (pa_cons (pe_tup (pa_cons pe_int (pa_cons pe_bl pa_nil))) pa_nil))) (pa_cons (pe_tup pa_nil) pa_nil))) (pa_cons (pe_tup (pa_cons (pe_tup (pa_cons (pe_tup (pa_cons (pe_ix ix_tup (pv 3) pe_int (fun _ _ => rfl)) (pa_cons pe_bl pa_nil))) pa_nil)) (pa_cons (pe_tup pa_nil) pa_nil))) (pa_cons (pe_tup (pa_cons (pe_tup (pa_cons (pe_tup (pa_cons pe_int (pa_cons pe_bl pa_nil))) (pa_cons (pe_tup (pa_cons pe_int (pa_cons pe_bl pa_nil))) pa_nil))) (pa_cons (pe_tup pa_nil) pa_nil))) pa_nil))))))))))))
  (pss_cons (ps_set (i := 10) sc_law.nd rfl (Or.inl rfl) (pe_op op_cat (pv 10) (pe_lst (pa_cons (pe_tup (pa_cons (pe_tup pa_nil) (pa_cons (pe_tup (pa_cons (pe_tup (pa_cons pe_str (pa_cons (pe_ix ix_tup (pv 3) pe_int (fun _ _ => rfl)) pa_nil))) pa_nil)) pa_nil))) (pa_cons (pe_tup (pa_cons (pe_tup pa_nil) (pa_cons (pe_tup (pa_cons (pe_tup (pa_cons pe_str (pa_cons (pe_callB (id := "len") call_len_seq (by rfl) T.len (by decide +kernel) (pa_cons (pe_ix ix_tup (pv 3) pe_int (fun _ _ => rfl)) pa_nil)) pa_nil))) pa_nil)) pa_nil))) (pa_cons (pe_tup (pa_cons (pe_tup pa_nil) (pa_cons (pe_tup (pa_cons (pe_tup (pa_cons pe_str pa_nil)) pa_nil)) pa_nil))) (pa_cons (pe_tup (pa_cons (pe_tup pa_nil) (pa_cons (pe_tup (pa_cons (pe_tup (pa_cons pe_str (pa_cons pe_int pa_nil))) pa_nil)) pa_nil))) (pa_cons (pe_tup (pa_cons (pe_tup pa_nil) (pa_cons (pe_tup (pa_cons (pe_tup (pa_cons pe_int (pa_cons pe_int pa_nil))) pa_nil)) pa_nil))) (pa_cons (pe_tup (pa_cons (pe_tup pa_nil) (pa_cons (pe_tup (pa_cons (pe_tup (pa_cons pe_str (pa_cons (pe_un un_neg pe_int) pa_nil))) pa_nil)) pa_nil))) (pa_cons (pe_tup (pa_cons (pe_tup pa_nil) (pa_cons (pe_tup (pa_cons (pe_tup (pa_cons pe_str (pa_cons pe_bl pa_nil))) pa_nil)) pa_nil))) pa_nil))))))))))
  (pss_cons (ps_set (i := 10) sc_law.nd rfl (Or.inl rfl) (pe_op op_cat (pv 10) (pe_lst (pa_cons (pe_tup (pa_cons (pe_tup pa_nil) (pa_cons (pe_callTy (T := "tuple") call_tuple_of (by rfl) T.tuple (by decide +kernel) (pa_cons (pe_lc (own := [("k", 15)]) (tt := tYes) rfl sc_law.nd (pi_range1 (by rfl) T.range (pa_cons pe_int pa_nil)) (blkOk_by (N := N_law) (sc := defScope S_law) (by decide +kernel)) (fun _ _ _ _ _ => (pg_name (i := 15) sc_law.nd rfl (Or.inl rfl))) (fun _ _ _ _ _ => pts_nil) (fun _ _ _ _ _ => (pe_tup (pa_cons pe_str (pa_cons pe_int pa_nil))))) pa_nil)) pa_nil))) (pa_cons (pe_tup (pa_cons (pe_tup (pa_cons (pe_tup (pa_cons pe_int (pa_cons pe_bl (pa_cons pe_int pa_nil)))) pa_nil)) (pa_cons (pe_tup pa_nil) pa_nil))) (pa_cons (pe_tup (pa_cons (pe_tup (pa_cons (pe_tup (pa_cons pe_int pa_nil)) pa_nil)) (pa_cons (pe_tup pa_nil) pa_nil))) pa_nil))))))
  (pss_cons (ps_set (i := 11) sc_law.nd rfl (Or.inl rfl) (pe_ix ix_list (pv 10) (pe_fn C_law_take hr (pa_cons (pv 1) (pa_cons (pv 2) (pa_cons (pe_callB (id := "len") call_len_seq (by rfl) T.len (by decide +kernel) (pa_cons (pv 10) pa_nil)) pa_nil)))) (fun _ _ => rfl)))
  (pss_cons (ps_set (i := 12) sc_law.nd rfl (Or.inl rfl) (pe_fn C_law_take hr (pa_cons (pv 1) (pa_cons (pv 2) (pa_cons pe_int pa_nil)))))
  (pss_cons (ps_setLc (i := 13) (own := [("k", 15)]) (tt := tYes) rfl sc_law.nd rfl rfl (sw_true rfl rfl rfl (by decide +kernel)) (pi_range1 (by rfl) T.range (pa_cons pe_int pa_nil)) (blkOk_by (N := N_law) (sc := defScope S_law) (by decide +kernel)) (fun _ _ _ _ _ => (pg_name (i := 15) sc_law.nd rfl (Or.inl rfl))) (fun _ _ _ _ _ => pts_nil) (fun _ _ _ _ _ => (pv 9)))
  (pss_cons (ps_asg (pv 11) (pg_sub (pv 13) (pv 12) set_list))
  (pss_cons (ps_if (PW.pt (pw_and (pt_cmpR op_lt (pv 12) pe_int (nomark _)) (pw_and1 (pt_cmpR op_eq (pe_fn C_law_take hr (pa_cons (pv 1) (pa_cons (pv 2) (pa_cons pe_int pa_nil)))) pe_int (nomark _))))) (pss_one (ps_asg pe_non (pg_sub (pv 13) pe_int set_list))) pss_nil)
  (pss_cons (ps_asg (pe_fn C_law_set hr (pa_cons (pe_ix ix_tup (pv 3) pe_int (fun _ _ => rfl)) (pa_cons (pv 7) (pa_cons (pe_callTy (T := "tuple") call_tuple_of (by rfl) T.tuple (by decide +kernel) (pa_cons (pv 13) pa_nil)) pa_nil)))) (pg_sub (pv 5) pe_int set_list))
  (pss_cons (ps_if (PW.pt (pw_and (pt_cmpR op_lt (pv 7) (pe_op op_sub (pe_callB (id := "len") call_len_seq (by rfl) T.len (by decide +kernel) (pa_cons (pe_ix ix_tup (pv 3) pe_int (fun _ _ => rfl)) pa_nil)) pe_int) (nomark _)) (pw_and1 (pt_cmpR op_eq (pe_fn C_law_take hr (pa_cons (pv 1) (pa_cons (pv 2) (pa_cons pe_int pa_nil)))) pe_int (nomark _))))) (pss_one (ps_asg (pe_fn C_law_set hr (pa_cons (pe_ix ix_list (pv 5) pe_int (fun _ _ => rfl)) (pa_cons (pe_op op_add (pv 7) pe_int) (pa_cons (pe_tup (pa_cons pe_non pa_nil)) pa_nil)))) (pg_sub (pv 5) pe_int set_list))) pss_nil)
  (pss_one (ps_set (i := 6) sc_law.nd rfl (Or.inl rfl) (pe_tup (pa_cons pe_str (pa_cons (pv 7) (pa_cons (pv 12) pa_nil)))))))))))))))))) pss_nil)
  (pss_cons (ps_if (pt_cmpR (op_neD (hu64 hr)) (pe_fn C_law_book_fault hr (pa_cons (pe_ix ix_list (pv 5) pe_int (fun _ _ => rfl)) (pa_cons (pe_ix ix_list (pv 5) pe_int (fun _ _ => rfl)) (pa_cons (pe_ix ix_list (pv 5) pe_int (fun _ _ => rfl)) pa_nil)))) (pv 6) (nomark _)) (pss_one (ps_ret pe_bl)) pss_nil)
  (pss_cons (ps_set (i := 14) sc_law.nd rfl (Or.inl rfl) (pe_callTy (T := "tuple") call_tuple_of (by rfl) T.tuple (by decide +kernel) (pa_cons (pe_lc (own := [("i", 16)]) (tt := tYes) rfl sc_law.nd (pi_range1 (by rfl) T.range (pa_cons pe_int pa_nil)) (blkOk_by (N := N_law) (sc := defScope S_law) (by decide +kernel)) (fun _ _ _ _ _ => (pg_name (i := 16) sc_law.nd rfl (Or.inl rfl))) (fun _ _ _ _ _ => pts_nil) (fun _ _ _ _ _ => (pe_callTy (T := "tuple") (r := rTupQ K) call_tuple_of (by rfl) T.tuple (by decide +kernel) (pa_cons (pe_lc (own := [("j", 17)]) (tt := tYes) rfl sc_law.nd (pi_range1 (by rfl) T.range (pa_cons pe_int pa_nil)) (blkOk_by (N := N_law) (sc := { kind := .function, names := [(PySem.Str.ofString ".0", .local), (PySem.Str.ofString "i", .local), (PySem.Str.ofString "tuple", .globalImplicit), (PySem.Str.ofString "range", .globalImplicit)], isGenerator := false, isCoroutine := false }) (by decide +kernel)) (fun _ _ _ _ _ => (pg_name (i := 17) sc_law.nd rfl (Or.inl rfl))) (fun _ _ _ _ _ => pts_nil) (fun _ _ _ _ _ => (pe_tup (pa_cons (pe_callTy (T := "tuple") (r := rTupQ K) call_tuple_of (by rfl) T.tuple (by decide +kernel) (pa_cons (pe_lc (own := [("k", 15)]) (tt := tYes) rfl sc_law.nd (pi_range1 (by rfl) T.range (pa_cons pe_int pa_nil)) (blkOk_by (N := N_law) (sc := { kind := .function, names := [(PySem.Str.ofString ".0", .local), (PySem.Str.ofString "j", .local), (PySem.Str.ofString "tuple", .globalImplicit), (PySem.Str.ofString "range", .globalImplicit)], isGenerator := false, isCoroutine := false }) (by decide +kernel)) (fun _ _ _ _ _ => (pg_name (i := 15) sc_law.nd rfl (Or.inl rfl))) (fun _ _ _ _ _ => pts_nil) (fun _ _ _ _ _ => (pe_tup (pa_cons (pv 15) (pa_cons pe_bl pa_nil))))) pa_nil)) (pa_cons (pe_callTy (T := "tuple") (r := rTupQ K) call_tuple_of (by rfl) T.tuple (by decide +kernel) (pa_cons (pe_lc (own := [("k", 15)]) (tt := tYes) rfl sc_law.nd (pi_range1 (by rfl) T.range (pa_cons pe_int pa_nil)) (blkOk_by (N := N_law) (sc := { kind := .function, names := [(PySem.Str.ofString ".0", .local), (PySem.Str.ofString "j", .local), (PySem.Str.ofString "tuple", .globalImplicit), (PySem.Str.ofString "range", .globalImplicit)], isGenerator := false, isCoroutine := false }) (by decide +kernel)) (fun _ _ _ _ _ => (pg_name (i := 15) sc_law.nd rfl (Or.inl rfl))) (fun _ _ _ _ _ => pts_nil) (fun _ _ _ _ _ => (pe_tup (pa_cons pe_str (pa_cons pe_int pa_nil))))) pa_nil)) pa_nil))))) pa_nil)))) pa_nil)))
  (pss_one (ps_ret (pe_and (pe_cmp (pc_isN (pe_fn C_law_book_fault hr (pa_cons pe_int (pa_cons pe_int (pa_cons (pv 14) pa_nil)))))) (pe_one (pe_cmp (pc_isN (pe_fn C_law_book_fault hr (pa_cons pe_int (pa_cons pe_int (pa_cons (pe_tup (pa_cons (pe_tup pa_nil) pa_nil)) pa_nil))))))))))))))))))))))), ?_⟩
    have e62 : (2 : Int) ^ 62 = 4611686018427387904 := by decide
    refine ⟨_, rfl, a, ns, rfl, hs, hl, hb, fun H1 r ms s1 hr0 ok er => ?_⟩
    refine ⟨by show 1 ≤ sizeLine; decide, fun sp hsp => ?_⟩
    have er1 : upd H1 sp (.lst [.int 0]) r = some (.lst (ms.map V.int)) := by rw [upd_ne (ne_of_none er hsp)]; exact er
    have R0 : Rolls r sp (upd H1 sp (.lst [.int 0])) := ⟨ne_of_none er hsp, ⟨ms, ok, er1⟩, 0, upd_same⟩
    refine ⟨_, rfl, _, rfl, _, rfl, _, rfl, r, sp, 4, rfl, R0, by decide, fun x1 H2 x10 x11 g2 R2 _ => ⟨_, _, rfl, rfl, _, rfl, _, rfl, r, sp, 5, rfl, R2, by decide, fun x2 H3 x20 x21 g3 R3 _ => ⟨_, _, rfl, rfl, _, rfl, _, rfl, r, sp, 6, rfl, R3, by decide, fun x3 H4 x30 x31 g4 R4 _ => ⟨_, _, rfl, rfl, ?_⟩⟩⟩⟩
    obtain ⟨t, ht⟩ : ∃ t : Nat, 1 + x3 = (t : Int) := ⟨(1 + x3).toNat, by omega⟩
    obtain ⟨f, hf⟩ : ∃ f : Int, 1 + x1 = f := ⟨_, rfl⟩
    obtain ⟨d, hd⟩ : ∃ d : Int, 1 + x2 = d := ⟨_, rfl⟩
    have f0 : 1 ≤ f := by omega
    have f4 : f ≤ 4 := by omega
    have d1 : 1 ≤ d := by omega
    have d5 : d ≤ 5 := by omega
    have t1 : 1 ≤ t := by omega
    have t6 : t ≤ 6 := by omega
    refine ⟨r, sp, f, d, 5, t, false, (by show [V.ref r, V.ref sp, V.int (1 + x1), V.int (1 + x2), V.int (1 + x3), V.int 5, V.bl false] = _; rw [hf, hd, ht]), R4, by omega, f4, d1, t1, t6, by decide, by decide, fun b y ts H5 tlen tall g5 R5 hb5 hy5 => ?_⟩
    subst tlen
    have tdts : Td 5 (.tuple ts) := .tup (n := 4) (by omega) fun e he => (tall e he).td
    have shts : Sh (.tuple ts) := (sn_tup (n := 4) fun e he => (tall e he).sn).sh (by decide)
    have wts : Wf (n + 8) (.tuple ts) := tdts.wf.mono (by omega)
    have eok := errBook_drawn (by omega) f4 d1 d5 t1 t6 tall
    refine ⟨_, rfl, b, _, 0, _, rfl, rfl, hb5, at_of (j := 0) rfl rfl, _, rfl, b, _, 1, _, rfl, rfl, hb5, at_of (j := 1) rfl rfl, _, rfl, b, _, 2, _, rfl, rfl, hb5, at_of (j := 2) rfl rfl, _, _, _, .int f, .int d, .tuple ts, rfl, .int _, .int _, hy5, .int _, .int _, wts, shts, fun _ H6 s6 => ?_, fun i e => ?_, fun i j e => ?_⟩
    rotate_left
    · rw [eok] at e; exact absurd e no_value
    · rw [eok] at e; exact absurd e no_method
    refine ⟨_, rfl, iteF (tnx ?_)⟩
    dsimp only
    have hb6 := sqT_same s6 hb5
    have hy6 := dp_same s6 hy5
    refine ⟨_, rfl, _, rfl, r, sp, 6, rfl, (rolls_same R5 s6), by decide, fun st H7 st0 st1 g7 R7 _ => ?_⟩
    obtain ⟨l6, hl6⟩ := (rolls_same R5 s6).lst
    have hb7 := sqT_grow hl6 g7 hb6
    have hy7 := dp_grow hl6 g7 tdts hy6
    refine ⟨_, rfl, b, _, 0, _, rfl, rfl, hb7, at_of (j := 0) rfl rfl, _, rfl, b, _, 1, _, rfl, rfl, hb7, at_of (j := 1) rfl rfl, _, rfl, b, _, 2, _, rfl, rfl, hb7, at_of (j := 2) rfl rfl, by show 3 ≤ sizeLine; decide, fun Pl hPl => ?_⟩
    refine ⟨by show 2 ≤ sizeLine; decide, fun du hdu => ?_⟩
    have sPl := Same.new (o := .lst [.int f, .int d, y]) hPl
    have sdu := Same.new (o := .tup [.str "value", .int 1]) hdu
    have s8 := sPl.trans sdu
    have hP8 := sdu _ _ (upd_same (H := H7) (a := Pl) (o := .lst [.int f, .int d, y]))
    have R8 : Rolls r sp (upd (upd H7 Pl (.lst [.int f, .int d, y])) du (.tup [.str "value", .int 1])) := rolls_same R7 s8
    have hy8 := dp_same s8 hy7
    have hb8 := sqT_same s8 hb7
    have hdu8 : Dp K (upd (upd H7 Pl (.lst [.int f, .int d, y])) du (.tup [.str "value", .int 1])) (.ref du) (.tuple [.str "value", .int 1]) := .tup (SqT.of upd_same) (.cons (.str _) (.cons (.int _) .nil))
    obtain ⟨l7, hl7⟩ := R7.lst
    have nsP : sp ≠ Pl := ne_of_none hl7 hPl
    obtain ⟨lr7, hlr7⟩ := R7.rowAt
    have nrP : r ≠ Pl := ne_of_none hlr7 hPl
    generalize (upd (upd H7 Pl (.lst [.int f, .int d, y])) du (.tup [.str "value", .int 1])) = H8 at *
    have sti : st = 0 ∨ st = 1 ∨ st = 2 ∨ 2 < st := by omega
    have tdv : Td 1 (.tuple [.str "value", .int 1]) := td_pair _ _ (.str _) (.int _)
    obtain ⟨l8, hl8⟩ := R8.lst
    obtain ⟨q8, ys8, rfl, hq8, hA8⟩ : ∃ q ys, y = V.ref q ∧ SqT K H8 q ys ∧ DpAll K H8 ys ts := by
      cases hy8 with
      | tup h1 h2 => exact ⟨_, _, rfl, h1, h2⟩
    have el8 := dpAll_len hA8
    rcases sti with rfl | rfl | rfl | hst
    · refine ⟨_, rfl, rfl, _, rfl, iteT ⟨_, rfl, by show 5 ≤ sizeLine; decide, fun L hL => ?_⟩⟩
      have sL := Same.new (o := .lst [.int (-1), .int 5, .bl true, .non, .str "1"]) hL
      refine ⟨_, rfl, _, rfl, r, sp, 5, rfl, R8.new hL, by decide, fun z H9 z0 z1 g9 R9 _ => ?_⟩
      have hL9 := g9 _ _ (ne_of_none hl8 hL).symm upd_same
      have hP9 := g9 _ _ nsP.symm (sL _ _ hP8)
      have hy9 := dp_grow (sL _ _ hl8) g9 tdts (dp_same sL hy8)
      have hdu9 := dp_grow (sL _ _ hl8) g9 tdv (dp_same sL hdu8)
      obtain ⟨v, dv, hv, hdv, tv, hbad⟩ : ∃ (v : V) (dv : PyData), ([.int (-1), .int 5, .bl true, .non, .str "1"] : List V)[z.toNat]? = some v ∧ (∀ H, Dp K H v dv) ∧ Td 0 dv ∧ dBtw dv 0 4 = false := by
        have : z = 0 ∨ z = 1 ∨ z = 2 ∨ z = 3 ∨ z = 4 := by omega
        rcases this with rfl | rfl | rfl | rfl | rfl
        · exact ⟨_, .int (-1), rfl, fun _ => .int _, .int _, by decide⟩
        · exact ⟨_, .int 5, rfl, fun _ => .int _, .int _, by decide⟩
        · exact ⟨_, .bool true, rfl, fun _ => .bl _, .bl _, rfl⟩
        · exact ⟨_, .none, rfl, fun _ => .non, .non, rfl⟩
        · exact ⟨_, .str "1", rfl, fun _ => .str _, .str _, rfl⟩
      refine ⟨L, _, z, v, rfl, rfl, SqL.of hL9, at_of (j := z.toNat) (by omega) hv, _, rfl, Pl, _, 0, 0, rfl, rfl, hP9, rfl, ?_⟩
      refine ⟨_, rfl, rfl, _, rfl, iteF (tnx ⟨_, rfl, rfl, _, rfl, iteF (tnx ⟨_, rfl, _, _, rfl, rfl, _, rfl, iteF (tnx ?_)⟩)⟩)⟩
      exact k02_end (Pl := Pl) (du := du) upd_same (hdv _) (.int d) (dp_putl tdts hP9 hy9) (dp_putl tdv hP9 hdu9) (tv.wf.mono (by omega)) (.int _) wts shts (.inl ⟨1, by unfold errBook; rw [hbad]; rfl, rfl⟩) kq
    · refine ⟨_, rfl, rfl, _, rfl, iteF (tnx ⟨_, rfl, rfl, _, rfl, iteT ⟨_, _, rfl, rfl, ⟨by decide, by decide, by decide⟩, by show 5 ≤ sizeLine; decide, fun L hL => ?_⟩⟩)⟩
      have sL := Same.new (o := .lst [.int 0, .int 6, .bl true, .non, .int (10 ^ (30 : Int).toNat)]) hL
      refine ⟨_, rfl, _, rfl, r, sp, 5, rfl, R8.new hL, by decide, fun z H9 z0 z1 g9 R9 _ => ?_⟩
      have hL9 := g9 _ _ (ne_of_none hl8 hL).symm upd_same
      have hP9 := g9 _ _ nsP.symm (sL _ _ hP8)
      have hy9 := dp_grow (sL _ _ hl8) g9 tdts (dp_same sL hy8)
      obtain ⟨v, dv, hv, hdv, tv, hbad⟩ : ∃ (v : V) (dv : PyData), ([.int 0, .int 6, .bl true, .non, .int (10 ^ (30 : Int).toNat)] : List V)[z.toNat]? = some v ∧ (∀ H, Dp K H v dv) ∧ Td 0 dv ∧ dBtw dv 1 5 = false := by
        have : z = 0 ∨ z = 1 ∨ z = 2 ∨ z = 3 ∨ z = 4 := by omega
        rcases this with rfl | rfl | rfl | rfl | rfl
        · exact ⟨_, .int 0, rfl, fun _ => .int _, .int _, by decide⟩
        · exact ⟨_, .int 6, rfl, fun _ => .int _, .int _, by decide⟩
        · exact ⟨_, .bool true, rfl, fun _ => .bl _, .bl _, rfl⟩
        · exact ⟨_, .none, rfl, fun _ => .non, .non, rfl⟩
        · exact ⟨_, .int (10 ^ (30 : Int).toNat), rfl, fun _ => .int _, .int _, by decide +kernel⟩
      refine ⟨L, _, z, v, rfl, rfl, SqL.of hL9, at_of (j := z.toNat) (by omega) hv, _, rfl, Pl, _, 1, 1, rfl, rfl, hP9, rfl, ?_⟩
      refine ⟨by show 2 ≤ sizeLine; decide, fun du2 hdu2 => ?_⟩
      have sd := Same.new (o := .tup [.str "value", .int 2]) hdu2
      refine ⟨_, rfl, rfl, _, rfl, iteF (tnx ⟨_, rfl, _, _, rfl, rfl, _, rfl, iteF (tnx ?_)⟩)⟩
      have ebad : errBook (.int f) dv (.tuple ts) = fValue 2 := by unfold errBook; rw [if_pos (btw_int (by omega) f4), hbad]; rfl
      exact k02_end (Pl := Pl) (du := du2) (sd _ _ upd_same) (.int f) (hdv _) (dp_same sd (dp_putl tdts hP9 hy9)) (.tup (SqT.of upd_same) (.cons (.str _) (.cons (.int _) .nil))) (.int _) (tv.wf.mono (by omega)) wts shts (.inl ⟨2, ebad, rfl⟩) kq
    · refine ⟨_, rfl, rfl, _, rfl, iteF (tnx ⟨_, rfl, rfl, _, rfl, iteF (tnx ⟨_, rfl, rfl, _, rfl, iteT ?_⟩)⟩)⟩
      refine ⟨_, rfl, _, rfl, _, rfl, b, _, 2, _, rfl, rfl, hb8, at_of (j := 2) rfl rfl, q8, ys8, rfl, .inr hq8, r, sp, _, rfl, R8, by omega, fun x9 H9 x90 x91 g9 R9 _ => ?_⟩
      obtain ⟨i, rfl⟩ : ∃ i : Nat, x9 = (i : Int) := ⟨x9.toNat, by omega⟩
      have hi : i < ts.length := by omega
      have hb9 := sqT_grow hl8 g9 hb8
      have hy9 := dp_grow hl8 g9 tdts hy8
      have hP9 := g9 _ _ nsP.symm hP8
      obtain ⟨l9, hl9⟩ := R9.lst
      have wok := wrong_ok hi t6 (fun e he => (tall e he).td) (fun e he => (tall e he).sn)
      dsimp only
      refine tseq (tasg (rdA_lst (K := K) (ds := wrongD ts i) ?_ (by show 6 ≤ 1000; decide) (fun ys9 H10 s10 hys L hL => ?_)))
      · unfold wrongD
        refine rdA_cons rd_non (rdA_cons (rd_tup rdA_nil (by decide)) (rdA_cons (rd_str _) (rdA_cons ?_ (rdA_cons ?_ (rdA_cons ?_ rdA_nil)))))
        · exact rd_tlc (n := 7) (F := fun _ => .tuple []) (by decide) (fun H R s k => k) (fun i _ => ⟨1, td_nil⟩) (fun x => rfl) fun j H1 s1 hj => rd_tup rdA_nil (by decide)
        · exact rd_lset (rd_ix (p := b) (j := 2) rfl hb9 rfl rfl hy9) (rd_var rfl (.int _)) rd_non hi (by omega)
        · refine rd_lset (rd_ix (p := b) (j := 2) rfl hb9 rfl rfl hy9) (rd_var rfl (.int _)) ?_ hi (by omega)
          exact rd_tlc (n := 6) (F := fun _ => .tuple [.tuple [], .tuple []]) (by decide) (fun H R s k => k) (fun i _ => ⟨2, .tup (n := 1) (by show 2 ≤ 1000; decide) fun z hz => by simp at hz; rw [hz]; exact td_nil⟩) (fun x => rfl) fun j H1 s1 hj => rd_tup (rdA_cons (rd_tup rdA_nil (by decide)) (rdA_cons (rd_tup rdA_nil (by decide)) rdA_nil)) (by show 2 ≤ 1000; decide)
      have sL := Same.new (o := .lst ys9) hL
      have s9L := s10.trans sL
      refine ⟨_, rfl, _, rfl, _, rfl, r, sp, 6, rfl, rolls_same R9 s9L, by decide, fun z H11 z0 z1 g11 R11 _ => ?_⟩
      have hL11 := g11 _ _ (ne_of_none (s10 _ _ hl9) hL).symm upd_same
      have hP11 := g11 _ _ nsP.symm (s9L _ _ hP9)
      have hW11 := dpAll_grow (s9L _ _ hl9) g11 (fun e he => ⟨5, (wok e he).1⟩) (dpAll_same sL hys)
      have hz9 : z.toNat < (wrongD ts i).length := by show z.toNat < 6; omega
      obtain ⟨dv, hdv⟩ : ∃ dv, (wrongD ts i)[z.toNat]? = some dv := ⟨(wrongD ts i)[z.toNat], by simp [hz9]⟩
      obtain ⟨v, hv, hvd⟩ := dpAll_get hW11 hdv
      obtain ⟨tv, shv, hbad⟩ := wok dv (List.mem_of_getElem? hdv)
      refine ⟨L, _, z, v, rfl, rfl, SqL.of hL11, at_of (j := z.toNat) (by omega) hv, _, rfl, Pl, _, 2, 2, rfl, rfl, hP11, rfl, ?_⟩
      refine ⟨by show 2 ≤ sizeLine; decide, fun du2 hdu2 => ?_⟩
      have sd := Same.new (o := .tup [.str "value", .int 3]) hdu2
      refine ⟨_, rfl, _, _, rfl, rfl, _, rfl, iteF (tnx ?_)⟩
      have ebad : errBook (.int f) (.int d) dv = fValue 3 := by unfold errBook; rw [if_pos (btw_int (by omega) f4), if_pos (btw_int d1 d5), hbad]; rfl
      exact k02_end (Pl := Pl) (du := du2) (sd _ _ upd_same) (.int f) (.int d) (dp_same sd (dp_putl tv hP11 hvd)) (.tup (SqT.of upd_same) (.cons (.str _) (.cons (.int _) .nil))) (.int _) (.int _) (tv.wf.mono (by omega)) shv (.inl ⟨3, ebad, rfl⟩) kq
    · refine ⟨_, rfl, rfl, _, rfl, ite2 (fun c => absurd (of_decide_eq_true c) fun q => by injection q with q; omega) (fun _ => tnx ?_)⟩
      refine ⟨_, rfl, rfl, _, rfl, ite2 (fun c => absurd (of_decide_eq_true c) fun q => by injection q with q; omega) (fun _ => tnx ?_)⟩
      refine ⟨_, rfl, rfl, _, rfl, ite2 (fun c => absurd (of_decide_eq_true c) fun q => by injection q with q; omega) (fun _ => tnx ?_)⟩
      refine ⟨_, rfl, _, _, rfl, rfl, _, rfl, ite2 (fun _ => ?_) (fun c => absurd (decide_eq_true hst) c)⟩
      refine ⟨_, rfl, _, rfl, _, rfl, b, _, 2, _, rfl, rfl, hb8, at_of (j := 2) rfl rfl, q8, ys8, rfl, .inr hq8, r, sp, _, rfl, R8, by omega, fun x9 H9 x90 x91 g9 R9 _ => ?_⟩
      obtain ⟨i, rfl⟩ : ∃ i : Nat, x9 = (i : Int) := ⟨x9.toNat, by omega⟩
      have hi : i < ts.length := by omega
      have hb9 := sqT_grow hl8 g9 hb8
      have hy9 := dp_grow hl8 g9 tdts hy8
      have hP9 := g9 _ _ nsP.symm hP8
      obtain ⟨l9, hl9⟩ := R9.lst
      dsimp only
      refine tseq (tasg (Rd.go (K := K) (d := fineD d ts.length) ?_ (fun yf H10 s10 hyf => ?_)))
      · have hbX := hb9
        have hyX := hy9
        unfold fineD
        repeat' first | exact rdA_nil | refine rdA_cons ?_ ?_ | exact rd_non | exact rd_int _ | exact rd_bl _ | exact rd_str _ | exact rd_neg 1 | exact rd_ix (p := b) (j := 0) rfl hbX rfl rfl (.int _) | exact rd_ix (p := b) (j := 1) rfl hbX rfl rfl (.int _) | exact rd_len (d := .tuple ts) (ds := ts) rfl (rd_ix (p := b) (j := 2) rfl hbX rfl rfl hyX) | refine rd_op0 (f := fun a b => a - b) ?_ ?_ | refine rd_tup ?_ (by simp)
      dsimp only
      refine tseq (tasg (rdA_lst (K := K) (ds := bad1 f) ?_ (by show 10 ≤ 1000; decide) (fun yb1 H11 s11 hy1 L1 hL1 => ?_)))
      · have hbX := sqT_same s10 hb9
        have hyX := dp_same s10 hy9
        unfold bad1
        repeat' first | exact rdA_nil | refine rdA_cons ?_ ?_ | exact rd_non | exact rd_int _ | exact rd_bl _ | exact rd_str _ | exact rd_neg 1 | exact rd_ix (p := b) (j := 0) rfl hbX rfl rfl (.int _) | exact rd_ix (p := b) (j := 1) rfl hbX rfl rfl (.int _) | exact rd_len (d := .tuple ts) (ds := ts) rfl (rd_ix (p := b) (j := 2) rfl hbX rfl rfl hyX) | refine rd_op0 (f := fun a b => a - b) ?_ ?_ | refine rd_tup ?_ (by simp)
      have sL1 := Same.new (o := .lst yb1) hL1
      have s911 := (s10.trans s11).trans sL1
      dsimp only
      refine tseq (tasg ⟨_, rfl, rdA_lst (K := K) (ds := bad2 d ts.length) ?_ (by show 7 ≤ 1000; decide) (fun yb2 H12 s12 hy2 L2 hL2 => ?_)⟩)
      · have hbX := sqT_same s911 hb9
        have hyX := dp_same s911 hy9
        unfold bad2
        repeat' first | exact rdA_nil | refine rdA_cons ?_ ?_ | exact rd_non | exact rd_int _ | exact rd_bl _ | exact rd_str _ | exact rd_neg 1 | exact rd_ix (p := b) (j := 0) rfl hbX rfl rfl (.int _) | exact rd_ix (p := b) (j := 1) rfl hbX rfl rfl (.int _) | exact rd_len (d := .tuple ts) (ds := ts) rfl (rd_ix (p := b) (j := 2) rfl hbX rfl rfl hyX) | refine rd_op0 (f := fun a b => a - b) ?_ ?_ | refine rd_tup ?_ (by simp)
      have sL2 := Same.new (o := .lst yb2) hL2
      have e1 := dpAll_len hy1
      have e2 := dpAll_len hy2
      have z1 : yb1.length = 10 := by rw [e1]; rfl
      have z2 : yb2.length = 7 := by rw [e2]; rfl
      refine ⟨L1, L2, yb1, yb2, rfl, rfl, sL2 _ _ (s12 _ _ upd_same), upd_same, Nat.le_trans (by omega : yb1.length + yb2.length ≤ 1000) (by decide), fun L3 hL3 => ?_⟩
      have sL3 := Same.new (o := .lst (yb1 ++ yb2)) hL3
      have s913 := ((s911.trans s12).trans sL2).trans sL3
      have hy12 : DpAll K (upd (upd H12 L2 (.lst yb2)) L3 (.lst (yb1 ++ yb2))) (yb1 ++ yb2) (bad1 f ++ bad2 d ts.length) := dpAll_append (dpAll_same (((sL1.trans s12).trans sL2).trans sL3) hy1) (dpAll_same (sL2.trans sL3) hy2)
      have hL3u : upd (upd H12 L2 (.lst yb2)) L3 (.lst (yb1 ++ yb2)) L3 = some (.lst (yb1 ++ yb2)) := upd_same
      generalize upd (upd H12 L2 (.lst yb2)) L3 (.lst (yb1 ++ yb2)) = H13 at *
      dsimp only
      refine tseq (tasg ⟨_, rfl, rdA_lst (K := K) (ds := bad3) ?_ (by show 3 ≤ 1000; decide) (fun yb3 H14 s14 hy3 L4 hL4 => ?_)⟩)
      · unfold bad3
        refine rdA_cons (rd_tup (rdA_cons (rd_tup rdA_nil (by decide)) (rdA_cons ?_ rdA_nil)) (by simp)) ?_
        · exact rd_tlc (n := 6) (F := fun _ => .tuple [.str "deed", .int 0]) (by decide) (fun H R s k => k) (fun i _ => ⟨1, td_pair _ _ (.str _) (.int _)⟩) (fun x => rfl) fun j H1 s1 hj => rd_tup (rdA_cons (rd_str _) (rdA_cons (rd_int _) rdA_nil)) (by simp)
        · repeat' first | exact rdA_nil | refine rdA_cons ?_ ?_ | exact rd_non | exact rd_int _ | exact rd_bl _ | exact rd_str _ | exact rd_neg 1 | refine rd_tup ?_ (by simp)
      have sL4 := Same.new (o := .lst yb3) hL4
      have e3 := dpAll_len hy3
      have z3 : yb3.length = 3 := by rw [e3]; rfl
      refine ⟨L3, L4, yb1 ++ yb2, yb3, rfl, rfl, sL4 _ _ (s14 _ _ hL3u), upd_same, Nat.le_trans (by rw [List.length_append]; omega : (yb1 ++ yb2).length + yb3.length ≤ 1000) (by decide), fun L5 hL5 => ?_⟩
      have sL5 := Same.new (o := .lst (yb1 ++ yb2 ++ yb3)) hL5
      have s915 := ((s913.trans s14).trans sL4).trans sL5
      have hyb : DpAll K (upd (upd H14 L4 (.lst yb3)) L5 (.lst (yb1 ++ yb2 ++ yb3))) (yb1 ++ yb2 ++ yb3) (bad1 f ++ bad2 d ts.length ++ bad3) := dpAll_append (dpAll_same ((s14.trans sL4).trans sL5) hy12) (dpAll_same (sL4.trans sL5) hy3)
      have hL5u : upd (upd H14 L4 (.lst yb3)) L5 (.lst (yb1 ++ yb2 ++ yb3)) L5 = some (.lst (yb1 ++ yb2 ++ yb3)) := upd_same
      have nL5 : L5 ≠ sp := (ne_of_none (sL4 _ _ (s14 _ _ (s913 _ _ hl9))) hL5).symm
      have hyf15 := dp_same ((((((s11.trans sL1).trans s12).trans sL2).trans sL3).trans s14).trans sL4 |>.trans sL5) hyf
      generalize upd (upd H14 L4 (.lst yb3)) L5 (.lst (yb1 ++ yb2 ++ yb3)) = H15 at *
      have zb : (yb1 ++ yb2 ++ yb3).length = 20 := by rw [List.length_append, List.length_append]; omega
      dsimp only
      refine k02_one (L5 := L5) (rolls_same R9 s915) (sqT_same s915 hb9) (dp_same s915 hy9) (s915 _ _ hP9) nsP nrP hL5u nL5 hyb hyf15 tdts f0 f4 d1 d5 t1 t6 tall hi kq
end
end Mw
set_option Elab.async false
set_option maxRecDepth 100000
set_option maxHeartbeats 4000000
namespace Mw
open PySem L2
theorem all_mk {P : Program} {w : World} {K : PySem.W.Frag} {h : Heap} {mg : Str → Option Value} {fa : Addr} (KX : K.In h) (G : h.Ns mainGlobals mg) (hfa : mg "law" = some (.ref fa))
    {C_MethodError : Addr}
    {f_is_integer : Addr} {oc_is_integer kV_is_integer dc_is_integer pm_is_integer cd_is_integer ct_is_integer : Value} {od_is_integer an_is_integer : Option Addr} {sl_is_integer : Array (Option Value)}
    {f_is_between : Addr} {oc_is_between kV_is_between dc_is_between pm_is_between cd_is_between ct_is_between : Value} {od_is_between an_is_between : Option Addr} {sl_is_between : Array (Option Value)}
    {f_is_number : Addr} {oc_is_number kV_is_number dc_is_number pm_is_number cd_is_number ct_is_number : Value} {od_is_number an_is_number : Option Addr} {sl_is_number : Array (Option Value)}
    {f_is_sequence : Addr} {oc_is_sequence kV_is_sequence dc_is_sequence pm_is_sequence cd_is_sequence ct_is_sequence : Value} {od_is_sequence an_is_sequence : Option Addr} {sl_is_sequence : Array (Option Value)}
    {f_is_row : Addr} {oc_is_row kV_is_row dc_is_row pm_is_row cd_is_row ct_is_row : Value} {od_is_row an_is_row : Option Addr} {sl_is_row : Array (Option Value)}
    {f_is_ascending : Addr} {oc_is_ascending kV_is_ascending dc_is_ascending pm_is_ascending cd_is_ascending ct_is_ascending : Value} {od_is_ascending an_is_ascending : Option Addr} {sl_is_ascending : Array (Option Value)}
    {f_plain : Addr} {oc_plain kV_plain dc_plain pm_plain cd_plain ct_plain : Value} {od_plain an_plain : Option Addr} {sl_plain : Array (Option Value)}
    {f_is_wanted_fact : Addr} {oc_is_wanted_fact kV_is_wanted_fact dc_is_wanted_fact pm_is_wanted_fact cd_is_wanted_fact ct_is_wanted_fact : Value} {od_is_wanted_fact an_is_wanted_fact : Option Addr} {sl_is_wanted_fact : Array (Option Value)}
    {f_is_condition : Addr} {oc_is_condition kV_is_condition dc_is_condition pm_is_condition cd_is_condition ct_is_condition : Value} {od_is_condition an_is_condition : Option Addr} {sl_is_condition : Array (Option Value)}
    {f_is_step : Addr} {oc_is_step kV_is_step dc_is_step pm_is_step cd_is_step ct_is_step : Value} {od_is_step an_is_step : Option Addr} {sl_is_step : Array (Option Value)}
    {f_is_method : Addr} {oc_is_method kV_is_method dc_is_method pm_is_method cd_is_method ct_is_method : Value} {od_is_method an_is_method : Option Addr} {sl_is_method : Array (Option Value)}
    {f_are_tasks : Addr} {oc_are_tasks kV_are_tasks dc_are_tasks pm_are_tasks cd_are_tasks ct_are_tasks : Value} {od_are_tasks an_are_tasks : Option Addr} {sl_are_tasks : Array (Option Value)}
    {f_law_numbers : Addr} {oc_law_numbers kV_law_numbers dc_law_numbers pm_law_numbers cd_law_numbers ct_law_numbers : Value} {od_law_numbers an_law_numbers : Option Addr} {sl_law_numbers : Array (Option Value)}
    {f_law_draw : Addr} {oc_law_draw kV_law_draw dc_law_draw pm_law_draw cd_law_draw ct_law_draw : Value} {od_law_draw an_law_draw : Option Addr} {sl_law_draw : Array (Option Value)}
    {f_law_take : Addr} {oc_law_take kV_law_take dc_law_take pm_law_take cd_law_take ct_law_take : Value} {od_law_take an_law_take : Option Addr} {sl_law_take : Array (Option Value)}
    {f_law_set : Addr} {oc_law_set kV_law_set dc_law_set pm_law_set cd_law_set ct_law_set : Value} {od_law_set an_law_set : Option Addr} {sl_law_set : Array (Option Value)}
    {f_law_cond : Addr} {oc_law_cond kV_law_cond dc_law_cond pm_law_cond cd_law_cond ct_law_cond : Value} {od_law_cond an_law_cond : Option Addr} {sl_law_cond : Array (Option Value)}
    {f_law_method : Addr} {oc_law_method kV_law_method dc_law_method pm_law_method cd_law_method ct_law_method : Value} {od_law_method an_law_method : Option Addr} {sl_law_method : Array (Option Value)}
    {f_law_book : Addr} {oc_law_book kV_law_book dc_law_book pm_law_book cd_law_book ct_law_book : Value} {od_law_book an_law_book : Option Addr} {sl_law_book : Array (Option Value)}
    {f_law_book_fault : Addr} {oc_law_book_fault kV_law_book_fault dc_law_book_fault pm_law_book_fault cd_law_book_fault ct_law_book_fault : Value} {od_law_book_fault an_law_book_fault : Option Addr} {sl_law_book_fault : Array (Option Value)}
    {f_law : Addr} {oc_law kV_law dc_law pm_law cd_law ct_law : Value} {od_law an_law : Option Addr} {sl_law : Array (Option Value)}
    {C_BadValue : Addr} {nm_BadValue q_BadValue : Str} {N_BadValue : Addr} {bs_BadValue : List Value} {sn_BadValue : List Str} {su_BadValue : List Value} {ab_BadValue : Bool} {co_BadValue : Option Bool} {dd_BadValue : Option Addr} {m0_BadValue m1_BadValue m2_BadValue m3_BadValue m5_BadValue : Option Value}
    {f_BadValue_init : Addr} {oc_BadValue_init kV_BadValue_init dc_BadValue_init pm_BadValue_init cd_BadValue_init ct_BadValue_init : Value} {od_BadValue_init an_BadValue_init : Option Addr} {sl_BadValue_init : Array (Option Value)}
    {C_BadMethod : Addr} {nm_BadMethod q_BadMethod : Str} {N_BadMethod : Addr} {bs_BadMethod : List Value} {sn_BadMethod : List Str} {su_BadMethod : List Value} {ab_BadMethod : Bool} {co_BadMethod : Option Bool} {dd_BadMethod : Option Addr} {m0_BadMethod m1_BadMethod m2_BadMethod m3_BadMethod m5_BadMethod : Option Value}
    {f_BadMethod_init : Addr} {oc_BadMethod_init kV_BadMethod_init dc_BadMethod_init pm_BadMethod_init cd_BadMethod_init ct_BadMethod_init : Value} {od_BadMethod_init an_BadMethod_init : Option Addr} {sl_BadMethod_init : Array (Option Value)}
    {C_Book : Addr}
    {f_Book_init : Addr} {oc_Book_init kV_Book_init dc_Book_init pm_Book_init cd_Book_init ct_Book_init : Value} {od_Book_init an_Book_init : Option Addr} {sl_Book_init : Array (Option Value)}
    {t_MOST_FACTS : Tok}
    {t_MOST_DEEDS : Tok}
    {t_MOST_TASKS : Tok}
    {t_MOST_METHODS : Tok}
    {t_MOST_STEPS : Tok}
    (a_is_integer : PySem.W.nsIn K mainGlobals "is_integer" = some (some (.ref f_is_integer)))
    (l_is_integer : K.lookup f_is_integer = some ⟨oc_is_integer, od_is_integer, .func (PySem.W.fnOf "is_integer" "is_integer" (defArgs S_is_integer) (defBody S_is_integer) (defScope S_is_integer) .none kV_is_integer dc_is_integer pm_is_integer an_is_integer cd_is_integer ct_is_integer), sl_is_integer⟩)
    (c_is_integer : PySem.W.codeIn K cd_is_integer "is_integer" = true)
    (k_is_integer : PySem.W.keepIn K (.ref f_is_integer) = true)
    (a_is_between : PySem.W.nsIn K mainGlobals "is_between" = some (some (.ref f_is_between)))
    (l_is_between : K.lookup f_is_between = some ⟨oc_is_between, od_is_between, .func (PySem.W.fnOf "is_between" "is_between" (defArgs S_is_between) (defBody S_is_between) (defScope S_is_between) .none kV_is_between dc_is_between pm_is_between an_is_between cd_is_between ct_is_between), sl_is_between⟩)
    (c_is_between : PySem.W.codeIn K cd_is_between "is_between" = true)
    (k_is_between : PySem.W.keepIn K (.ref f_is_between) = true)
    (a_is_number : PySem.W.nsIn K mainGlobals "is_number" = some (some (.ref f_is_number)))
    (l_is_number : K.lookup f_is_number = some ⟨oc_is_number, od_is_number, .func (PySem.W.fnOf "is_number" "is_number" (defArgs S_is_number) (defBody S_is_number) (defScope S_is_number) .none kV_is_number dc_is_number pm_is_number an_is_number cd_is_number ct_is_number), sl_is_number⟩)
    (c_is_number : PySem.W.codeIn K cd_is_number "is_number" = true)
    (k_is_number : PySem.W.keepIn K (.ref f_is_number) = true)
    (a_is_sequence : PySem.W.nsIn K mainGlobals "is_sequence" = some (some (.ref f_is_sequence)))
    (l_is_sequence : K.lookup f_is_sequence = some ⟨oc_is_sequence, od_is_sequence, .func (PySem.W.fnOf "is_sequence" "is_sequence" (defArgs S_is_sequence) (defBody S_is_sequence) (defScope S_is_sequence) .none kV_is_sequence dc_is_sequence pm_is_sequence an_is_sequence cd_is_sequence ct_is_sequence), sl_is_sequence⟩)
    (c_is_sequence : PySem.W.codeIn K cd_is_sequence "is_sequence" = true)
    (k_is_sequence : PySem.W.keepIn K (.ref f_is_sequence) = true)
    (a_is_row : PySem.W.nsIn K mainGlobals "is_row" = some (some (.ref f_is_row)))
    (l_is_row : K.lookup f_is_row = some ⟨oc_is_row, od_is_row, .func (PySem.W.fnOf "is_row" "is_row" (defArgs S_is_row) (defBody S_is_row) (defScope S_is_row) .none kV_is_row dc_is_row pm_is_row an_is_row cd_is_row ct_is_row), sl_is_row⟩)
    (c_is_row : PySem.W.codeIn K cd_is_row "is_row" = true)
    (k_is_row : PySem.W.keepIn K (.ref f_is_row) = true)
    (a_is_ascending : PySem.W.nsIn K mainGlobals "is_ascending" = some (some (.ref f_is_ascending)))
    (l_is_ascending : K.lookup f_is_ascending = some ⟨oc_is_ascending, od_is_ascending, .func (PySem.W.fnOf "is_ascending" "is_ascending" (defArgs S_is_ascending) (defBody S_is_ascending) (defScope S_is_ascending) .none kV_is_ascending dc_is_ascending pm_is_ascending an_is_ascending cd_is_ascending ct_is_ascending), sl_is_ascending⟩)
    (c_is_ascending : PySem.W.codeIn K cd_is_ascending "is_ascending" = true)
    (k_is_ascending : PySem.W.keepIn K (.ref f_is_ascending) = true)
    (a_plain : PySem.W.nsIn K mainGlobals "plain" = some (some (.ref f_plain)))
    (l_plain : K.lookup f_plain = some ⟨oc_plain, od_plain, .func (PySem.W.fnOf "plain" "plain" (defArgs S_plain) (defBody S_plain) (defScope S_plain) .none kV_plain dc_plain pm_plain an_plain cd_plain ct_plain), sl_plain⟩)
    (c_plain : PySem.W.codeIn K cd_plain "plain" = true)
    (k_plain : PySem.W.keepIn K (.ref f_plain) = true)
    (a_is_wanted_fact : PySem.W.nsIn K mainGlobals "is_wanted_fact" = some (some (.ref f_is_wanted_fact)))
    (l_is_wanted_fact : K.lookup f_is_wanted_fact = some ⟨oc_is_wanted_fact, od_is_wanted_fact, .func (PySem.W.fnOf "is_wanted_fact" "is_wanted_fact" (defArgs S_is_wanted_fact) (defBody S_is_wanted_fact) (defScope S_is_wanted_fact) .none kV_is_wanted_fact dc_is_wanted_fact pm_is_wanted_fact an_is_wanted_fact cd_is_wanted_fact ct_is_wanted_fact), sl_is_wanted_fact⟩)
    (c_is_wanted_fact : PySem.W.codeIn K cd_is_wanted_fact "is_wanted_fact" = true)
    (k_is_wanted_fact : PySem.W.keepIn K (.ref f_is_wanted_fact) = true)
    (a_is_condition : PySem.W.nsIn K mainGlobals "is_condition" = some (some (.ref f_is_condition)))
    (l_is_condition : K.lookup f_is_condition = some ⟨oc_is_condition, od_is_condition, .func (PySem.W.fnOf "is_condition" "is_condition" (defArgs S_is_condition) (defBody S_is_condition) (defScope S_is_condition) .none kV_is_condition dc_is_condition pm_is_condition an_is_condition cd_is_condition ct_is_condition), sl_is_condition⟩)
    (c_is_condition : PySem.W.codeIn K cd_is_condition "is_condition" = true)
    (k_is_condition : PySem.W.keepIn K (.ref f_is_condition) = true)
    (a_is_step : PySem.W.nsIn K mainGlobals "is_step" = some (some (.ref f_is_step)))
    (l_is_step : K.lookup f_is_step = some ⟨oc_is_step, od_is_step, .func (PySem.W.fnOf "is_step" "is_step" (defArgs S_is_step) (defBody S_is_step) (defScope S_is_step) .none kV_is_step dc_is_step pm_is_step an_is_step cd_is_step ct_is_step), sl_is_step⟩)
    (c_is_step : PySem.W.codeIn K cd_is_step "is_step" = true)
    (k_is_step : PySem.W.keepIn K (.ref f_is_step) = true)
    (a_is_method : PySem.W.nsIn K mainGlobals "is_method" = some (some (.ref f_is_method)))
    (l_is_method : K.lookup f_is_method = some ⟨oc_is_method, od_is_method, .func (PySem.W.fnOf "is_method" "is_method" (defArgs S_is_method) (defBody S_is_method) (defScope S_is_method) .none kV_is_method dc_is_method pm_is_method an_is_method cd_is_method ct_is_method), sl_is_method⟩)
    (c_is_method : PySem.W.codeIn K cd_is_method "is_method" = true)
    (k_is_method : PySem.W.keepIn K (.ref f_is_method) = true)
    (a_are_tasks : PySem.W.nsIn K mainGlobals "are_tasks" = some (some (.ref f_are_tasks)))
    (l_are_tasks : K.lookup f_are_tasks = some ⟨oc_are_tasks, od_are_tasks, .func (PySem.W.fnOf "are_tasks" "are_tasks" (defArgs S_are_tasks) (defBody S_are_tasks) (defScope S_are_tasks) .none kV_are_tasks dc_are_tasks pm_are_tasks an_are_tasks cd_are_tasks ct_are_tasks), sl_are_tasks⟩)
    (c_are_tasks : PySem.W.codeIn K cd_are_tasks "are_tasks" = true)
    (k_are_tasks : PySem.W.keepIn K (.ref f_are_tasks) = true)
    (a_law_numbers : PySem.W.nsIn K mainGlobals "_law_numbers" = some (some (.ref f_law_numbers)))
    (l_law_numbers : K.lookup f_law_numbers = some ⟨oc_law_numbers, od_law_numbers, .func (PySem.W.fnOf "_law_numbers" "_law_numbers" (defArgs S_law_numbers) (defBody S_law_numbers) (defScope S_law_numbers) .none kV_law_numbers dc_law_numbers pm_law_numbers an_law_numbers cd_law_numbers ct_law_numbers), sl_law_numbers⟩)
    (c_law_numbers : PySem.W.codeIn K cd_law_numbers "_law_numbers" = true)
    (k_law_numbers : PySem.W.keepIn K (.ref f_law_numbers) = true)
    (a_law_draw : PySem.W.nsIn K mainGlobals "_law_draw" = some (some (.ref f_law_draw)))
    (l_law_draw : K.lookup f_law_draw = some ⟨oc_law_draw, od_law_draw, .func (PySem.W.fnOf "_law_draw" "_law_draw" (defArgs S_law_draw) (defBody S_law_draw) (defScope S_law_draw) .none kV_law_draw dc_law_draw pm_law_draw an_law_draw cd_law_draw ct_law_draw), sl_law_draw⟩)
    (c_law_draw : PySem.W.codeIn K cd_law_draw "_law_draw" = true)
    (k_law_draw : PySem.W.keepIn K (.ref f_law_draw) = true)
    (a_law_take : PySem.W.nsIn K mainGlobals "_law_take" = some (some (.ref f_law_take)))
    (l_law_take : K.lookup f_law_take = some ⟨oc_law_take, od_law_take, .func (PySem.W.fnOf "_law_take" "_law_take" (defArgs S_law_take) (defBody S_law_take) (defScope S_law_take) .none kV_law_take dc_law_take pm_law_take an_law_take cd_law_take ct_law_take), sl_law_take⟩)
    (c_law_take : PySem.W.codeIn K cd_law_take "_law_take" = true)
    (k_law_take : PySem.W.keepIn K (.ref f_law_take) = true)
    (a_law_set : PySem.W.nsIn K mainGlobals "_law_set" = some (some (.ref f_law_set)))
    (l_law_set : K.lookup f_law_set = some ⟨oc_law_set, od_law_set, .func (PySem.W.fnOf "_law_set" "_law_set" (defArgs S_law_set) (defBody S_law_set) (defScope S_law_set) .none kV_law_set dc_law_set pm_law_set an_law_set cd_law_set ct_law_set), sl_law_set⟩)
    (c_law_set : PySem.W.codeIn K cd_law_set "_law_set" = true)
    (k_law_set : PySem.W.keepIn K (.ref f_law_set) = true)
    (a_law_cond : PySem.W.nsIn K mainGlobals "_law_cond" = some (some (.ref f_law_cond)))
    (l_law_cond : K.lookup f_law_cond = some ⟨oc_law_cond, od_law_cond, .func (PySem.W.fnOf "_law_cond" "_law_cond" (defArgs S_law_cond) (defBody S_law_cond) (defScope S_law_cond) .none kV_law_cond dc_law_cond pm_law_cond an_law_cond cd_law_cond ct_law_cond), sl_law_cond⟩)
    (c_law_cond : PySem.W.codeIn K cd_law_cond "_law_cond" = true)
    (k_law_cond : PySem.W.keepIn K (.ref f_law_cond) = true)
    (a_law_method : PySem.W.nsIn K mainGlobals "_law_method" = some (some (.ref f_law_method)))
    (l_law_method : K.lookup f_law_method = some ⟨oc_law_method, od_law_method, .func (PySem.W.fnOf "_law_method" "_law_method" (defArgs S_law_method) (defBody S_law_method) (defScope S_law_method) .none kV_law_method dc_law_method pm_law_method an_law_method cd_law_method ct_law_method), sl_law_method⟩)
    (c_law_method : PySem.W.codeIn K cd_law_method "_law_method" = true)
    (k_law_method : PySem.W.keepIn K (.ref f_law_method) = true)
    (a_law_book : PySem.W.nsIn K mainGlobals "_law_book" = some (some (.ref f_law_book)))
    (l_law_book : K.lookup f_law_book = some ⟨oc_law_book, od_law_book, .func (PySem.W.fnOf "_law_book" "_law_book" (defArgs S_law_book) (defBody S_law_book) (defScope S_law_book) .none kV_law_book dc_law_book pm_law_book an_law_book cd_law_book ct_law_book), sl_law_book⟩)
    (c_law_book : PySem.W.codeIn K cd_law_book "_law_book" = true)
    (k_law_book : PySem.W.keepIn K (.ref f_law_book) = true)
    (a_law_book_fault : PySem.W.nsIn K mainGlobals "_law_book_fault" = some (some (.ref f_law_book_fault)))
    (l_law_book_fault : K.lookup f_law_book_fault = some ⟨oc_law_book_fault, od_law_book_fault, .func (PySem.W.fnOf "_law_book_fault" "_law_book_fault" (defArgs S_law_book_fault) (defBody S_law_book_fault) (defScope S_law_book_fault) .none kV_law_book_fault dc_law_book_fault pm_law_book_fault an_law_book_fault cd_law_book_fault ct_law_book_fault), sl_law_book_fault⟩)
    (c_law_book_fault : PySem.W.codeIn K cd_law_book_fault "_law_book_fault" = true)
    (k_law_book_fault : PySem.W.keepIn K (.ref f_law_book_fault) = true)
    (a_law : PySem.W.nsIn K mainGlobals "law" = some (some (.ref f_law)))
    (l_law : K.lookup f_law = some ⟨oc_law, od_law, .func (PySem.W.fnOf "law" "law" (defArgs S_law) (defBody S_law) (defScope S_law) .none kV_law dc_law pm_law an_law cd_law ct_law), sl_law⟩)
    (c_law : PySem.W.codeIn K cd_law "law" = true)
    (k_law : PySem.W.keepIn K (.ref f_law) = true)
    (g_BadValue : PySem.W.nsIn K mainGlobals "BadValue" = some (some (.ref C_BadValue)))
    (x_BadValue : K.lookup C_BadValue = some (excClassObj nm_BadValue q_BadValue C_BadValue N_BadValue bs_BadValue [.ref C_MethodError, .type "Exception", .type "BaseException", .type "object"] true sn_BadValue su_BadValue ab_BadValue co_BadValue dd_BadValue m0_BadValue m1_BadValue m2_BadValue m3_BadValue m5_BadValue "Exception.__new__"))
    (sa_BadValue : PySem.W.findIn K (.ref C_BadValue) "__setattr__" = some (some (.builtin "object.__setattr__")))
    (ec_BadValue : PySem.W.subIn K (.ref C_BadValue) (.type "BaseException") = some true)
    (ty_BadValue : PySem.W.typeIn K (.ref C_BadValue) = some (.type "type"))
    (kc_BadValue : PySem.W.keepIn K (.ref C_BadValue) = true)
    (ic_BadValue : PySem.W.findIn K (.ref C_BadValue) "__init__" = some (some (.ref f_BadValue_init)))
    (ti_BadValue : PySem.W.typeIn K (.ref f_BadValue_init) = some (.type "function"))
    (l_BadValue_init : K.lookup f_BadValue_init = some ⟨oc_BadValue_init, od_BadValue_init, .func (PySem.W.fnOf "__init__" "BadValue.__init__" (defArgs S_BadValue_init) (defBody S_BadValue_init) (defScope S_BadValue_init) .none kV_BadValue_init dc_BadValue_init pm_BadValue_init an_BadValue_init cd_BadValue_init ct_BadValue_init), sl_BadValue_init⟩)
    (c_BadValue_init : PySem.W.codeIn K cd_BadValue_init "BadValue.__init__" = true)
    (k_BadValue_init : PySem.W.keepIn K (.ref f_BadValue_init) = true)
    (nat_BadValue : PySem.W.findIn K (.ref C_BadValue) "at" = some none)
    (g_BadMethod : PySem.W.nsIn K mainGlobals "BadMethod" = some (some (.ref C_BadMethod)))
    (x_BadMethod : K.lookup C_BadMethod = some (excClassObj nm_BadMethod q_BadMethod C_BadMethod N_BadMethod bs_BadMethod [.ref C_MethodError, .type "Exception", .type "BaseException", .type "object"] true sn_BadMethod su_BadMethod ab_BadMethod co_BadMethod dd_BadMethod m0_BadMethod m1_BadMethod m2_BadMethod m3_BadMethod m5_BadMethod "Exception.__new__"))
    (sa_BadMethod : PySem.W.findIn K (.ref C_BadMethod) "__setattr__" = some (some (.builtin "object.__setattr__")))
    (ec_BadMethod : PySem.W.subIn K (.ref C_BadMethod) (.type "BaseException") = some true)
    (ty_BadMethod : PySem.W.typeIn K (.ref C_BadMethod) = some (.type "type"))
    (kc_BadMethod : PySem.W.keepIn K (.ref C_BadMethod) = true)
    (ic_BadMethod : PySem.W.findIn K (.ref C_BadMethod) "__init__" = some (some (.ref f_BadMethod_init)))
    (ti_BadMethod : PySem.W.typeIn K (.ref f_BadMethod_init) = some (.type "function"))
    (l_BadMethod_init : K.lookup f_BadMethod_init = some ⟨oc_BadMethod_init, od_BadMethod_init, .func (PySem.W.fnOf "__init__" "BadMethod.__init__" (defArgs S_BadMethod_init) (defBody S_BadMethod_init) (defScope S_BadMethod_init) .none kV_BadMethod_init dc_BadMethod_init pm_BadMethod_init an_BadMethod_init cd_BadMethod_init ct_BadMethod_init), sl_BadMethod_init⟩)
    (c_BadMethod_init : PySem.W.codeIn K cd_BadMethod_init "BadMethod.__init__" = true)
    (k_BadMethod_init : PySem.W.keepIn K (.ref f_BadMethod_init) = true)
    (ntask_BadMethod : PySem.W.findIn K (.ref C_BadMethod) "task" = some none)
    (nmethod_BadMethod : PySem.W.findIn K (.ref C_BadMethod) "method" = some none)
    (g_Book : PySem.W.nsIn K mainGlobals "Book" = some (some (.ref C_Book)))
    (pg_Book : PySem.W.plainGet K C_Book Str.empty = true)
    (hd_Book : PySem.W.hasDictIn K C_Book = true)
    (po_Book : PySem.W.plainOver K C_Book = true)
    (sa_Book : PySem.W.findIn K (.ref C_Book) "__setattr__" = some (some (.builtin "object.__setattr__")))
    (mk_Book : PySem.W.makesIn K C_Book = true)
    (ic_Book : PySem.W.findIn K (.ref C_Book) "__init__" = some (some (.ref f_Book_init)))
    (fn_Book : PySem.W.isFn K (.ref f_Book_init) = true)
    (kc_Book : PySem.W.keepIn K (.ref C_Book) = true)
    (l_Book_init : K.lookup f_Book_init = some ⟨oc_Book_init, od_Book_init, .func (PySem.W.fnOf "__init__" "Book.__init__" (defArgs S_Book_init) (defBody S_Book_init) (defScope S_Book_init) .none kV_Book_init dc_Book_init pm_Book_init an_Book_init cd_Book_init ct_Book_init), sl_Book_init⟩)
    (c_Book_init : PySem.W.codeIn K cd_Book_init "Book.__init__" = true)
    (k_Book_init : PySem.W.keepIn K (.ref f_Book_init) = true)
    (n_facts_Book : PySem.W.findIn K (.ref C_Book) "_facts" = some none)
    (n_deeds_Book : PySem.W.findIn K (.ref C_Book) "_deeds" = some none)
    (n_tasks_Book : PySem.W.findIn K (.ref C_Book) "_tasks" = some none)
    (k2_BadValue : PySem.W.findIn K (.ref C_BadValue) "__getattribute__" = some (some (.builtin "BaseException.__getattribute__")))
    (k3_BadValue : PySem.W.findIn K (.ref C_BadValue) "__getattr__" = some none)
    (k6_BadValue : PySem.W.hasDictIn K C_BadValue = true)
    (k2_BadMethod : PySem.W.findIn K (.ref C_BadMethod) "__getattribute__" = some (some (.builtin "BaseException.__getattribute__")))
    (k3_BadMethod : PySem.W.findIn K (.ref C_BadMethod) "__getattr__" = some none)
    (k6_BadMethod : PySem.W.hasDictIn K C_BadMethod = true)
    (q00 : PySem.W.subIn K (.ref C_BadValue) (.ref C_BadValue) = some true)
    (q20 : PySem.W.subIn K (.ref C_BadMethod) (.ref C_BadValue) = some false)
    (q22 : PySem.W.subIn K (.ref C_BadMethod) (.ref C_BadMethod) = some true)
    (z_len : PySem.W.nsIn K mainGlobals "len" = some none)
    (z_range : PySem.W.nsIn K mainGlobals "range" = some none)
    (z_int : PySem.W.nsIn K mainGlobals "int" = some none)
    (z_bool : PySem.W.nsIn K mainGlobals "bool" = some none)
    (z_str : PySem.W.nsIn K mainGlobals "str" = some none)
    (z_tuple : PySem.W.nsIn K mainGlobals "tuple" = some none)
    (z_list : PySem.W.nsIn K mainGlobals "list" = some none)
    (z_all : PySem.W.nsIn K mainGlobals "all" = some none)
    (z_enumerate : PySem.W.nsIn K mainGlobals "enumerate" = some none)
    (z_isinstance : PySem.W.nsIn K mainGlobals "isinstance" = some none)
    (v_MOST_FACTS : PySem.W.nsIn K mainGlobals "MOST_FACTS" = some (some (.int 4 t_MOST_FACTS)))
    (v_MOST_DEEDS : PySem.W.nsIn K mainGlobals "MOST_DEEDS" = some (some (.int 5 t_MOST_DEEDS)))
    (v_MOST_TASKS : PySem.W.nsIn K mainGlobals "MOST_TASKS" = some (some (.int 6 t_MOST_TASKS)))
    (v_MOST_METHODS : PySem.W.nsIn K mainGlobals "MOST_METHODS" = some (some (.int 5 t_MOST_METHODS)))
    (v_MOST_STEPS : PySem.W.nsIn K mainGlobals "MOST_STEPS" = some (some (.int 5 t_MOST_STEPS))) :
    ∃ fd : FuncData, (∀ (s : Shared) (v : Value), BindsTo s fd ⟨[v], []⟩ [("script", v)]) ∧ ∀ base : Heap, K.In base → base.Ns mainGlobals mg → FnOk P w K mg base CX0 60 fa fd ["script"] (spLaw K) := by
  have B : Bi mg := ⟨PySem.W.mg_none_of KX G z_len, PySem.W.mg_none_of KX G z_range, PySem.W.mg_none_of KX G z_int, PySem.W.mg_none_of KX G z_bool, PySem.W.mg_none_of KX G z_str, PySem.W.mg_none_of KX G z_tuple, PySem.W.mg_none_of KX G z_list, PySem.W.mg_none_of KX G z_all, PySem.W.mg_none_of KX G z_enumerate, PySem.W.mg_none_of KX G z_isinstance, ⟨_, PySem.W.mg_of KX G v_MOST_FACTS⟩, ⟨_, PySem.W.mg_of KX G v_MOST_DEEDS⟩, ⟨_, PySem.W.mg_of KX G v_MOST_TASKS⟩, ⟨_, PySem.W.mg_of KX G v_MOST_METHODS⟩, ⟨_, PySem.W.mg_of KX G v_MOST_STEPS⟩⟩
  have T : Xs mg C_BadValue C_BadMethod := ⟨B, PySem.W.mg_of KX G g_BadValue, PySem.W.mg_of KX G g_BadMethod⟩
  have Z : Kn K C_BadValue C_BadMethod := ⟨⟨k2_BadValue, k3_BadValue, ec_BadValue, k6_BadValue⟩, ⟨k2_BadMethod, k3_BadMethod, ec_BadMethod, k6_BadMethod⟩, PySem.W.exm_ref ec_BadValue k6_BadValue ty_BadValue q00, PySem.W.exm_ref ec_BadValue k6_BadValue ty_BadValue q20, PySem.W.exm_ref ec_BadMethod k6_BadMethod ty_BadMethod q22, nat_BadValue, ntask_BadMethod, nmethod_BadMethod⟩
  have D_is_integer : Def K mg "is_integer" S_is_integer P_is_integer := Def.mk KX G a_is_integer l_is_integer c_is_integer k_is_integer (fun _ _ _ _ _ _ us hl => match us, hl with | [_], _ => rfl)
  have D_is_between : Def K mg "is_between" S_is_between P_is_between := Def.mk KX G a_is_between l_is_between c_is_between k_is_between (fun _ _ _ _ _ _ us hl => match us, hl with | [_, _, _], _ => rfl)
  have D_is_number : Def K mg "is_number" S_is_number P_is_number := Def.mk KX G a_is_number l_is_number c_is_number k_is_number (fun _ _ _ _ _ _ us hl => match us, hl with | [_, _], _ => rfl)
  have D_is_sequence : Def K mg "is_sequence" S_is_sequence P_is_sequence := Def.mk KX G a_is_sequence l_is_sequence c_is_sequence k_is_sequence (fun _ _ _ _ _ _ us hl => match us, hl with | [_], _ => rfl)
  have D_is_row : Def K mg "is_row" S_is_row P_is_row := Def.mk KX G a_is_row l_is_row c_is_row k_is_row (fun _ _ _ _ _ _ us hl => match us, hl with | [_, _, _], _ => rfl)
  have D_is_ascending : Def K mg "is_ascending" S_is_ascending P_is_ascending := Def.mk KX G a_is_ascending l_is_ascending c_is_ascending k_is_ascending (fun _ _ _ _ _ _ us hl => match us, hl with | [_], _ => rfl)
  have D_plain : Def K mg "plain" S_plain P_plain := Def.mk KX G a_plain l_plain c_plain k_plain (fun _ _ _ _ _ _ us hl => match us, hl with | [_], _ => rfl)
  have D_is_wanted_fact : Def K mg "is_wanted_fact" S_is_wanted_fact P_is_wanted_fact := Def.mk KX G a_is_wanted_fact l_is_wanted_fact c_is_wanted_fact k_is_wanted_fact (fun _ _ _ _ _ _ us hl => match us, hl with | [_, _], _ => rfl)
  have D_is_condition : Def K mg "is_condition" S_is_condition P_is_condition := Def.mk KX G a_is_condition l_is_condition c_is_condition k_is_condition (fun _ _ _ _ _ _ us hl => match us, hl with | [_, _], _ => rfl)
  have D_is_step : Def K mg "is_step" S_is_step P_is_step := Def.mk KX G a_is_step l_is_step c_is_step k_is_step (fun _ _ _ _ _ _ us hl => match us, hl with | [_, _, _], _ => rfl)
  have D_is_method : Def K mg "is_method" S_is_method P_is_method := Def.mk KX G a_is_method l_is_method c_is_method k_is_method (fun _ _ _ _ _ _ us hl => match us, hl with | [_, _, _, _], _ => rfl)
  have D_are_tasks : Def K mg "are_tasks" S_are_tasks P_are_tasks := Def.mk KX G a_are_tasks l_are_tasks c_are_tasks k_are_tasks (fun _ _ _ _ _ _ us hl => match us, hl with | [_], _ => rfl)
  have D_law_numbers : Def K mg "_law_numbers" S_law_numbers P_law_numbers := Def.mk KX G a_law_numbers l_law_numbers c_law_numbers k_law_numbers (fun _ _ _ _ _ _ us hl => match us, hl with | [_], _ => rfl)
  have D_law_draw : Def K mg "_law_draw" S_law_draw P_law_draw := Def.mk KX G a_law_draw l_law_draw c_law_draw k_law_draw (fun _ _ _ _ _ _ us hl => match us, hl with | [_, _, _], _ => rfl)
  have D_law_take : Def K mg "_law_take" S_law_take P_law_take := Def.mk KX G a_law_take l_law_take c_law_take k_law_take (fun _ _ _ _ _ _ us hl => match us, hl with | [_, _, _], _ => rfl)
  have D_law_set : Def K mg "_law_set" S_law_set P_law_set := Def.mk KX G a_law_set l_law_set c_law_set k_law_set (fun _ _ _ _ _ _ us hl => match us, hl with | [_, _, _], _ => rfl)
  have D_law_cond : Def K mg "_law_cond" S_law_cond P_law_cond := Def.mk KX G a_law_cond l_law_cond c_law_cond k_law_cond (fun _ _ _ _ _ _ us hl => match us, hl with | [_, _, _], _ => rfl)
  have D_law_method : Def K mg "_law_method" S_law_method P_law_method := Def.mk KX G a_law_method l_law_method c_law_method k_law_method (fun _ _ _ _ _ _ us hl => match us, hl with | [_, _, _, _, _], _ => rfl)
  have D_law_book : Def K mg "_law_book" S_law_book P_law_book := Def.mk KX G a_law_book l_law_book c_law_book k_law_book (fun _ _ _ _ _ _ us hl => match us, hl with | [_, _, _, _, _, _, _], _ => rfl)
  have D_law_book_fault : Def K mg "_law_book_fault" S_law_book_fault P_law_book_fault := Def.mk KX G a_law_book_fault l_law_book_fault c_law_book_fault k_law_book_fault (fun _ _ _ _ _ _ us hl => match us, hl with | [_, _, _], _ => rfl)
  have D_BadValue : XDef K mg "BadValue" "BadValue.__init__" C_BadValue S_BadValue_init P_BadValue_init := ⟨PySem.W.mg_of KX G g_BadValue, ⟨⟨_, _, _, _, [C_MethodError], _, _, _, _, _, _, _, _, _, _, x_BadValue⟩, sa_BadValue, ec_BadValue, ty_BadValue, kc_BadValue⟩, _, _, ic_BadValue, ti_BadValue, fun_mk (st := S_BadValue_init) l_BadValue_init c_BadValue_init k_BadValue_init, (fun_mk (st := S_BadValue_init) l_BadValue_init c_BadValue_init k_BadValue_init).binds (fun _ _ _ _ _ _ us hl => match us, hl with | [_, _], _ => rfl)⟩
  have D_BadMethod : XDef K mg "BadMethod" "BadMethod.__init__" C_BadMethod S_BadMethod_init P_BadMethod_init := ⟨PySem.W.mg_of KX G g_BadMethod, ⟨⟨_, _, _, _, [C_MethodError], _, _, _, _, _, _, _, _, _, _, x_BadMethod⟩, sa_BadMethod, ec_BadMethod, ty_BadMethod, kc_BadMethod⟩, _, _, ic_BadMethod, ti_BadMethod, fun_mk (st := S_BadMethod_init) l_BadMethod_init c_BadMethod_init k_BadMethod_init, (fun_mk (st := S_BadMethod_init) l_BadMethod_init c_BadMethod_init k_BadMethod_init).binds (fun _ _ _ _ _ _ us hl => match us, hl with | [_, _, _], _ => rfl)⟩
  have D_Book : CDef K mg "Book" "Book.__init__" C_Book S_Book_init P_Book_init := ⟨PySem.W.mg_of KX G g_Book, ⟨pg_Book, hd_Book, po_Book, sa_Book⟩, _, _, ⟨mk_Book, ic_Book, fn_Book, kc_Book⟩, fun_mk (st := S_Book_init) l_Book_init c_Book_init k_Book_init, (fun_mk (st := S_Book_init) l_Book_init c_Book_init k_Book_init).binds (fun _ _ _ _ _ _ us hl => match us, hl with | [_, _, _, _], _ => rfl)⟩
  have ba : BAttr K C_Book := ⟨n_facts_Book, n_deeds_Book, n_tasks_Book⟩
  obtain rfl : f_law = fa := by have z := PySem.W.mg_of KX G a_law; rw [hfa] at z; cases z; rfl
  obtain ⟨fd, hfd, F⟩ : ∃ fd, (∀ (s : Shared) (v : Value), BindsTo s fd ⟨[v], []⟩ [("script", v)]) ∧ Fun K "law" "law" S_law f_law fd := by
    refine ⟨_, ?_, fun_mk (st := S_law) l_law c_law k_law⟩
    exact fun s v => .of_eq rfl
  refine ⟨fd, hfd, fun base _ _ => ?_⟩
  have X_BadValue := exc_BadValue (P := P) (w := w) (base := base) D_BadValue nat_BadValue
  have X_BadMethod := exc_BadMethod (P := P) (w := w) (base := base) D_BadMethod ntask_BadMethod nmethod_BadMethod
  have C_is_integer := cal_is_integer (P := P) (w := w) (base := base) B D_is_integer
  have C_is_between := cal_is_between B C_is_integer D_is_between
  have C_is_number := cal_is_number B C_is_between D_is_number
  have C_is_sequence := cal_is_sequence (P := P) (w := w) (base := base) B D_is_sequence
  have C_is_row := cal_is_row B C_is_sequence D_is_row
  have C_is_ascending := cal_is_ascending (P := P) (w := w) (base := base) B D_is_ascending
  have C_plain := cal_plain B C_is_sequence D_plain
  have C_is_wanted_fact := cal_is_wanted_fact B (C_is_row.mono (by omega)) C_is_number D_is_wanted_fact
  have C_is_condition := cal_is_condition B (C_is_sequence.mono (by omega)) C_is_wanted_fact (C_is_ascending.mono (by omega)) D_is_condition
  have C_is_step := cal_is_step B (C_is_row.mono (by omega)) C_is_number D_is_step
  have C_is_method := cal_is_method B (C_is_row.mono (by omega)) C_is_condition (C_is_step.mono (by omega)) D_is_method
  have C_are_tasks := cal_are_tasks B C_is_row D_are_tasks
  have N_Book := new_book (cs := fun i => Nat.casesOn i C_BadValue fun _ => C_BadMethod) (n := 8) B X_BadValue X_BadMethod (C_is_between.mono (by omega)) (C_are_tasks.mono (by omega)) (C_is_method.mono (by omega)) ((C_plain 9).mono (by omega)) D_Book ba
  have C_law_numbers := cal_numbers (P := P) (w := w) (base := base) B D_law_numbers
  have C_law_draw := cal_draw (P := P) (w := w) (base := base) B D_law_draw
  have C_law_take := cal_take B C_law_draw D_law_take
  have C_law_set := cal_set (P := P) (w := w) (base := base) B D_law_set
  have C_law_cond := cal_cond B C_law_take D_law_cond
  have C_law_method := cal_lmethod B (C_law_take.mono (by omega)) C_law_cond D_law_method
  have C_law_book := cal_lbook B (C_law_take.mono (by omega)) C_law_method D_law_book
  have C_law_book_fault := cal_book_fault (c0 := C_BadValue) (c2 := C_BadMethod) rfl rfl T Z N_Book D_law_book_fault
  exact (fn_law (k := 20) (n := 0) B (C_law_numbers.mono (by omega)) (C_law_take.mono (by omega)) (C_law_book.mono (by omega)) (C_law_set.mono (by omega)) (C_law_book_fault.mono (by omega)) F).mono (by omega)
end Mw
open PySem PySem.W PyProof.Rows in
set_option maxRecDepth 100000 in
set_option maxHeartbeats 0 in
theorem PySem.Challenge.cw_methodworlds_k02_refusals_of_books_holds : PySem.Challenge.rw_methodworlds_k02_refusals_of_books.Holds := by
  w_on; o_law; k_head; (case hw => w_witness2)
  k_fill
  refine Mw.walkL (l := PySem.Challenge.rw_methodworlds_k02_refusals_of_books) rfl rfl (fun w h Y => PySem.W.kIn_of Y) ?F
  case F =>
    intro w mg fa h KX G hmg
    refine' Mw.all_mk KX G hmg ?a_is_integer ?l_is_integer ?c_is_integer ?k_is_integer ?a_is_between ?l_is_between ?c_is_between ?k_is_between ?a_is_number ?l_is_number ?c_is_number ?k_is_number ?a_is_sequence ?l_is_sequence ?c_is_sequence ?k_is_sequence ?a_is_row ?l_is_row ?c_is_row ?k_is_row ?a_is_ascending ?l_is_ascending ?c_is_ascending ?k_is_ascending ?a_plain ?l_plain ?c_plain ?k_plain ?a_is_wanted_fact ?l_is_wanted_fact ?c_is_wanted_fact ?k_is_wanted_fact ?a_is_condition ?l_is_condition ?c_is_condition ?k_is_condition ?a_is_step ?l_is_step ?c_is_step ?k_is_step ?a_is_method ?l_is_method ?c_is_method ?k_is_method ?a_are_tasks ?l_are_tasks ?c_are_tasks ?k_are_tasks ?a_law_numbers ?l_law_numbers ?c_law_numbers ?k_law_numbers ?a_law_draw ?l_law_draw ?c_law_draw ?k_law_draw ?a_law_take ?l_law_take ?c_law_take ?k_law_take ?a_law_set ?l_law_set ?c_law_set ?k_law_set ?a_law_cond ?l_law_cond ?c_law_cond ?k_law_cond ?a_law_method ?l_law_method ?c_law_method ?k_law_method ?a_law_book ?l_law_book ?c_law_book ?k_law_book ?a_law_book_fault ?l_law_book_fault ?c_law_book_fault ?k_law_book_fault ?a_law ?l_law ?c_law ?k_law ?g_BadValue ?x_BadValue ?sa_BadValue ?ec_BadValue ?ty_BadValue ?kc_BadValue ?ic_BadValue ?ti_BadValue ?l_BadValue_init ?c_BadValue_init ?k_BadValue_init ?nat_BadValue ?g_BadMethod ?x_BadMethod ?sa_BadMethod ?ec_BadMethod ?ty_BadMethod ?kc_BadMethod ?ic_BadMethod ?ti_BadMethod ?l_BadMethod_init ?c_BadMethod_init ?k_BadMethod_init ?ntask_BadMethod ?nmethod_BadMethod ?g_Book ?pg_Book ?hd_Book ?po_Book ?sa_Book ?mk_Book ?ic_Book ?fn_Book ?kc_Book ?l_Book_init ?c_Book_init ?k_Book_init ?n_facts_Book ?n_deeds_Book ?n_tasks_Book ?k2_BadValue ?k3_BadValue ?k6_BadValue ?k2_BadMethod ?k3_BadMethod ?k6_BadMethod ?q00 ?q20 ?q22 ?z_len ?z_range ?z_int ?z_bool ?z_str ?z_tuple ?z_list ?z_all ?z_enumerate ?z_isinstance ?v_MOST_FACTS ?v_MOST_DEEDS ?v_MOST_TASKS ?v_MOST_METHODS ?v_MOST_STEPS
    (case a_is_integer => k_is)
    (case l_is_integer => k_is)
    (case c_is_integer => k_is)
    (case k_is_integer => k_is)
    (case a_is_between => k_is)
    (case l_is_between => k_is)
    (case c_is_between => k_is)
    (case k_is_between => k_is)
    (case a_is_number => k_is)
    (case l_is_number => k_is)
    (case c_is_number => k_is)
    (case k_is_number => k_is)
    (case a_is_sequence => k_is)
    (case l_is_sequence => k_is)
    (case c_is_sequence => k_is)
    (case k_is_sequence => k_is)
    (case a_is_row => k_is)
    (case l_is_row => k_is)
    (case c_is_row => k_is)
    (case k_is_row => k_is)
    (case a_is_ascending => k_is)
    (case l_is_ascending => k_is)
    (case c_is_ascending => k_is)
    (case k_is_ascending => k_is)
    (case a_plain => k_is)
    (case l_plain => k_is)
    (case c_plain => k_is)
    (case k_plain => k_is)
    (case a_is_wanted_fact => k_is)
    (case l_is_wanted_fact => k_is)
    (case c_is_wanted_fact => k_is)
    (case k_is_wanted_fact => k_is)
    (case a_is_condition => k_is)
    (case l_is_condition => k_is)
    (case c_is_condition => k_is)
    (case k_is_condition => k_is)
    (case a_is_step => k_is)
    (case l_is_step => k_is)
    (case c_is_step => k_is)
    (case k_is_step => k_is)
    (case a_is_method => k_is)
    (case l_is_method => k_is)
    (case c_is_method => k_is)
    (case k_is_method => k_is)
    (case a_are_tasks => k_is)
    (case l_are_tasks => k_is)
    (case c_are_tasks => k_is)
    (case k_are_tasks => k_is)
    (case a_law_numbers => k_is)
    (case l_law_numbers => k_is)
    (case c_law_numbers => k_is)
    (case k_law_numbers => k_is)
    (case a_law_draw => k_is)
    (case l_law_draw => k_is)
    (case c_law_draw => k_is)
    (case k_law_draw => k_is)
    (case a_law_take => k_is)
    (case l_law_take => k_is)
    (case c_law_take => k_is)
    (case k_law_take => k_is)
    (case a_law_set => k_is)
    (case l_law_set => k_is)
    (case c_law_set => k_is)
    (case k_law_set => k_is)
    (case a_law_cond => k_is)
    (case l_law_cond => k_is)
    (case c_law_cond => k_is)
    (case k_law_cond => k_is)
    (case a_law_method => k_is)
    (case l_law_method => k_is)
    (case c_law_method => k_is)
    (case k_law_method => k_is)
    (case a_law_book => k_is)
    (case l_law_book => k_is)
    (case c_law_book => k_is)
    (case k_law_book => k_is)
    (case a_law_book_fault => k_is)
    (case l_law_book_fault => k_is)
    (case c_law_book_fault => k_is)
    (case k_law_book_fault => k_is)
    (case a_law => k_is)
    (case l_law => k_is)
    (case c_law => k_is)
    (case k_law => k_is)
    (case g_BadValue => k_is)
    (case x_BadValue => k_is)
    (case sa_BadValue => k_is)
    (case ec_BadValue => k_is)
    (case ty_BadValue => k_is)
    (case kc_BadValue => k_is)
    (case ic_BadValue => k_is)
    (case ti_BadValue => k_is)
    (case l_BadValue_init => k_is)
    (case c_BadValue_init => k_is)
    (case k_BadValue_init => k_is)
    (case nat_BadValue => k_is)
    (case g_BadMethod => k_is)
    (case x_BadMethod => k_is)
    (case sa_BadMethod => k_is)
    (case ec_BadMethod => k_is)
    (case ty_BadMethod => k_is)
    (case kc_BadMethod => k_is)
    (case ic_BadMethod => k_is)
    (case ti_BadMethod => k_is)
    (case l_BadMethod_init => k_is)
    (case c_BadMethod_init => k_is)
    (case k_BadMethod_init => k_is)
    (case ntask_BadMethod => k_is)
    (case nmethod_BadMethod => k_is)
    (case g_Book => k_is)
    (case pg_Book => k_is)
    (case hd_Book => k_is)
    (case po_Book => k_is)
    (case sa_Book => k_is)
    (case mk_Book => k_is)
    (case ic_Book => k_is)
    (case fn_Book => k_is)
    (case kc_Book => k_is)
    (case l_Book_init => k_is)
    (case c_Book_init => k_is)
    (case k_Book_init => k_is)
    (case n_facts_Book => k_is)
    (case n_deeds_Book => k_is)
    (case n_tasks_Book => k_is)
    (case k2_BadValue => k_is)
    (case k3_BadValue => k_is)
    (case k6_BadValue => k_is)
    (case k2_BadMethod => k_is)
    (case k3_BadMethod => k_is)
    (case k6_BadMethod => k_is)
    (case q00 => k_is)
    (case q20 => k_is)
    (case q22 => k_is)
    (case z_len => k_is)
    (case z_range => k_is)
    (case z_int => k_is)
    (case z_bool => k_is)
    (case z_str => k_is)
    (case z_tuple => k_is)
    (case z_list => k_is)
    (case z_all => k_is)
    (case z_enumerate => k_is)
    (case z_isinstance => k_is)
    (case v_MOST_FACTS => k_is)
    (case v_MOST_DEEDS => k_is)
    (case v_MOST_TASKS => k_is)
    (case v_MOST_METHODS => k_is)
    (case v_MOST_STEPS => k_is)
