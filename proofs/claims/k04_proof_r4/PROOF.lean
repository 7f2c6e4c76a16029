import PyProof.Rows.All
import Wide.All
import OpenK.AllK
import Wide.FinOn
import HandS.WordsList
import HandS.Exc
import HandS.ExcInit
import KE.KExcIs
import HandS.ForMost
import HandS.ForExc
import HandS.IsInst
import HandS.Wide
import HandS.EndBits
import KE.GoesEnum
import HandS.TryOnly
import HandS.Iter
import HandS.Property
import HandS.Deep
import PySem.Challenge.RW_methodworlds_k04_worlds_of_facts
set_option Elab.async false
set_option linter.all false
set_option maxRecDepth 100000
set_option maxHeartbeats 4000000
/-! Own exception classes over Exception whose __init__ stores fields: made, stored to, asked by isinstance. -/
namespace Mw
open PySem PySem.Spec PyProof.Rows L2
open PySem.Builtin PySem.Builtin.ObjectAttr
abbrev St := L2.St
abbrev tlEx : List Value := [.type "Exception", .type "BaseException", .type "object"]
theorem tl_pass (self : Value) : ∀ cs : List Addr, refuseLoop self "__setattr__" (cs.map Value.ref ++ tlEx) = pure ()
  | [] => F.store_Exception.passes self
  | c :: cs => (refuseLoop_ref ..).trans (tl_pass self cs)
theorem tl_has (X : String) : ∀ cs : List Addr, (cs.map Value.ref ++ tlEx).contains (.type X) = tlEx.contains (.type X)
  | [] => rfl
  | c :: cs => by
    show ((Value.ref c) :: (cs.map Value.ref ++ tlEx)).contains (.type X) = _
    rw [List.contains_cons, tl_has X cs]; rfl
theorem tl_ne : ∀ cs : List Addr, (cs.map Value.ref ++ tlEx).isEmpty = false
  | [] => rfl
  | _ :: _ => rfl
section
variable {prog : Program} {w : World} {A : Around} {R : Result → Shared → Prop} {hp : Heap} {g : Array GenState} {d : Drawn} {t : Nat} {os : OsState}
theorem ex_osa {K : W.Frag} {fld : Str} {tk : Tok} {u : Value} {x C : Addr} {fv : Array Value} {cd : ClassData} {cs : List Addr}
    (KX : K.In hp) (hx : hp.get? x = some { cls := .ref C, data := .fields fv }) (hcd : W.clsIn K C = some cd) (hm : cd.mro = cs.map Value.ref ++ tlEx) (hh : cd.hasDict = true) (hno : W.findIn K (.ref C) fld = some none)
    (hq : ∀ h' tk' dx, (∀ b o, b ≠ x → hp.get? b = some o → h'.get? b = some o) → hp.objs.size ≤ dx → dx ≠ x → h'.get? x = some { cls := .ref C, dict := some dx, data := .fields fv } →
      h'.Ns1 dx (fun y => if y = fld then some u else none) → R (.ok (.ret .none)) ⟨h', g, d, tk', os⟩) :
    codeAny (model prog w) A (.call (.builtin "object.__setattr__") ⟨[.ref x, .str fld tk, u], []⟩) R ⟨hp, g, d, t, os⟩ := by
  have I0 : W.InstAt hp x { cls := .ref C, data := .fields fv } C none := ⟨hx, rfl, rfl, trivial⟩
  have S0 := F.store_object
  have hne : cd.mro.isEmpty = false := by rw [hm]; exact tl_ne cs
  have hob0 : cd.mro.contains (.type "object") = true := by rw [hm, tl_has]; decide +kernel
  have xne : x ≠ hp.objs.size := Nat.ne_of_lt (Heap.lt_size hx)
  have sub0 : W.Looks (model prog w) hp (isInstance (.ref x) (.type "object")) true := I0.type.andThen (W.looks_mroIn KX (by unfold W.mroIn; rw [hcd, Option.bind_some, if_neg (by rw [hne]; decide), hob0]))
  refine codeAny_call_builtin S0.slot.plain S0.entry (@W.check_slot (model prog w) _ _ ⟨hp, g, d, t, os⟩ "object.__setattr__" "object" "__setattr__" (.ref x) [.str fld tk, u] [] _ S0.kind S0.split sub0 (S0.args (.ref x) (.str fld tk) u) ?_)
  have mr0 : W.Looks (model prog w) hp (mroOf (.ref C)) cd.mro := (W.looks_clsIn KX hcd).andThen .now
  have st0 : W.Looks (model prog w) hp (storeTaker? none) none := .now
  have cl0 : W.Looks (model prog w) hp (classData C) cd := W.looks_clsIn KX hcd
  rw [W.osa_eq, refuse_eq]
  refine wpAny_bind (wpAny_bind (I0.type.at (wpAny_bind (mr0.at ?_))))
  rw [hm, tl_pass _ cs]
  refine wpAny_pure (wpAny_bind (I0.type.at (wpAny_bind ((W.looks_findIn KX hno).at (wpAny_bind (st0.at ?_))))))
  show wpAny _ _ (storeInOwnDict (.ref x) (.ref C) (.str fld tk) fld u false) _ _ _
  obtain ⟨c1, c2, c3, c4, c5, c6, c7, c8, c9, c10, c11⟩ := cd
  dsimp only at hh
  subst hh
  unfold storeInOwnDict ownDictForStores
  repeat (first | with_reducible refine PySem.HandSPX.store_in_new ?_ ?_ | with_reducible refine wpAny_loadPart_at hx ?_ | with_reducible refine cl0.at ?_ | wp_step)
  · exact ⟨_, #[], _, (Heap.get?_update_ne _ _ _ _ xne.symm).trans (Heap.get?_push_at rfl rfl), rfl, fun e he => absurd he (by simp), fun _ => rfl⟩
  · intro h' tk' ns' sb
    have hx1 : (hp.push { cls := .type "dict", data := .dict #[] }).get? x = some { cls := .ref C, data := .fields fv } := Heap.get?_push_of_some _ hx
    refine hq h' tk' hp.objs.size (fun b o hb ho => ?_) (Nat.le_refl _) xne.symm ?_ ns'
    · exact (sb.2 b (Nat.ne_of_lt (Heap.lt_size ho))).trans ((Heap.get?_update_ne _ _ _ _ hb).trans (Heap.get?_push_of_some _ ho))
    · exact (sb.2 x xne).trans (Heap.get?_update_self _ hx1 rfl)
theorem ex_osa2 {K : W.Frag} {fld : Str} {tk : Tok} {u : Value} {x C dx : Addr} {fv : Array Value} {cd : ClassData} {cs : List Addr} {m0 : Str → Option Value} {nl : List Str}
    (KX : K.In hp) (hx : hp.get? x = some { cls := .ref C, dict := some dx, data := .fields fv }) (hns : hp.Ns1 dx m0) (hw : Within m0 nl) (hz : nl.length ≤ 1000) (hcd : W.clsIn K C = some cd) (hm : cd.mro = cs.map Value.ref ++ tlEx) (hh : cd.hasDict = true)
    (hno : W.findIn K (.ref C) fld = some none)
    (hq : ∀ h' tk', (∀ b o, b ≠ dx → hp.get? b = some o → h'.get? b = some o) → h'.Ns1 dx (fun y => if y = fld then some u else m0 y) → R (.ok (.ret .none)) ⟨h', g, d, tk', os⟩) :
    codeAny (model prog w) A (.call (.builtin "object.__setattr__") ⟨[.ref x, .str fld tk, u], []⟩) R ⟨hp, g, d, t, os⟩ := by
  obtain ⟨oD, eD, pD, hoD, hdD, hcD⟩ := hns.count hw
  have I0 : W.InstAt hp x { cls := .ref C, dict := some dx, data := .fields fv } C (some oD) := ⟨hx, rfl, rfl, hoD⟩
  have S0 := F.store_object
  have hne : cd.mro.isEmpty = false := by rw [hm]; exact tl_ne cs
  have hob0 : cd.mro.contains (.type "object") = true := by rw [hm, tl_has]; decide +kernel
  have sub0 : W.Looks (model prog w) hp (isInstance (.ref x) (.type "object")) true := I0.type.andThen (W.looks_mroIn KX (by unfold W.mroIn; rw [hcd, Option.bind_some, if_neg (by rw [hne]; decide), hob0]))
  refine codeAny_call_builtin S0.slot.plain S0.entry (@W.check_slot (model prog w) _ _ ⟨hp, g, d, t, os⟩ "object.__setattr__" "object" "__setattr__" (.ref x) [.str fld tk, u] [] _ S0.kind S0.split sub0 (S0.args (.ref x) (.str fld tk) u) ?_)
  have mr0 : W.Looks (model prog w) hp (mroOf (.ref C)) cd.mro := (W.looks_clsIn KX hcd).andThen .now
  have st0 : W.Looks (model prog w) hp (storeTaker? none) none := .now
  have cl0 : W.Looks (model prog w) hp (classData C) cd := W.looks_clsIn KX hcd
  rw [W.osa_eq, refuse_eq]
  refine wpAny_bind (wpAny_bind (I0.type.at (wpAny_bind (mr0.at ?_))))
  rw [hm, tl_pass _ cs]
  refine wpAny_pure (wpAny_bind (I0.type.at (wpAny_bind ((W.looks_findIn KX hno).at (wpAny_bind (st0.at ?_))))))
  show wpAny _ _ (storeInOwnDict (.ref x) (.ref C) (.str fld tk) fld u false) _ _ _
  obtain ⟨c1, c2, c3, c4, c5, c6, c7, c8, c9, c10, c11⟩ := cd
  dsimp only at hh
  subst hh
  unfold storeInOwnDict ownDictForStores
  repeat (first | with_reducible refine PySem.OEX.store_in_old hns hw hz ?_ | with_reducible refine wpAny_loadPart_at hx ?_ | with_reducible refine cl0.at ?_ | wp_step)
  intro h' tk' ns' sb
  exact hq h' tk' (fun b o hb ho => (sb.2 b hb).trans ho) ns'
end
/-- what the written part says of such a class -/
structure ExM (K : PySem.W.Frag) (C : Addr) : Prop where
  cls : ∃ nm q N bs cs sn sub ab col dd k0 k1 k2 k3 k5, K.lookup C = some (excClassObj nm q C N bs ((cs : List Addr).map Value.ref ++ tlEx) true sn sub ab col dd k0 k1 k2 k3 k5 "Exception.__new__")
  sa : PySem.W.findIn K (.ref C) "__setattr__" = some (some (.builtin "object.__setattr__"))
  exC : PySem.W.subIn K (.ref C) (.type "BaseException") = some true
  tyC : PySem.W.typeIn K (.ref C) = some (.type "type")
  kC : PySem.W.keepIn K (.ref C) = true
section
variable {X : Cx} {pins : List (Addr × Obj)} {σ : St} {H : Hp} {s : Shared} {a C dx : Addr} {f : Str} {y : V} {u : Value} {fs : List (Str × V)} {Q : Unit → Shared → Prop} {E : Value → Shared → Prop} {A : Around}
theorem put_new (T : ExM X.K C) (I : Inv X pins σ H s) (e : H a = some (exo a C none)) (hno : PySem.W.findIn X.K (.ref C) f = some none) (ry : RelV y u)
    (h : ∀ dx s', H dx = none → dx ≠ a → Inv X pins σ (upd (upd H dx (exd dx [(f, y)])) a (exo a C (some dx))) s' → Q () s') : wpAny (model X.prog X.w) A (setAttr (.ref a) f u) Q E s := by
  obtain ⟨nm, q, N, bs, cs, sn, sub, ab, col, dd, k0, k1, k2, k3, k5, hC⟩ := T.cls
  have hcl : PySem.W.clsIn X.K C = some { name := nm, bases := bs, mro := .ref C :: (cs.map Value.ref ++ tlEx), ns := N, qualname := q, hasDict := true, slotNames := sn, subclasses := sub, abstract := ab, collection := col, hasDel := false } := by
    unfold PySem.W.clsIn; rw [hC] <;> rfl
  obtain ⟨t1, ho⟩ := exo_at I.hok e
  obtain ⟨hp, g, d, t, os⟩ := s
  refine PySem.W.set_plain I.kIn (ox := { cls := .ref C, dict := none, data := .fields #[.ref t1, .none, .none, .none, .bool false, .none] }) (od := none) ⟨ho, rfl, rfl, trivial⟩ T.sa ?_
  refine ex_osa (cs := C :: cs) I.kIn ho hcl rfl rfl hno (fun h' tk' dx k dn dne hx hn => ?_)
  have hnd : H dx = none := I.hok.fresh dn
  have nd : ∀ {b : Addr} {o : Obj}, hp.get? b = some o → b ≠ dx := fun {b o} z => Nat.ne_of_lt (Nat.lt_of_lt_of_le (Heap.lt_size z) dn)
  have na : ∀ {b : Addr}, H b = none → b ≠ a := fun {b} n z => by rw [z, e] at n; cases n
  have U1 : Un X.fs [] H (upd (upd H dx (exd dx [(f, y)])) a (exo a C (some dx))) hp h' :=
    ⟨fun b o z n _ _ => k b o (na n) z, fun b o z n _ _ => ⟨o.slots, k b o (na n) z⟩, fun b o z n _ => (upd_ne (na n)).trans ((upd_ne (nd z)).trans n),
      fun b o z _ => by
        by_cases hb : b = a
        · exact ⟨_, hb ▸ hx⟩
        · exact ⟨o, k b o hb z⟩,
      fun b xs z => (upd_ne (at_ne e z exo_tup)).trans ((upd_ne (ne_of_none z hnd)).trans z), fun b o v z => (upd_ne (at_ne e z exo_frz)).trans ((upd_ne (ne_of_none z hnd)).trans z),
      fun b ps z => ⟨#[], by rw [upd_ne (at_ne e z exo_tbl), upd_ne (ne_of_none z hnd), z]; simp⟩⟩
  refine h dx _ hnd dne (I.un (t' := tk') U1 fun b o z => ?_)
  by_cases hb : b = a
  · subst hb; rw [upd_same] at z; cases z; exact exo_ok hx
  · rw [upd_ne hb] at z
    by_cases hd : b = dx
    · subst hd; rw [upd_same] at z; cases z; exact exd_ok hn (relO_put (fs := []) ry fun g => True.intro)
    · rw [upd_ne hd] at z
      refine (I.hok b o z).stay (fun c v hc zz => k c v ?_ zz) (fun c hc => (upd_ne (at_ne e hc exo_own)).trans ((upd_ne (ne_of_none hc hnd)).trans hc)) (fun c xs hc => (upd_ne (at_ne e hc exo_tup)).trans ((upd_ne (ne_of_none hc hnd)).trans hc))
      rcases hc with hc | hc
      · exact hc ▸ hb
      · exact at_ne e hc exo_own
theorem put_old (T : ExM X.K C) (I : Inv X pins σ H s) (e : H a = some (exo a C (some dx))) (ed : H dx = some (exd dx fs)) (hl : fs.length ≤ 900) (hno : PySem.W.findIn X.K (.ref C) f = some none) (ry : RelV y u)
    (h : ∀ s', Inv X pins σ (upd H dx (exd dx ((f, y) :: fs))) s' → Q () s') : wpAny (model X.prog X.w) A (setAttr (.ref a) f u) Q E s := by
  obtain ⟨nm, q, N, bs, cs, sn, sub, ab, col, dd, k0, k1, k2, k3, k5, hC⟩ := T.cls
  have hcl : PySem.W.clsIn X.K C = some { name := nm, bases := bs, mro := .ref C :: (cs.map Value.ref ++ tlEx), ns := N, qualname := q, hasDict := true, slotNames := sn, subclasses := sub, abstract := ab, collection := col, hasDel := false } := by
    unfold PySem.W.clsIn; rw [hC] <;> rfl
  obtain ⟨t1, ho⟩ := exo_at I.hok e
  obtain ⟨mA, hns, rel⟩ := exd_at I.hok ed
  have hw := within_of rel
  obtain ⟨hp, g, d, t, os⟩ := s
  obtain ⟨oD, _, _, hoD, _, _⟩ := hns.count hw
  refine PySem.W.set_plain I.kIn (ox := { cls := .ref C, dict := some dx, data := .fields #[.ref t1, .none, .none, .none, .bool false, .none] }) (od := some oD) ⟨ho, rfl, rfl, hoD⟩ T.sa ?_
  refine ex_osa2 (cs := C :: cs) I.kIn ho hns hw (by rw [List.length_map]; omega) hcl rfl rfl hno (fun h' tk' k hn => ?_)
  obtain ⟨o9, e9, p9, q9, r9⟩ := id hn
  exact h _ (I.write (t' := tk') (x := dx) (e := dx) (o := exd dx ((f, y) :: fs)) (by rw [ed]; exact True.intro) (.inl rfl) k ⟨o9, q9⟩ (exd_ok hn (relO_put ry rel)))
end
/-- self.f = e in __init__ -/
def tPut (K : PySem.W.Frag) (f : Str) (to te : TE) : TS := fun D σ H => te σ H fun y H1 => to σ H1 fun x H2 => ∃ a C : Addr, x = .ref a ∧ ExM K C ∧ PySem.W.findIn K (.ref C) f = some none ∧
  ((H2 a = some (exo a C none) ∧ ∀ dx, H2 dx = none → dx ≠ a → D.nx σ (upd (upd H2 dx (exd dx [(f, y)])) a (exo a C (some dx)))) ∨
    ∃ (dx : Addr) (fs : List (Str × V)), H2 a = some (exo a C (some dx)) ∧ H2 dx = some (exd dx fs) ∧ fs.length ≤ 900 ∧ D.nx σ (upd H2 dx (exd dx ((f, y) :: fs))))
/-- C(e, ..), C's own __init__ keeping sp -/
def tMade (C : Addr) (sp : Sp) (ta : TA) : St → Hp → XK → Prop := fun σ H Q => ta σ H fun vs H1 => vs.length ≤ 1000 ∧ ∀ a, H1 a = none → sp (.ref a :: vs) (upd H1 a (exo a C none))
  (fun v H2 => v = .non ∧ ∃ (d : Addr) (fs : List (Str × V)), H2 a = some (exo a C (some d)) ∧ H2 d = some (exd d fs) ∧ H1 d = none ∧ Q (.ref C) (some d) (upd (del H2 a) d (.xd fs))) (fun _ _ _ => False)
section
variable {X : Cx} {o e : Expr} {es : List Expr} {to te : TE} {ta : TA} {f : Str} {p p' pos : Pos}
theorem ps_put (ho : PE X o to) (he : PE X e te) (hs : swapsWith e (some (.Attribute o f p')) pos.line X.env = pure false := by rfl) : PS X (.Assign [.Attribute o f p'] e pos) (tPut X.K f to te) := by
  refine ⟨fun pins s σ H D I h => ?_⟩
  refine plainObj_wpAny_Assign_Attribute (thn (he.run pins s σ H _ I h) fun v s1 ⟨y, H1, I1, r1, q1⟩ => thn (ho.run pins s1 σ H1 _ I1 q1) fun u s2 ⟨x, H2, I2, r2, a, C, ex, T, hno, q⟩ => ?_) hs
  subst ex
  obtain rfl : u = Value.ref a := r2
  rcases q with ⟨ea, q⟩ | ⟨dx, fs, ea, ed, hl, q⟩
  · exact put_new T I2 ea hno r1 fun dx s' n ne J => ⟨σ, _, J, q dx n ne⟩
  · exact put_old T I2 ea ed hl hno r1 fun s' J => ⟨σ, _, J, q⟩
theorem pmk_made {CX : CXT} {x : Str} {C fI : Addr} {k : Nat} {fd : FuncData} {ps : List Str} {sp : Sp} (T : ExM X.K C) (iC : PySem.W.findIn X.K (.ref C) "__init__" = some (some (.ref fI))) (tI : PySem.W.typeIn X.K (.ref fI) = some (.type "function"))
    (F1 : FnOk X.prog X.w X.K X.mg X.base CX k fI fd ps sp) (hr : Room (k + 1) X.A) (hb : Binds X.K fd ps []) (hx : Passes CX X (fun _ _ _ => False)) (hg : Gl X x) (hm : X.mg x = some (.ref C)) (ha : PA X (e :: es) ta)
    (hdb : (x == ("__debug__" : Str)) = false := by decide) (he : starEach (e :: es) X.env = (false, eval e X.env) :: starEach es X.env := by rfl) (hpl : (backTo pos (starEach es X.env)).any (·.1) = false := by rfl) :
    PMk X (.Call (.Name x p) (e :: es) [] pos) (tMade C sp ta) := by
  intro pins s σ H Q I h
  obtain ⟨nm, q, N, bs, cs, sn, sub, ab, col, dd, k0, k1, k2, k3, k5, hC⟩ := T.cls
  refine wpAny_Call_Name_kw (ld_glob I hg hm ?_ hdb)
  refine PySem.W.callWith_K (h₀ := X.base) I.ok.mod.kin T.kC (thn (ha.run pos pins s σ H _ I h) fun us s1 ⟨vs, H1, I1, r1, hz, q1⟩ => ⟨I1.kIn, ?_⟩) he hpl
  show wpAny _ _ (call (.ref C) us) _ _ _
  obtain ⟨hp, g, dr, tk, os⟩ := s1
  have sz : hp.objs.size ≤ hp.objs.size + 1 := Nat.le_succ _
  have hn : H1 (hp.objs.size + 1) = none := I1.hok.fresh sz
  have hq := q1 (hp.objs.size + 1) hn
  have kp : ∀ b o, hp.get? b = some o → ((hp.push (PySem.W.kdv_tup us)).push (PySem.HandSPX.excO C hp.objs.size)).get? b = some o := fun b o z => Heap.get?_push_of_some _ (Heap.get?_push_of_some _ z)
  have hget : ((hp.push (PySem.W.kdv_tup us)).push (PySem.HandSPX.excO C hp.objs.size)).get? (hp.objs.size + 1) = some (PySem.HandSPX.excO C hp.objs.size) := by heap_get
  have I2 : Inv X pins σ (upd H1 (hp.objs.size + 1) (exo (hp.objs.size + 1) C none)) ⟨(hp.push (PySem.W.kdv_tup us)).push (PySem.HandSPX.excO C hp.objs.size), g, dr, tk, os⟩ :=
    I1.laid (t' := tk) (a := hp.objs.size + 1) (o := exo (hp.objs.size + 1) C none) (h' := (hp.push (PySem.W.kdv_tup us)).push (PySem.HandSPX.excO C hp.objs.size)) kp sz (exo_ok hget)
  have r2 : Vals (V.ref (hp.objs.size + 1) :: vs) (Value.ref (hp.objs.size + 1) :: us) := .cons rfl r1
  have hl : (Value.ref (hp.objs.size + 1) :: us).length = ps.length := by
    have z := r2.length
    rw [F1.len _ _ _ _ hq] at z
    exact z.symm
  have hus : us.length ≤ sizeLine := by rw [← Paired.length r1, sizeLine_eq]; omega
  have bnd := hb ⟨(hp.push (PySem.W.kdv_tup us)).push (PySem.HandSPX.excO C hp.objs.size), g, dr, tk, os⟩ (Value.ref (hp.objs.size + 1) :: us) I2.kIn (by rw [List.append_nil]; exact hl)
  rw [List.append_nil] at bnd
  refine wpAny_call (PySem.HandSPX.call_own F.excBase_Exception (fun Y => tl_has Y cs) (I1.kIn _ _ hC) (PySem.W.looks_findIn I1.kIn iC) (fun self => PySem.W.bind_fn I1.kIn self tI) hus
    (codeAny_mono (F1.run _ X.stack _ _ ⟨Value.ref (hp.objs.size + 1) :: us, []⟩ (Value.ref (hp.objs.size + 1) :: us) _ _ (fun _ _ _ => False) (hr.make C us []) (I2.env0.make C us []) bnd r2 hq) fun r s' hq' => ?_))
  cases r with
  | error er => exact hx pins σ _ _ er s' I2 hq'
  | ok fl =>
    cases fl with
    | ret u =>
      obtain ⟨v, H2, os2, bare2, un2, hok2, rv, ev, d, fs, ea, ed, hd1, q2⟩ := hq'
      subst ev
      obtain ⟨h2, g2, d2, t2, os'⟩ := s'
      exact ⟨rv, mk_end (raises_own T.exC T.tyC) I1 sz kp un2 hok2 os2 bare2 ea ed hd1 q2⟩
    | next => exact False.elim hq'
    | brk => exact False.elim hq'
    | cont => exact False.elim hq'
end
/-- what the class at D must say, so that isinstance asks its instances rightly -/
structure AskE (K : PySem.W.Frag) (D : Addr) : Prop where
  hc : (PySem.W.clsIn K D).isSome = true
  hg : PySem.W.findIn K (.ref D) "__getattribute__" = some (some (.builtin "BaseException.__getattribute__"))
  hk : PySem.W.findIn K (.ref D) "__getattr__" = some none
  hs : PySem.W.subIn K (.ref D) (.type "BaseException") = some true
  ha : PySem.W.findIn K (.ref D) "__class__" = some (some (.builtin "object.__class__"))
  hn : PySem.W.specialIn K (.builtin "object.__class__") "__get__" = some (some (.builtin "getset_descriptor.__get__"))
  ht : PySem.W.takesIn K (.builtin "object.__class__") = some true
  hm : PySem.W.mroIn K D (.type "object") = some true
/-- isinstance(e, c), e the caught exception at a, whose class is at D and whose dict is at dd -/
def rAsk (K : PySem.W.Frag) (a : Addr) (cls : Value) (d : Option Addr) : List V → Hp → VK → Prop := fun xs H Q => ∃ (D dd : Addr) (fs : List (Str × V)) (c : V) (cv : Value) (b : Bool),
  cls = .ref D ∧ d = some dd ∧ H dd = some (.xd fs) ∧ AskE K D ∧ xs = [.ref a, c] ∧ (∀ u, RelV c u → u = cv) ∧ PySem.W.kitOne K (.ref D) cv = some b ∧ Q (.bl b) H
theorem call_ask {X : Cx} {a : Addr} {cls : Value} {d : Option Addr} {oe : Obj} {pn : List (Addr × Obj)} (hz : Zc cls d oe) (hf : ∃ vs, oe.data = .fields vs) : CallR (X.suite a ((a, oe) :: pn)) (.builtin "isinstance") (rAsk X.K a cls d) := by
  intro pins s σ H xs us Q I r h
  obtain ⟨D, dd, fs, c, cv, b, rfl, rfl, hdd, C, rfl, hcv, e, q⟩ := h
  obtain ⟨u1, u2, rfl, r1, r2⟩ := vals2 r
  obtain rfl : u1 = Value.ref a := r1
  obtain rfl := hcv _ r2
  obtain ⟨hget, _⟩ := I.pin (a, oe) (List.mem_append_left _ List.mem_cons_self)
  obtain ⟨vs, hv⟩ := hf
  obtain ⟨mA, hns, _⟩ := (show ObjOk X.prog X.w H s.heap dd (.xd fs) from I.hok dd _ hdd)
  obtain ⟨od, ho, _⟩ := lookIn_ns hns
  have J : PySem.W.InstAt s.heap a oe D (some od) := ⟨hget, hz.1, by unfold PySem.W.notCls; rw [hv] <;> rfl, by rw [hz.2]; exact ho⟩
  exact PySem.W.kia_one (PySem.W.kitx_exc C.hc C.hg C.hk C.hs C.ha C.hn C.ht C.hm) I.kIn J e (fun z => nomatch z) fun tk => ⟨.bl b, H, I.tok tk, rfl, q⟩
end Mw
set_option Elab.async false
set_option linter.all false
set_option maxRecDepth 100000
/-! Common words: a def where it stands, a callee by its promise, the drawn row and its place. -/
namespace Mw
open PySem L2
/-- a def of the module's top, where it stands -/
def Def (K : PySem.W.Frag) (mg : Str → Option Value) (x : Str) (st : Stmt) (ps : List Str) : Prop :=
  ∃ (f : Addr) (fd : FuncData), mg x = some (.ref f) ∧ Fun K x x st f fd ∧ Binds K fd ps []
/-- a def by its promise -/
def Cal (P : Program) (w : World) (K : PySem.W.Frag) (mg : Str → Option Value) (base : Heap) (CX : CXT) (x : Str) (k : Nat) (ps : List Str) (sp : Sp) : Prop :=
  ∃ (f : Addr) (fd : FuncData), mg x = some (.ref f) ∧ PySem.W.keepIn K (.ref f) = true ∧ Binds K fd ps [] ∧ FnOk P w K mg base CX k f fd ps sp
section
variable {P : Program} {w : World} {K : PySem.W.Frag} {mg : Str → Option Value} {base : Heap} {CX : CXT} {x : Str} {k : Nat} {ps : List Str} {sp : Sp}
theorem Cal.mono {j : Nat} (C : Cal P w K mg base CX x j ps sp) (h : j ≤ k) : Cal P w K mg base CX x k ps sp := by
  obtain ⟨f, fd, g, kp, b, F⟩ := C
  exact ⟨f, fd, g, kp, b, F.mono h⟩
theorem Cal.imp {sp' : Sp} (C : Cal P w K mg base CX x k ps sp) (h : ∀ vs H Q E, sp' vs H Q E → sp vs H Q E) : Cal P w K mg base CX x k ps sp' := by
  obtain ⟨f, fd, g, kp, b, F⟩ := C
  exact ⟨f, fd, g, kp, b, F.imp h⟩
/-- a def that raises nothing holds its promise -/
theorem Def.cal {st : Stmt} {N : List Str} (D : Def K mg x st ps) (S : FnScope N ps (defScope st)) (len : ∀ vs H Q E, sp vs H Q E → vs.length = ps.length)
    (hbody : ∀ (f : Addr) (cdv : Value) (A : Around) (outer : List Env) (s : Shared) (H : Hp) (vs : List V) (Q : VK) (E : XK), Room k (A.deeper (PyProof.Rows.envOfC x (defScope st) s.heap.objs.size f cdv)) → sp vs H Q E →
      ∃ t, PSs (cxOf CX0 P w K mg base N x (defScope st) f cdv A outer s H E).nox (defBody st) t ∧ t { nx := fun _ H' => Q .non H', rt := Q } (start N vs) H) : Cal P w K mg base CX0 x (k + 1) ps sp := by
  obtain ⟨f, fd, g, F, b⟩ := D
  exact ⟨f, fd, g, F.kp, b, F.ok S len (hbody f)⟩
theorem Def.calX {st : Stmt} {N : List Str} (D : Def K mg x st ps) (S : FnScope N ps (defScope st)) (len : ∀ vs H Q E, sp vs H Q E → vs.length = ps.length)
    (hbody : ∀ (f : Addr) (cdv : Value) (A : Around) (outer : List Env) (s : Shared) (H : Hp) (vs : List V) (Q : VK) (E : XK), Room k (A.deeper (PyProof.Rows.envOfC x (defScope st) s.heap.objs.size f cdv)) → sp vs H Q E →
      ∃ t, PSs (cxOf (L2.CX P w) P w K mg base N x (defScope st) f cdv A outer s H E) (defBody st) t ∧ t { nx := fun _ H' => Q .non H', rt := Q } (start N vs) H) : Cal P w K mg base (L2.CX P w) x (k + 1) ps sp := by
  obtain ⟨f, fd, g, F, b⟩ := D
  exact ⟨f, fd, g, F.kp, b, F.okX S len (hbody f)⟩
theorem Def.mk {h : Heap} {st : Stmt} {f : Addr} {oc : Value} {od an : Option Addr} {osl : Array (Option Value)} {kV doc pm cdv ct : Value} (KX : K.In h) (G : h.Ns mainGlobals mg) (a : PySem.W.nsIn K mainGlobals x = some (some (.ref f)))
    (l : K.lookup f = some ⟨oc, od, .func (PySem.W.fnOf x x (defArgs st) (defBody st) (defScope st) .none kV doc pm an cdv ct), osl⟩) (c : PySem.W.codeIn K cdv x = true) (kp : PySem.W.keepIn K (.ref f) = true)
    (b : ∀ (kV doc pm : Value) (an : Option Addr) (cdv ct : Value) (us : List Value), us.length = ps.length → bindArgs (PySem.W.fnOf x x (defArgs st) (defBody st) (defScope st) .none kV doc pm an cdv ct) ⟨us, []⟩ = pure (ps.zip us)) : Def K mg x st ps :=
  ⟨f, _, PySem.W.mg_of KX G a, fun_mk (st := st) l c kp, (fun_mk (st := st) l c kp).binds b⟩
end
section
variable {X : Cx} {x : Str} {k : Nat} {ps : List Str} {sp : Sp} {e : Expr} {es : List Expr} {t : TA} {p pos : Pos}
/-- the call of a def that raises nothing -/
theorem pe_fn (C : Cal X.prog X.w X.K X.mg X.base CX0 x k ps sp) (hr : Room k X.A) (ha : PA X (e :: es) t) (hg : Gl X x := by rfl)
    (hdb : (x == ("__debug__" : Str)) = false := by decide) (he : starEach (e :: es) X.env = (false, eval e X.env) :: starEach es X.env := by rfl) (hpl : (backTo pos (starEach es X.env)).any (·.1) = false := by rfl) :
    PE X (.Call (.Name x p) (e :: es) [] pos) (tCall sp [] E0 t) := by
  obtain ⟨f, fd, g, kp, b, F⟩ := C
  exact pe_call F hr hg g kp b .nil pass0 ha hdb he hpl
/-- the call of a def that may raise, where what it raises is wished for -/
theorem pe_fnS {W : WX} (C : Cal X.prog X.w X.K X.mg X.base (L2.CX X.prog X.w) x k ps sp) (hr : Room k X.A) (tk : Takes X W) (ha : PA X (e :: es) t) (hg : Gl X x := by rfl)
    (hdb : (x == ("__debug__" : Str)) = false := by decide) (he : starEach (e :: es) X.env = (false, eval e X.env) :: starEach es X.env := by rfl) (hpl : (backTo pos (starEach es X.env)).any (·.1) = false := by rfl) :
    PE X (.Call (.Name x p) (e :: es) [] pos) (tCallS sp (WE W) t) := by
  obtain ⟨f, fd, g, kp, b, F⟩ := C
  exact pe_callS F hr hg g kp b (fun σ => passAt tk σ) ha hdb he hpl
end
/-! ### products of any size -/
def CMulB (i j : Int) : Prop := i.natAbs.log2 + j.natAbs.log2 < 100000000
theorem CMulB.ok {i j : Int} (h : CMulB i j) : IntMulOk i j := by
  have b9 : ∀ x : Int, Builtin.Int.intBits x ≤ x.natAbs.log2 + 1 := fun x => by unfold Builtin.Int.intBits; split <;> omega
  have h1 := b9 i
  have h2 := b9 j
  have h3 : i.natAbs.log2 + j.natAbs.log2 < 100000000 := h
  have e9 : bitsLine = 134217728 := by decide
  unfold IntMulOk
  intro z
  rw [Bool.and_eq_true] at z
  have z2 : Builtin.Int.intTooBig _ = true := z.2
  unfold Builtin.Int.intTooBig at z2
  have z3 := of_decide_eq_true z2
  rw [e9] at z3
  omega
theorem op_mulB {X : Cx} : OpR X (binaryOp .Mult) (rI CMulB fun i j => .int (i * j)) := opI fun _ _ _ _ _ _ _ hc q => PyProof.Rows.mul_int q hc.ok
/-! ### heaps: all but one place stands -/
/-- all that was tracked is as it was, but at sp -/
def Grow (sp : Addr) (H H' : Hp) : Prop := ∀ b o, b ≠ sp → H b = some o → H' b = some o
theorem Grow.refl (sp : Addr) (H : Hp) : Grow sp H H := fun _ _ _ h => h
theorem Grow.trans {sp : Addr} {H H1 H2 : Hp} (a : Grow sp H H1) (b : Grow sp H1 H2) : Grow sp H H2 := fun c o n h => b c o n (a c o n h)
theorem Grow.new {sp p : Addr} {H : Hp} {o : HO} (h : H p = none) : Grow sp H (upd H p o) := fun b u _ e => by rw [upd_ne (ne_of_none e h)]; exact e
theorem Grow.at {sp : Addr} {H : Hp} {o : HO} : Grow sp H (upd H sp o) := fun b u n e => by rw [upd_ne n]; exact e
theorem Same.new {p : Addr} {H : Hp} {o : HO} (h : H p = none) : Same H (upd H p o) := fun b u e => by rw [upd_ne (ne_of_none e h)]; exact e
theorem Same.grow {sp : Addr} {H H' : Hp} (h : Same H H') : Grow sp H H' := fun b o _ e => h b o e
/-! ### the drawn row at r, the place in it at sp -/
/-- the row's numbers -/
def RowOk (ns : List Int) : Prop := 0 < ns.length ∧ ns.length ≤ 4000 ∧ ∀ n ∈ ns, 0 ≤ n ∧ n < 2147483648
def Rolls (r sp : Addr) (H : Hp) : Prop := r ≠ sp ∧ (∃ ns : List Int, RowOk ns ∧ H r = some (.lst (ns.map V.int))) ∧ ∃ n : Nat, H sp = some (.lst [.int n])
theorem Rolls.new {r sp p : Addr} {H : Hp} {o : HO} (R : Rolls r sp H) (h : H p = none) : Rolls r sp (upd H p o) := by
  obtain ⟨ne, ⟨ns, ok, e⟩, n, en⟩ := R
  exact ⟨ne, ⟨ns, ok, by rw [upd_ne (ne_of_none e h)]; exact e⟩, n, by rw [upd_ne (ne_of_none en h)]; exact en⟩
theorem Rolls.put {r sp p : Addr} {H : Hp} {o : HO} (R : Rolls r sp H) (h1 : r ≠ p) (h2 : sp ≠ p) : Rolls r sp (upd H p o) := by
  obtain ⟨ne, ⟨ns, ok, e⟩, n, en⟩ := R
  exact ⟨ne, ⟨ns, ok, by rw [upd_ne h1]; exact e⟩, n, by rw [upd_ne h2]; exact en⟩
theorem Rolls.row {K : PySem.W.Frag} {r sp : Addr} {H : Hp} (R : Rolls r sp H) : ∃ ns : List Int, RowOk ns ∧ SqL K H r (ns.map V.int) := by
  obtain ⟨_, ⟨ns, ok, e⟩, _⟩ := R
  exact ⟨ns, ok, SqL.of e⟩
/-! ### promises of the law's own helpers -/
/-- _law_numbers(script): a new list of drawn numbers -/
def spNumbers (K : PySem.W.Frag) : Sp := fun vs H Q _ => ∃ (a : Addr) (ns : List Int), vs = [.ref a] ∧ SqL K H a (ns.map V.int) ∧ ns.length ≤ 63 ∧ (∀ z ∈ ns, Builtin.Int.intBits z ≤ 1048576) ∧
  ∀ (H' : Hp) (r : Addr) (ms : List Int), Same H H' → H r = none → RowOk ms → H' r = some (.lst (ms.map V.int)) → Q (.ref r) H'
/-- _law_draw(row, at, limit) -/
def spDraw (K : PySem.W.Frag) : Sp := fun vs H Q _ => ∃ (r : Addr) (ns : List Int) (n : Nat) (lim : Int), vs = [.ref r, .int n, .int lim] ∧ SqL K H r (ns.map V.int) ∧ RowOk ns ∧ 0 < lim ∧
  ∀ x : Int, 0 ≤ x → x < lim → Q (.int x) H
/-- _law_take(row, spot, limit) -/
def spTake : Sp := fun vs H Q _ => ∃ (r sp : Addr) (lim : Int), vs = [.ref r, .ref sp, .int lim] ∧ Rolls r sp H ∧ 0 < lim ∧
  ∀ (x : Int) (H' : Hp), 0 ≤ x → x < lim → Grow sp H H' → Rolls r sp H' → (∀ b, b ≠ sp → H' b = H b) → Q (.int x) H'
end Mw
set_option Elab.async false
set_option linter.all false
set_option maxRecDepth 100000
/-! Data of None, bools, ints, texts and tuples; the promise of the law's own comparison. -/
namespace Mw
open PySem L2
/-- None, bools, ints, texts, tuples of these, at most so deep -/
inductive Td : Nat → PyData → Prop where
  | non {n : Nat} : Td n .none
  | bl {n : Nat} (b : Bool) : Td n (.bool b)
  | int {n : Nat} (i : Int) : Td n (.int i)
  | str {n : Nat} (x : Str) : Td n (.str x)
  | tup {n : Nat} {ds : List PyData} (z : ds.length ≤ 1000) (h : ∀ d ∈ ds, Td n d) : Td (n + 1) (.tuple ds)
theorem Td.mono {n m : Nat} {d : PyData} (h : Td n d) (k : n ≤ m) : Td m d := by
  induction h generalizing m with
  | non => exact .non
  | bl b => exact .bl b
  | int i => exact .int i
  | str x => exact .str x
  | tup z _ ih =>
    obtain ⟨m', rfl⟩ : ∃ m', m = m' + 1 := ⟨m - 1, by omega⟩
    exact .tup z fun d hd => ih d hd (by omega)
section
variable {K : PySem.W.Frag} {H H' : Hp}
theorem Rd.same {a : Addr} {u : HO} (e : Same H H') (h : Rd H a u) : Rd H' a u := by
  rcases h with h | ⟨o, h⟩
  · exact .inl (e _ _ h)
  · exact .inr ⟨o, e _ _ h⟩
theorem sqT_same {a : Addr} {xs : List V} (e : Same H H') (h : SqT K H a xs) : SqT K H' a xs := by
  rcases h with h | h
  · exact .inl (Rd.same e h)
  · exact .inr h
theorem ty_tup {a : Addr} {xs : List V} (h : SqT K H a xs) : TyX K H (.ref a) (.type "tuple") := by
  rcases h with (h | ⟨o, h⟩) | ⟨o, its, n, h, c, _⟩
  · exact .base (.tup h)
  · exact .fTuple h
  · exact .kTuple h c
theorem ty_lst {a : Addr} {xs : List V} (h : SqL K H a xs) : TyX K H (.ref a) (.type "list") := by
  rcases h with (h | ⟨o, h⟩) | ⟨o, its, n, h, c, _⟩
  · exact .base (.lst h)
  · exact .base (.frz h)
  · exact .kList h c
theorem dpAll_len : ∀ {vs : List V} {ds : List PyData}, DpAll K H vs ds → vs.length = ds.length
  | _, _, .nil => rfl
  | _, _, .cons _ t => by rw [List.length_cons, List.length_cons, dpAll_len t]
theorem dpAll_get : ∀ {vs : List V} {ds : List PyData} {k : Nat} {d : PyData}, DpAll K H vs ds → ds[k]? = some d → ∃ v, vs[k]? = some v ∧ Dp K H v d
  | _, _, _, _, .nil, h => by simp at h
  | _, _, 0, d, .cons h _, e => by simp at e; subst e; exact ⟨_, rfl, h⟩
  | _, _, k + 1, d, .cons _ t, e => by
    obtain ⟨v, h1, h2⟩ := dpAll_get (k := k) t (by simpa using e)
    exact ⟨v, by simpa using h1, h2⟩
theorem dpAll_append : ∀ {vs ws : List V} {ds es : List PyData}, DpAll K H vs ds → DpAll K H ws es → DpAll K H (vs ++ ws) (ds ++ es)
  | _, _, _, _, .nil, k => k
  | _, _, _, _, .cons h t, k => .cons h (dpAll_append t k)
theorem dpAll_one {v : V} {d : PyData} (h : Dp K H v d) : DpAll K H [v] [d] := .cons h .nil
mutual
theorem dp_same (e : Same H H') : ∀ {d : PyData} {v : V}, Dp K H v d → Dp K H' v d
  | _, _, .non => .non
  | _, _, .bl b => .bl b
  | _, _, .int i => .int i
  | _, _, .str x => .str x
  | _, _, .lst h t => .lst (e.seq h) (dpAll_same e t)
  | _, _, .tup h t => .tup (sqT_same e h) (dpAll_same e t)
theorem dpAll_same (e : Same H H') : ∀ {ds : List PyData} {vs : List V}, DpAll K H vs ds → DpAll K H' vs ds
  | _, _, .nil => .nil
  | _, _, .cons h t => .cons (dp_same e h) (dpAll_same e t)
end
end
/-- _law_so(found, meant): the same data below depth n: True -/
def spSo (K : PySem.W.Frag) (n : Nat) : Sp := fun vs H Q _ => ∃ (x y : V) (d : PyData) (m : Nat), vs = [x, y] ∧ Dp K H x d ∧ Dp K H y d ∧ Td m d ∧ m < n ∧ Q (.bl true) H
theorem eq_self {x : V} : (if decide (x = x) = true then True else False) := by simp
theorem Def.never {P : Program} {w : World} {K : PySem.W.Frag} {mg : Str → Option Value} {base : Heap} {CX : CXT} {x : Str} {st : Stmt} {ps : List Str} {k : Nat} {sp : Sp} (D : Def K mg x st ps) (hn : ∀ vs H Q E, ¬ sp vs H Q E) : Cal P w K mg base CX x k ps sp := by
  obtain ⟨f, fd, g, F, b⟩ := D
  exact ⟨f, fd, g, F.kp, b, fun vs H Q E h => absurd h (hn _ _ _ _), fun _ _ _ _ _ _ _ _ _ _ _ _ _ h => absurd h (hn _ _ _ _)⟩
end Mw
set_option Elab.async false
set_option linter.all false
set_option maxRecDepth 100000
set_option maxHeartbeats 2000000
/-! What stands as a list or as a tuple: walked, enumerated, unpacked. -/
namespace Mw
open PySem L2
/-- a list or a tuple at a -/
def Seq (K : PySem.W.Frag) (H : Hp) (a : Addr) (xs : List V) : Prop := SqL K H a xs ∨ SqT K H a xs
theorem Seq.same {K : PySem.W.Frag} {H H' : Hp} {a : Addr} {xs : List V} (e : Same H H') (h : Seq K H a xs) : Seq K H' a xs := by
  rcases h with h | h
  · exact .inl (e.seq h)
  · exact .inr (sqT_same e h)
/-! ### enumerate(v), v a list or a tuple -/
set_option maxHeartbeats 1000000 in
theorem meets_enum1 {v : Value} {o : Obj} {G : Heap → Prop} (B : Begins v o G) :
    Meets (Builtin.«enumerate.__new__» ⟨[.type "enumerate", v], []⟩) (fun _ R s => G s.heap ∧
      R (.ok (.ret (.ref (s.heap.push o).objs.size))) { s with heap := (s.heap.push o).push { cls := .type "enumerate", data := .fields #[.none, .bool false, .ref s.heap.objs.size, rawInt 0, .none, .none] } }) :=
  .of_wp fun prog w A R s h => by
    obtain ⟨hp, g, d, tk, os⟩ := s
    obtain ⟨g1, h⟩ := h
    have hsub9 := sub_enumerate
    have it9 : ∀ {A' : Around} {E : Value → Shared → Prop} {Q : Value → Shared → Prop}, Q (.ref hp.objs.size) ⟨hp.push o, g, d, tk, os⟩ → wpAny (model prog w) A' (pyIter v) Q E ⟨hp, g, d, tk, os⟩ :=
      fun q => B.iter prog w _ _ ⟨hp, g, d, tk, os⟩ _ g1 q
    wp_walk using it9
    refine wpAny_stack_any fun st => wpAny_pure ?_
    split
    · rename_i c _ _ _ _ _
      cases (c == Value.type "enumerate")
      · wp_walk using it9
        exact ⟨_, rfl, h⟩
      · wp_walk using it9
        exact ⟨_, rfl, h⟩
    · wp_walk using it9
      exact ⟨_, rfl, h⟩
theorem enum1_begins {prog : Program} {w : World} {A : Around} {E : Value → Shared → Prop} {s : Shared} {v : Value} {o : Obj} {G : Heap → Prop} {Q : Value → Shared → Prop} (B : Begins v o G) (g1 : G s.heap)
    (h : ∀ h', IsEnum h' (s.heap.objs.size + 1) s.heap.objs.size 0 .none → h'.get? s.heap.objs.size = some o → h'.objs.size = s.heap.objs.size + 2 →
      (∀ b o, s.heap.get? b = some o → h'.get? b = some o) → Q (.ref (s.heap.objs.size + 1)) { s with heap := h' }) :
    wpAny (model prog w) A (call (.type "enumerate") [v]) Q E s := by
  refine callType_new F.called_enumerate (by decide) (F.typeCall_enumerate_1 _) (F.newCall_enumerate_1 _) (fun obj => F.args_object_init_2 obj _) F.entry_enumerate_new (meets_enum1 B) ⟨g1, ?_⟩
  have z9 : (s.heap.push o).objs.size = s.heap.objs.size + 1 := Heap.size_push ..
  show _ ∧ _
  rw [z9]
  have he : IsEnum ((s.heap.push o).push { cls := .type "enumerate", data := .fields #[.none, .bool false, .ref s.heap.objs.size, rawInt 0, .none, .none] }) (s.heap.objs.size + 1) s.heap.objs.size 0 .none := by
    have y9 := Heap.get?_push_size (s.heap.push o) (o := { cls := .type "enumerate", data := .fields #[.none, .bool false, .ref s.heap.objs.size, rawInt 0, .none, .none] }) rfl
    rw [z9] at y9; exact y9
  exact ⟨⟨_, he, rfl⟩, h _ he (Heap.get?_push_of_some _ (Heap.get?_push_size _ B.free)) (by rw [Heap.size_push, z9]) fun b o x => Heap.get?_push_of_some _ (Heap.get?_push_of_some _ x)⟩
/-- the tuple at a, each item in a new pair -/
def IteT (K : PySem.W.Frag) (a : Addr) : It :=
  ⟨fun i H => ∃ (xs : List V) (x : V), SqT K H a xs ∧ xs[i]? = some x, fun i H v H' => ∃ T x, v = .ref T ∧ H T = none ∧ H' = upd H T (.tup [.int (i : Nat), x]) ∧ ∀ xs, SqT K H a xs → xs[i]? = some x, fun i H => ∃ xs : List V, SqT K H a xs ∧ xs.length ≤ i⟩
theorem turn_enumT {P : Program} {w : World} {K : PySem.W.Frag} {elts : List Expr} {kk : Nat} {tpos : Pos} (a e it : Addr) (hae : a ≠ e) (hai : a ≠ it) :
    Turn P w K (.Tuple elts kk tpos) (IteT K a) [e, it] e (fun i h => (∃ old, IsEnum h e it ((i : Nat) : Int) old) ∧ h.IsTupleIter it a i ∧ e ≠ it) where
  mem := List.mem_cons_self
  obj := fun i h st b hb => by
    obtain ⟨⟨old, he⟩, ⟨o, ho, hc, hd⟩, _⟩ := st
    have c9 : b = e ∨ b = it := by simpa using hb
    rcases c9 with rfl | rfl
    · exact ⟨_, he, fun v q => nomatch q⟩
    · exact ⟨o, ho, fun v q => by rw [hd] at q; cases q⟩
  keep := fun i h h' st k => let ⟨⟨old, he⟩, hi, hne⟩ := st; ⟨⟨old, k e (by simp) _ he⟩, hi.at fun o q => k it (by simp) o q, hne⟩
  item := by
    intro X hP hw hK hc i pins s σ H E I hf st hg
    subst hP hw hK
    obtain ⟨⟨old, he⟩, hit, hne⟩ := st
    obtain ⟨xs, x, hq, hx⟩ := hg
    obtain ⟨its, rv, p, hz⟩ := I.tuple hq
    obtain ⟨u, hu, ru⟩ := rv.get hx
    have le : e < s.heap.objs.size := Heap.lt_size he
    have li : it < s.heap.objs.size := by obtain ⟨_, q, _⟩ := hit; exact Heap.lt_size q
    have tp : s.heap.IsTuple a its.toArray := p
    have D9 := Draws.tuple (prog := X.prog) (w := X.w) (A := X.A.in1) (I.ok.hd hc) it a hai its.toArray
    have hlt : i < its.toArray.size := by
      have := (List.getElem?_eq_some_iff.mp hu).1
      simpa using this
    refine wpAny_pyNext_enum_itemD D9 he ⟨hit, tp⟩ hlt hne (by simp [hne, hae.symm]) fun u' h' tk hp' ho st' hT hsz hk => ?_
    have eu : u' = u := by
      have q9 : its[i]? = some u' := by simpa using hp'
      rw [hu] at q9; exact (Option.some.inj q9).symm
    subst eu
    refine ⟨_, rfl, wpAny_letOwnedTupleGo_enum (s := { s with heap := h', toks := tk + 1 }) ho fun h'' he' sb => ?_⟩
    have hT2 : h''.get? s.heap.objs.size = some { cls := .type "tuple", data := .seq #[.int i tk, u'] } := (sb.2 _ (Nat.ne_of_gt le)).trans hT
    have new : ObjOk X.prog X.w (upd H s.heap.objs.size (.tup [.int (i : Nat), x])) h'' s.heap.objs.size (.tup [.int (i : Nat), x]) :=
      ⟨by show 2 ≤ sizeLine; decide, [.int i tk, u'], .cons ⟨_, rfl⟩ (.cons ru .nil), ⟨_, hT2, rfl, _, rfl⟩⟩
    have I1 : Inv X pins σ (upd H s.heap.objs.size (.tup [.int (i : Nat), x])) { s with heap := h'', toks := tk + 1 } :=
      I.turnedNew (ch := [e, it]) (fun b ob hb q => (sb.2 b (fun z => hb (by simp [z]))).trans (hk b ob (fun z => hb (by simp [z])) (fun z => hb (by simp [z])) q)) hf (Nat.le_refl _) new
    refine ⟨.ref s.heap.objs.size, _, I1, rfl, ⟨_, x, rfl, I.hok.fresh (Nat.le_refl _), rfl, fun ys hy => by rw [I.tuple_inj hy hq]; exact hx⟩, ⟨⟨u', ?_⟩, st'.1.at fun o q => (sb.2 it (Ne.symm hne)).trans q, hne⟩, fun b hb => ?_⟩
    · have e1 : ((i + 1 : Nat) : Int) = (i : Int) + 1 := by omega
      rw [e1]; exact he'
    · have c9 : b = e ∨ b = it := by simpa using hb
      have hb9 : b < s.heap.objs.size := by rcases c9 with rfl | rfl <;> assumption
      rw [upd_ne (Nat.ne_of_lt hb9)]
      exact (hf b hb).1
  done := by
    intro X hP hw hK hc i pins s σ H E I hf st hg
    subst hP hw hK
    obtain ⟨⟨old, he⟩, hit, hne⟩ := st
    obtain ⟨xs, hq, hx⟩ := hg
    obtain ⟨its, rv, p, hz⟩ := I.tuple hq
    obtain ⟨f0, f1, f2, f3, f4, f5⟩ := hf it (by simp)
    have hl := rv.length
    have tp : s.heap.IsTuple a its.toArray := p
    have hT : s.TypeIs (.ref e) "enumerate" := ⟨_, he, rfl⟩
    unfold pyNext
    refine wpAny_bind (wpAny_attempt (wpAny_callSpecial?_slot (name := Str.ofString "__next__") hT F.slot_enumerate_next (wpAny_call_entry F.slot_enumerate_next hT F.entry_enumerate_next ?_ (F.args_enumerate_next_1 _))))
    show wpAny _ _ (field (.ref e) 2 >>= _) _ _ _
    refine wpAny_bind (wpAny_field he rfl (x := .ref it) rfl (wpAny_bind (wpAny_nextOf_tuple_end (I.ok.hd hc) hit tp (by simp; omega) fun h' x eb hx' => ?_)))
    obtain ⟨o, ho, hc⟩ := hx'
    refine wpAny_bind (wpAny_isInstance (T := "StopIteration") (b := true) ⟨o, ho, hc⟩ isSubtype_stop (wpAny_pure ?_))
    exact ⟨rfl, I.turned (t' := s.toks) (fun b o hb q => eb b o hb q) f0 f1 f3 f4 f5⟩
  self := fun A i s Q E st h => let ⟨⟨_, he⟩, _⟩ := st; wpAny_pyIter_enum he h
/-- enumerate(e), e a list or a tuple -/
def iEnumS (K : PySem.W.Frag) (ta : TA) : TI := fun σ H R => ta σ H fun vs H1 => ∃ a xs, vs = [.ref a] ∧ ((SqL K H1 a xs ∧ R (Ite K a) H1) ∨ (SqT K H1 a xs ∧ R (IteT K a) H1))
theorem pi_enumS {X : Cx} {e : Expr} {ta : TA} {p pos tpos : Pos} {elts : List Expr} {kk : Nat} (hg : Gl X "enumerate") (hm : X.mg "enumerate" = none) (ha : PA X [e] ta) (hs : starEach [e] X.env = [(false, eval e X.env)] := by rfl) :
    PI X (.Tuple elts kk tpos) (.Call (.Name "enumerate" p) [e] [] pos) (iEnumS X.K ta) := by
  refine ⟨fun pins s σ H R I h => ?_⟩
  refine PyProof.Rows.Call_ (ld_blt I hg hm PyProof.Rows.boot_enumerate (PyProof.Rows.callWith_type1 (thn (ha.run pos pins s σ H _ I h) fun us s1 ⟨vs, H1, I1, r1, a, xs, ex, q1⟩ => ?_) hs rfl))
  subst ex
  cases r1 with
  | cons r rr =>
    cases rr
    cases r
    rcases q1 with ⟨hq, q⟩ | ⟨hq, q⟩
    · obtain ⟨its, rv, p', hz⟩ := I1.list hq
      refine call_enumerate_list p'.isList fun h' he hit hsz hk => wpAny_pyIter_enum he ?_
      have I2 : Inv X pins σ H1 { s1 with heap := h' } := I1.kept (t' := s1.toks) hk
      refine ⟨s1.heap.objs.size + 1, [s1.heap.objs.size + 1, s1.heap.objs.size], _, _, H1, rfl, I2, turn_enum a (s1.heap.objs.size + 1) s1.heap.objs.size, ⟨⟨.none, he⟩, hit, Nat.succ_ne_self _⟩, fun b hb => ?_, q⟩
      have c9 : b = s1.heap.objs.size + 1 ∨ b = s1.heap.objs.size := by simpa using hb
      have l9 : s1.heap.objs.size ≤ b := by rcases c9 with rfl | rfl <;> omega
      exact I1.fpOk l9 (I1.hok.fresh l9)
    · obtain ⟨its, rv, p', hz⟩ := I1.tuple hq
      have tp : s1.heap.IsTuple a its.toArray := p'
      have la : a < s1.heap.objs.size := p'.lt
      refine enum1_begins (begins_tuple a its.toArray) tp fun h' he hg' hsz hk => wpAny_pyIter_enum he ?_
      have I2 : Inv X pins σ H1 { s1 with heap := h' } := I1.kept (t' := s1.toks) hk
      refine ⟨s1.heap.objs.size + 1, [s1.heap.objs.size + 1, s1.heap.objs.size], _, _, H1, rfl, I2, turn_enumT a (s1.heap.objs.size + 1) s1.heap.objs.size (Nat.ne_of_lt (Nat.lt_succ_of_lt la)) (Nat.ne_of_lt la), ⟨⟨.none, he⟩, ⟨_, hg', rfl, rfl⟩, Nat.succ_ne_self _⟩, fun b hb => ?_, q⟩
      have c9 : b = s1.heap.objs.size + 1 ∨ b = s1.heap.objs.size := by simpa using hb
      have l9 : s1.heap.objs.size ≤ b := by rcases c9 with rfl | rfl <;> omega
      exact I1.fpOk l9 (I1.hok.fresh l9)
/-- x of l, l a list or a tuple -/
def iSeq (K : PySem.W.Frag) (tl : TE) : TI := fun σ H R => tl σ H fun x H1 => ∃ a xs, x = .ref a ∧ ((SqL K H1 a xs ∧ R (Itl K a) H1) ∨ (SqT K H1 a xs ∧ R (Itt K a) H1))
theorem pi_seq {X : Cx} {tg l : Expr} {tl : TE} (hl : PE X l tl) : PI X tg l (iSeq X.K tl) := by
  refine ⟨fun pins s σ H R I h => thn (hl.run pins s σ H _ I h) fun v s1 ⟨x, H1, I1, r1, a, xs, ex, q1⟩ => ?_⟩
  subst ex
  cases r1
  rcases q1 with ⟨hq, q⟩ | ⟨hq, q⟩
  · obtain ⟨its, rv, p, hz⟩ := I1.list hq
    refine wpAny_pyIter_list p.isList ⟨s1.heap.objs.size, [s1.heap.objs.size], _, _, H1, rfl, I1.kept (t' := s1.toks) fun b o e => Heap.get?_push_of_some _ e, turn_list a _, ⟨_, Heap.get?_push_size _ rfl, rfl, rfl⟩, fun b hb => ?_, q⟩
    obtain rfl : b = s1.heap.objs.size := by simpa using hb
    exact I1.fpOk (Nat.le_refl _) (I1.hok.fresh (Nat.le_refl _))
  · obtain ⟨its, rv, p, hz⟩ := I1.tuple hq
    refine wpAny_pyIter_tuple (show s1.heap.IsTuple a its.toArray from p) ⟨s1.heap.objs.size, [s1.heap.objs.size], _, _, H1, rfl, I1.kept (t' := s1.toks) fun b o e => Heap.get?_push_of_some _ e, turn_tuple a _, ⟨_, Heap.get?_push_size _ rfl, rfl, rfl⟩, fun b hb => ?_, q⟩
    obtain rfl : b = s1.heap.objs.size := by simpa using hb
    exact I1.fpOk (Nat.le_refl _) (I1.hok.fresh (Nat.le_refl _))
/-- (a, b, ..) = a list or a tuple of that length -/
def gSeq (K : PySem.W.Frag) (n : Nat) (t : TGs) : TG := fun v σ H Q => ∃ a xs, v = .ref a ∧ Seq K H a xs ∧ xs.length = n ∧ t xs σ H Q
theorem pg_seq {X : Cx} {es : List Expr} {k : Nat} {pos : Pos} {t : TGs} {n : Nat} (hc : X.calm = true) (h : PGs X es t) (hn : (assignEach es X.env).length = n := by rfl) (hst : (assignEach es X.env).findIdx? (·.1) = none := by rfl) :
    PG X (.Tuple es k pos) (gSeq X.K n t) := by
  refine ⟨fun pins s σ H v u Q I r hw => ?_⟩
  obtain ⟨a, xs, e1, hq | hq, hl, hw⟩ := hw
  · exact (pg_lst (pos := pos) (k := k) hc h hn hst).run pins s σ H v u Q I r ⟨a, xs, e1, hq, hl, hw⟩
  · exact (pg_tup (pos := pos) (k := k) hc h hn hst).run pins s σ H v u Q I r ⟨a, xs, e1, hq, hl, hw⟩
end Mw
set_option Elab.async false
set_option linter.all false
set_option maxRecDepth 100000
set_option maxHeartbeats 2000000
/-! Values of any kind as data: what the program's looks at them say. -/
namespace Mw
open PySem L2
/-- None, bools, ints, texts, lists and tuples of these, at most so deep, none of them longer than 1000 -/
inductive Wf : Nat → PyData → Prop where
  | non {n : Nat} : Wf n .none
  | bl {n : Nat} (b : Bool) : Wf n (.bool b)
  | int {n : Nat} (i : Int) : Wf n (.int i)
  | str {n : Nat} (x : Str) : Wf n (.str x)
  | lst {n : Nat} {ds : List PyData} (z : ds.length ≤ 1000) (h : ∀ d ∈ ds, Wf n d) : Wf (n + 1) (.list ds)
  | tup {n : Nat} {ds : List PyData} (z : ds.length ≤ 1000) (h : ∀ d ∈ ds, Wf n d) : Wf (n + 1) (.tuple ds)
theorem Wf.mono {n m : Nat} {d : PyData} (h : Wf n d) (k : n ≤ m) : Wf m d := by
  induction h generalizing m with
  | non => exact .non
  | bl b => exact .bl b
  | int i => exact .int i
  | str x => exact .str x
  | lst z _ ih =>
    obtain ⟨m', rfl⟩ : ∃ m', m = m' + 1 := ⟨m - 1, by omega⟩
    exact .lst z fun d hd => ih d hd (by omega)
  | tup z _ ih =>
    obtain ⟨m', rfl⟩ : ∃ m', m = m' + 1 := ⟨m - 1, by omega⟩
    exact .tup z fun d hd => ih d hd (by omega)
theorem Td.wf {n : Nat} {d : PyData} (h : Td n d) : Wf n d := by
  induction h with
  | non => exact .non
  | bl b => exact .bl b
  | int i => exact .int i
  | str x => exact .str x
  | tup z _ ih => exact .tup z ih
/-- the members of a list or tuple -/
def dItems : PyData → Option (List PyData)
  | .list xs => some xs
  | .tuple xs => some xs
  | _ => none
def dInt : PyData → Bool
  | .int _ => true
  | _ => false
def dBool : PyData → Bool
  | .bool _ => true
  | _ => false
def dBtw (d : PyData) (lo hi : Int) : Bool := match d with
  | .int i => decide (lo ≤ i) && decide (i ≤ hi)
  | _ => false
def dNum (d : PyData) (n : Int) : Bool := dBtw d 0 (n - 1)
def dSeq (d : PyData) : Bool := (dItems d).isSome
def dRow (d : PyData) (lo hi : Int) : Bool := match dItems d with
  | some xs => decide (lo ≤ (xs.length : Int)) && decide ((xs.length : Int) ≤ hi)
  | none => false
def dAll (f : PyData → Bool) (d : PyData) : Bool := match dItems d with
  | some xs => xs.all f
  | none => false
/-- each less than the next -/
def ascI : List Int → Bool
  | a :: b :: r => decide (a < b) && ascI (b :: r)
  | _ => true
def dVal : PyData → Int
  | .int i => i
  | _ => 0
def dFacts (d : PyData) (n : Int) : Bool := dRow d n n && dAll dBool d
def dNums (d : PyData) (n : Int) : Bool := dAll (fun e => dNum e n) d
def dAscNums (d : PyData) (n : Int) : Bool := dNums d n && ascI (((dItems d).getD []).map dVal)
def dAt (d : PyData) (i : Nat) : PyData := ((dItems d).getD []).getD i .none
def dWanted (d : PyData) (n : Int) : Bool := dRow d 2 2 && (dNum (dAt d 0) n && dBool (dAt d 1))
def dCond (d : PyData) (n : Int) : Bool := dAll (fun e => dWanted e n) d && ascI (((dItems d).getD []).map fun e => dVal (dAt e 0))
mutual
/-- the same with tuples in the place of lists -/
def dPlain : PyData → PyData
  | .list xs => .tuple (dPlains xs)
  | .tuple xs => .tuple (dPlains xs)
  | .none => .none
  | .bool b => .bool b
  | .int i => .int i
  | .str x => .str x
  | .dict kvs => .dict kvs
def dPlains : List PyData → List PyData
  | [] => []
  | x :: xs => dPlain x :: dPlains xs
end
theorem dPlains_map : ∀ xs : List PyData, dPlains xs = xs.map dPlain
  | [] => rfl
  | x :: xs => by rw [List.map_cons, ← dPlains_map xs]; rfl
/-- the class of data -/
def tyD : PyData → String
  | .none => "NoneType"
  | .bool _ => "bool"
  | .int _ => "int"
  | .str _ => "str"
  | .list _ => "list"
  | .tuple _ => "tuple"
  | .dict _ => "dict"
section
variable {K : PySem.W.Frag} {H : Hp}
theorem dp_ty {x : V} {d : PyData} (h : Dp K H x d) : TyX K H x (.type (tyD d)) := by
  cases h with
  | non => exact .base .non
  | bl b => exact .base (.bl b)
  | int i => exact .base (.int i)
  | str x => exact .base (.str x)
  | lst h _ => exact ty_lst h
  | tup h _ => exact ty_tup h
theorem dp_items {x : V} {d : PyData} {ds : List PyData} (h : Dp K H x d) (e : dItems d = some ds) : ∃ a xs, x = .ref a ∧ Seq K H a xs ∧ DpAll K H xs ds := by
  cases h with
  | non => cases e
  | bl b => cases e
  | int i => cases e
  | str x => cases e
  | lst h t => cases e; exact ⟨_, _, rfl, .inl h, t⟩
  | tup h t => cases e; exact ⟨_, _, rfl, .inr h, t⟩
theorem wf_items {n : Nat} {d : PyData} {ds : List PyData} (w : Wf n d) (e : dItems d = some ds) : ds.length ≤ 1000 ∧ ∃ m, n = m + 1 ∧ ∀ x ∈ ds, Wf m x := by
  cases w with
  | non => cases e
  | bl b => cases e
  | int i => cases e
  | str x => cases e
  | lst z h => cases e; exact ⟨z, _, rfl, h⟩
  | tup z h => cases e; exact ⟨z, _, rfl, h⟩
theorem kit_int {x : V} {d : PyData} (h : Dp K H x d) : PySem.W.kitOne K (.type (tyD d)) (.type "int") = some (dInt d || dBool d) := by
  cases h with
  | non => exact kit_ty (show kitB "NoneType" "int" = some false by decide +kernel)
  | bl b => exact kit_ty (show kitB "bool" "int" = some true by decide +kernel)
  | int i => exact kit_ty (show kitB "int" "int" = some true by decide +kernel)
  | str x => exact kit_ty (show kitB "str" "int" = some false by decide +kernel)
  | lst h t => exact kit_ty (show kitB "list" "int" = some false by decide +kernel)
  | tup h t => exact kit_ty (show kitB "tuple" "int" = some false by decide +kernel)
theorem kit_bool {x : V} {d : PyData} (h : Dp K H x d) : PySem.W.kitOne K (.type (tyD d)) (.type "bool") = some (dBool d) := by
  cases h with
  | non => exact kit_ty (show kitB "NoneType" "bool" = some false by decide +kernel)
  | bl b => exact kit_ty (show kitB "bool" "bool" = some true by decide +kernel)
  | int i => exact kit_ty (show kitB "int" "bool" = some false by decide +kernel)
  | str x => exact kit_ty (show kitB "str" "bool" = some false by decide +kernel)
  | lst h t => exact kit_ty (show kitB "list" "bool" = some false by decide +kernel)
  | tup h t => exact kit_ty (show kitB "tuple" "bool" = some false by decide +kernel)
def dTup : PyData → Bool
  | .tuple _ => true
  | _ => false
theorem kit_tuple {x : V} {d : PyData} (h : Dp K H x d) : PySem.W.kitOne K (.type (tyD d)) (.type "tuple") = some (dTup d) := by
  cases h with
  | non => exact kit_ty (show kitB "NoneType" "tuple" = some false by decide +kernel)
  | bl b => exact kit_ty (show kitB "bool" "tuple" = some false by decide +kernel)
  | int i => exact kit_ty (show kitB "int" "tuple" = some false by decide +kernel)
  | str x => exact kit_ty (show kitB "str" "tuple" = some false by decide +kernel)
  | lst h t => exact kit_ty (show kitB "list" "tuple" = some false by decide +kernel)
  | tup h t => exact kit_ty (show kitB "tuple" "tuple" = some true by decide +kernel)
theorem kit_seq {x : V} {d : PyData} (h : Dp K H x d) : PySem.W.kitAny K (.type (tyD d)) [.type "list", .type "tuple"] = some (dSeq d) := by
  cases h with
  | non => exact kitAny_cons (b := false) (kit_ty (show kitB "NoneType" "list" = some false by decide +kernel)) (fun _ => kitAny_cons (b := false) (kit_ty (show kitB "NoneType" "tuple" = some false by decide +kernel)) (fun _ => kitAny_nil) fun z => nomatch z) fun z => nomatch z
  | bl b => exact kitAny_cons (b := false) (kit_ty (show kitB "bool" "list" = some false by decide +kernel)) (fun _ => kitAny_cons (b := false) (kit_ty (show kitB "bool" "tuple" = some false by decide +kernel)) (fun _ => kitAny_nil) fun z => nomatch z) fun z => nomatch z
  | int i => exact kitAny_cons (b := false) (kit_ty (show kitB "int" "list" = some false by decide +kernel)) (fun _ => kitAny_cons (b := false) (kit_ty (show kitB "int" "tuple" = some false by decide +kernel)) (fun _ => kitAny_nil) fun z => nomatch z) fun z => nomatch z
  | str x => exact kitAny_cons (b := false) (kit_ty (show kitB "str" "list" = some false by decide +kernel)) (fun _ => kitAny_cons (b := false) (kit_ty (show kitB "str" "tuple" = some false by decide +kernel)) (fun _ => kitAny_nil) fun z => nomatch z) fun z => nomatch z
  | lst h t => exact kitAny_cons (b := true) (kit_ty (show kitB "list" "list" = some true by decide +kernel)) (fun z => nomatch z) fun _ => rfl
  | tup h t => exact kitAny_cons (b := false) (kit_ty (show kitB "tuple" "list" = some false by decide +kernel)) (fun _ => kitAny_cons (b := true) (kit_ty (show kitB "tuple" "tuple" = some true by decide +kernel)) (fun z => nomatch z) fun _ => rfl) fun z => nomatch z
/-- bools as data -/
theorem bools_of : ∀ {vs : List V} {bs : List Bool}, DpAll K H vs (bs.map PyData.bool) → vs = bs.map V.bl
  | _, [], .nil => rfl
  | _, b :: bs, .cons h t => by cases h; rw [List.map_cons, bools_of t]
theorem ints_of : ∀ {vs : List V} {is : List Int}, DpAll K H vs (is.map PyData.int) → vs = is.map V.int
  | _, [], .nil => rfl
  | _, b :: bs, .cons h t => by cases h; rw [List.map_cons, ints_of t]
theorem dpAll_bools : ∀ bs : List Bool, DpAll K H (bs.map V.bl) (bs.map PyData.bool)
  | [] => .nil
  | b :: bs => .cons (.bl b) (dpAll_bools bs)
theorem dpAll_ints : ∀ is : List Int, DpAll K H (is.map V.int) (is.map PyData.int)
  | [] => .nil
  | b :: bs => .cons (.int b) (dpAll_ints bs)
end
theorem take_succ_of {α : Type} {l : List α} {i : Nat} {x : α} (h : l[i]? = some x) : l.take (i + 1) = l.take i ++ [x] := by
  rw [List.take_add_one, h]; rfl
/-- data without lists does not lean on a tracked list -/
theorem dp_put {K : PySem.W.Frag} {D : Addr} {acc acc' : List V} {n : Nat} {d : PyData} (t : Td n d) : ∀ {H : Hp} {v : V}, H D = some (.lst acc) → Dp K H v d → Dp K (upd H D (.lst acc')) v d := by
  induction t with
  | non => intro H v _ h; cases h; exact .non
  | bl b => intro H v _ h; cases h; exact .bl b
  | int i => intro H v _ h; cases h; exact .int i
  | str x => intro H v _ h; cases h; exact .str x
  | @tup n ds z _ ih =>
    intro H v hD h
    cases h with
    | @tup a xs _ hs ha =>
      have hs' : SqT K (upd H D (.lst acc')) a xs := by
        rcases hs with (e | ⟨o, e⟩) | e
        · exact .inl (.inl (by rw [upd_ne (fun q => by rw [q, hD] at e; cases e)]; exact e))
        · exact .inl (.inr ⟨o, by rw [upd_ne (fun q => by rw [q, hD] at e; cases e)]; exact e⟩)
        · exact .inr e
      refine .tup hs' ?_
      clear hs hs' z
      have all : ∀ (ds' : List PyData) (vs : List V), (∀ d ∈ ds', d ∈ ds) → DpAll K H vs ds' → DpAll K (upd H D (.lst acc')) vs ds' := by
        intro ds'
        induction ds' with
        | nil => intro vs _ h; cases h; exact .nil
        | cons e r ihr =>
          intro vs hm h
          cases h with
          | cons h1 h2 => exact .cons (ih e (hm e List.mem_cons_self) hD h1) (ihr _ (fun d hd => hm d (List.mem_cons_of_mem _ hd)) h2)
      exact all ds xs (fun _ h => h) ha
theorem dpAll_put {K : PySem.W.Frag} {D : Addr} {acc acc' : List V} {H : Hp} : ∀ {ds : List PyData} {vs : List V}, (∀ d ∈ ds, ∃ n, Td n d) → H D = some (.lst acc) → DpAll K H vs ds → DpAll K (upd H D (.lst acc')) vs ds
  | [], _, _, _, h => by cases h; exact .nil
  | d :: ds, _, ht, hD, h => by
    cases h with
    | cons h1 h2 =>
      obtain ⟨n, t⟩ := ht d List.mem_cons_self
      exact .cons (dp_put t hD h1) (dpAll_put (fun e he => ht e (List.mem_cons_of_mem _ he)) hD h2)
/-- the reading of [e for x in value], each element data made of the item -/
theorem lc_dp {K : PySem.W.Frag} {a : Addr} {xs : List V} {ds : List PyData} (F : PyData → PyData) {i0 : Nat} {te : TE} {vs : List Nat} {σ : St} {H1 : Hp} {Q : VK} (hq : Seq K H1 a xs) (hd : DpAll K H1 xs ds) (hz : ds.length ≤ 1000) (hF : ∀ d ∈ ds, ∃ n, Td n (F d))
    (hw : ∀ x : V, wipe ((wipe σ vs).set i0 (some x)) vs = wipe σ vs)
    (turn : ∀ (i : Nat) (x : V) (d : PyData) (H : Hp) (Qe : VK), ds[i]? = some d → Same H1 H → Dp K H x d → (∀ y H', Same H H' → Dp K H' y (F d) → Qe y H') → te ((wipe σ vs).set i0 (some x)) H Qe)
    (hQ : ∀ D acc H', H1 D = none → Same H1 H' → H' D = some (.lst acc) → DpAll K H' acc (ds.map F) → Q (.ref D) H') :
    tLc (fun σ H R => (SqL K H a xs ∧ R (Itl K a) H) ∨ (SqT K H a xs ∧ R (Itt K a) H)) (gName i0) tYes te vs σ H1 Q := by
  have el := dpAll_len hd
  have key : ∀ D, H1 D = none → ∀ i x H, xs[i]? = some x → (∃ acc, H D = some (.lst acc) ∧ Same H1 H ∧ DpAll K H acc ((ds.take i).map F)) → gName i0 x (wipe σ vs) H fun σ2 H2 => wipe σ2 vs = wipe σ vs ∧ tYes σ2 H2 fun b H3 =>
      if b = true then te σ2 H3 fun y H4 => ∃ acc, H4 D = some (.lst acc) ∧ acc.length < sizeLine ∧ (∃ acc', (upd H4 D (.lst (acc ++ [y]))) D = some (.lst acc') ∧ Same H1 (upd H4 D (.lst (acc ++ [y]))) ∧ DpAll K (upd H4 D (.lst (acc ++ [y]))) acc' ((ds.take (i + 1)).map F))
      else ∃ acc, H3 D = some (.lst acc) ∧ Same H1 H3 ∧ DpAll K H3 acc ((ds.take (i + 1)).map F) := by
    rintro D hD i x H hx ⟨acc, hacc, hs, hda⟩
    have hi : i < ds.length := by rw [← el]; exact (List.getElem?_eq_some_iff.mp hx).1
    have hdi : ds[i]? = some ds[i] := by simp [hi]
    obtain ⟨v, hv, hvd⟩ := dpAll_get hd hdi
    rw [hx] at hv
    obtain rfl := Option.some.inj hv
    refine ⟨hw x, ?_⟩
    dsimp only [tYes]
    rw [if_pos rfl]
    refine turn i x ds[i] H _ hdi hs (dp_same hs hvd) fun y H' hs' hy => ?_
    have hl9 : acc.length = i := by
      have := dpAll_len hda
      rw [List.length_map, List.length_take] at this; omega
    have sD : Same H1 (upd H' D (.lst (acc ++ [y]))) := fun b o e => by rw [upd_ne (ne_of_none e hD)]; exact hs' _ _ (hs _ _ e)
    refine ⟨acc, hs' _ _ hacc, by rw [hl9]; exact Nat.lt_of_le_of_lt (by omega : i ≤ 1000) (by decide), acc ++ [y], upd_same, sD, ?_⟩
    rw [take_succ_of hdi, List.map_append]
    refine dpAll_append (dpAll_put (fun e he => ?_) (hs' _ _ hacc) (dpAll_same hs' hda)) (dpAll_put (fun e he => ?_) (hs' _ _ hacc) (dpAll_one hy))
    · obtain ⟨d9, hd9, rfl⟩ := List.mem_map.mp he
      exact hF d9 (List.mem_of_mem_take hd9)
    · obtain rfl := List.mem_singleton.mp he
      exact hF _ (List.getElem_mem hi)
  have h0 : ∀ D, H1 D = none → ∃ acc, upd H1 D (.lst []) D = some (.lst acc) ∧ Same H1 (upd H1 D (.lst [])) ∧ DpAll K (upd H1 D (.lst [])) acc ((ds.take 0).map F) := fun D hD => ⟨[], upd_same, Same.new hD, .nil⟩
  have hfin : ∀ D, H1 D = none → ∀ H, (∃ acc, H D = some (.lst acc) ∧ Same H1 H ∧ DpAll K H acc ((ds.take xs.length).map F)) → Q (.ref D) H := fun D hD H ⟨acc, ha, hs, hda⟩ => by
    rw [el, List.take_length] at hda
    exact hQ D acc H hD hs ha hda
  rcases hq with h | h
  · exact .inl ⟨h, fun D hD => lc_list (K := K) (a := a) (xs := xs) (fun i H => ∃ acc, H D = some (.lst acc) ∧ Same H1 H ∧ DpAll K H acc ((ds.take i).map F)) (h0 D hD) (fun i H _ ⟨_, _, s, _⟩ => s.seq h) (fun i x H hx p => key D hD i x H hx p) (hfin D hD)⟩
  · exact .inr ⟨h, fun D hD => lc_tup (K := K) (a := a) (xs := xs) (fun i H => ∃ acc, H D = some (.lst acc) ∧ Same H1 H ∧ DpAll K H acc ((ds.take i).map F)) (h0 D hD) (fun i H _ ⟨_, _, s, _⟩ => sqT_same s h) (fun i x H hx p => key D hD i x H hx p) (hfin D hD)⟩
theorem lc_dpS {K : PySem.W.Frag} {a : Addr} {xs : List V} {ds : List PyData} (F : PyData → PyData) {i0 : Nat} {tl te : TE} {vs : List Nat} {σ : St} {H1 : Hp} {Q : VK} (ht : ∀ R, R (.ref a) H1 → tl σ H1 R) (hq : Seq K H1 a xs) (hd : DpAll K H1 xs ds) (hz : ds.length ≤ 1000) (hF : ∀ d ∈ ds, ∃ n, Td n (F d))
    (hw : ∀ x : V, wipe ((wipe σ vs).set i0 (some x)) vs = wipe σ vs)
    (turn : ∀ (i : Nat) (x : V) (d : PyData) (H : Hp) (Qe : VK), ds[i]? = some d → Same H1 H → Dp K H x d → (∀ y H', Same H H' → Dp K H' y (F d) → Qe y H') → te ((wipe σ vs).set i0 (some x)) H Qe)
    (hQ : ∀ D acc H', H1 D = none → Same H1 H' → H' D = some (.lst acc) → DpAll K H' acc (ds.map F) → Q (.ref D) H') :
    tLc (iSeq K tl) (gName i0) tYes te vs σ H1 Q := ht _ ⟨a, xs, rfl, lc_dp F hq hd hz hF hw turn hQ⟩
theorem tcb1 {r : List V → Hp → VK → Prop} {te : TE} {σ : St} {H : Hp} {Q : VK} (h : te σ H fun x H' => r [x] H' Q) : tCB r (tCons te tNil) σ H Q := h
theorem tcall1 {sp : Sp} {dvs : List V} {E : XK} {te : TE} {σ : St} {H : Hp} {Q : VK} (h : te σ H fun x H' => sp ([x] ++ dvs) H' Q E) : tCall sp dvs E (tCons te tNil) σ H Q := h
theorem tret {te : TE} {D : Ends} {σ : St} {H : Hp} (h : te σ H D.rt) : tRet te D σ H := h
theorem tnx {D : Ends} {σ : St} {H : Hp} (h : D.nx σ H) : tNext D σ H := h
abbrev rLenQ (K : PySem.W.Frag) : List V → Hp → VK → Prop := fun xs H Q => ∃ p ys, xs = [.ref p] ∧ (SqL K H p ys ∨ SqT K H p ys) ∧ Q (.int ys.length) H
abbrev rLstQ (K : PySem.W.Frag) : List V → Hp → VK → Prop := fun xs H Q => ∃ p ys, xs = [.ref p] ∧ (SqL K H p ys ∨ SqT K H p ys) ∧ ∀ l, H l = none → Q (.ref l) (upd H l (.lst ys))
abbrev rTupQ (K : PySem.W.Frag) : List V → Hp → VK → Prop := fun xs H Q => ∃ p ys, xs = [.ref p] ∧ ((SqL K H p ys ∧ ∀ l, H l = none → Q (.ref l) (upd H l (.tup ys))) ∨ (SqT K H p ys ∧ Q (.ref p) H))
/-- promises over data -/
def spB1 (K : PySem.W.Frag) (f : PyData → Bool) : Sp := fun vs H Q _ => ∃ (x : V) (d : PyData) (n : Nat), vs = [x] ∧ Dp K H x d ∧ Wf n d ∧ ∀ H', Same H H' → Q (.bl (f d)) H'
def spB2 (K : PySem.W.Frag) (f : PyData → Int → Bool) : Sp := fun vs H Q _ => ∃ (x : V) (d : PyData) (n : Nat) (i : Int), vs = [x, .int i] ∧ Dp K H x d ∧ Wf n d ∧ ∀ H', Same H H' → Q (.bl (f d i)) H'
def spB3 (K : PySem.W.Frag) (f : PyData → Int → Int → Bool) : Sp := fun vs H Q _ => ∃ (x : V) (d : PyData) (n : Nat) (i j : Int), vs = [x, .int i, .int j] ∧ Dp K H x d ∧ Wf n d ∧ ∀ H', Same H H' → Q (.bl (f d i j)) H'
/-- is_ascending of a list of ints -/
def spAscI (K : PySem.W.Frag) : Sp := fun vs H Q _ => ∃ (a : Addr) (ns : List Int), vs = [.ref a] ∧ Seq K H a (ns.map V.int) ∧ ns.length ≤ 1000 ∧ ∀ H', Same H H' → Q (.bl (ascI ns)) H'
/-- plain(value) -/
def spPlain (K : PySem.W.Frag) (n : Nat) : Sp := fun vs H Q _ => ∃ (x : V) (d : PyData) (m : Nat), vs = [x] ∧ Dp K H x d ∧ Wf m d ∧ m < n ∧ ∀ y H', Same H H' → Dp K H' y (dPlain d) → Q y H'
theorem td_plain {n : Nat} {d : PyData} (h : Wf n d) : Td n (dPlain d) := by
  induction h with
  | non => exact .non
  | bl b => exact .bl b
  | int i => exact .int i
  | str x => exact .str x
  | lst z _ ih =>
    show Td _ (.tuple (dPlains _))
    rw [dPlains_map]
    exact .tup (by rw [List.length_map]; exact z) fun d hd => by obtain ⟨e, he, rfl⟩ := List.mem_map.mp hd; exact ih e he
  | tup z _ ih =>
    show Td _ (.tuple (dPlains _))
    rw [dPlains_map]
    exact .tup (by rw [List.length_map]; exact z) fun d hd => by obtain ⟨e, he, rfl⟩ := List.mem_map.mp hd; exact ih e he
/-- the reading of [e for i in range(n)], each element data made of i -/
theorem lc_rng {K : PySem.W.Frag} (n : Nat) (F : Nat → PyData) {i0 : Nat} {j : Int} {ta : TA} {te : TE} {vs : List Nat} {σ : St} {H1 : Hp} {Q : VK} (ht : ∀ R, R [.int j] H1 → ta σ H1 R) (hj : j.toNat = n) (hj0 : -1000 ≤ j) (hz : n ≤ 1000) (hF : ∀ i, i < n → ∃ m, Td m (F i))
    (hw : ∀ x : V, wipe ((wipe σ vs).set i0 (some x)) vs = wipe σ vs)
    (turn : ∀ (i : Nat) (H : Hp) (Qe : VK), i < n → Same H1 H → (∀ y H', Same H H' → Dp K H' y (F i) → Qe y H') → te ((wipe σ vs).set i0 (some (.int (0 + (i : Int))))) H Qe)
    (hQ : ∀ D acc H', H1 D = none → Same H1 H' → H' D = some (.lst acc) → DpAll K H' acc ((List.range n).map F) → Q (.ref D) H') :
    tLc (iRng1 ta) (gName i0) tYes te vs σ H1 Q := by
  refine ht _ ⟨j, rfl, ?_, ?_, ?_⟩
  · have e62 : (2 : Int) ^ 62 = 4611686018427387904 := by decide
    omega
  · have e62 : (2 : Int) ^ 62 = 4611686018427387904 := by decide
    omega
  rw [hj]
  intro D hD
  refine lc_range (lo := 0) (n := n) (fun i H => ∃ acc, H D = some (.lst acc) ∧ Same H1 H ∧ DpAll K H acc ((List.range i).map F)) ⟨[], upd_same, Same.new hD, .nil⟩ ?_ (fun H ⟨acc, ha, hs, hda⟩ => hQ D acc H hD hs ha hda)
  rintro i H hi ⟨acc, hacc, hs, hda⟩
  refine ⟨hw _, ?_⟩
  dsimp only [tYes]
  rw [if_pos rfl]
  refine turn i H _ hi hs fun y H' hs' hy => ?_
  have hl9 : acc.length = i := by
    have := dpAll_len hda
    rw [List.length_map, List.length_range] at this; exact this
  have sD : Same H1 (upd H' D (.lst (acc ++ [y]))) := fun b o e => by rw [upd_ne (ne_of_none e hD)]; exact hs' _ _ (hs _ _ e)
  refine ⟨acc, hs' _ _ hacc, by rw [hl9]; exact Nat.lt_of_le_of_lt (by omega : i ≤ 1000) (by decide), acc ++ [y], upd_same, sD, ?_⟩
  rw [List.range_succ, List.map_append]
  refine dpAll_append (dpAll_put (fun e he => ?_) (hs' _ _ hacc) (dpAll_same hs' hda)) (dpAll_put (fun e he => ?_) (hs' _ _ hacc) (dpAll_one hy))
  · obtain ⟨d9, hd9, rfl⟩ := List.mem_map.mp he
    exact hF d9 (by have := List.mem_range.mp hd9; omega)
  · obtain rfl := List.mem_singleton.mp he
    exact hF _ hi
theorem ascI_range : ∀ ns : List Int, ascI ns = ((List.range (ns.length - 1)).map fun i => decide (ns.getD i 0 < ns.getD (i + 1) 0)).all id
  | [] => rfl
  | [_] => rfl
  | a :: b :: r => by
    have ih := ascI_range (b :: r)
    have e : (a :: b :: r).length - 1 = ((b :: r).length - 1) + 1 := by simp
    show (decide (a < b) && ascI (b :: r)) = _
    rw [e, List.range_succ_eq_map, List.map_cons, List.all_cons, List.map_map, ih]
    rfl
theorem getD_at {ns : List Int} {i : Nat} (h : i < ns.length) : (ns.map V.int)[i]? = some (V.int (ns.getD i 0)) := by
  simp [h]
theorem seq_ix {K : PySem.W.Frag} {H : Hp} {a : Addr} {xs : List V} {i : Int} {v : V} {Q : VK} (hq : Seq K H a xs) (h : atI xs i = some v) (q : Q v H) : rIx K (.ref a) (.int i) H Q := by
  rcases hq with e | e
  · exact .inl ⟨a, xs, i, v, rfl, rfl, e, h, q⟩
  · exact .inr (.inl ⟨a, xs, i, v, rfl, rfl, e, h, q⟩)
theorem all_false {α : Type} {f : α → Bool} {l : List α} {x : α} (h : x ∈ l) (e : f x = false) : l.all f = false := by
  cases q : l.all f with
  | false => rfl
  | true => rw [List.all_eq_true.mp q x h] at e; cases e
end Mw
set_option Elab.async false
set_option linter.all false
set_option maxRecDepth 100000
set_option maxHeartbeats 2000000
/-! Errors that are raised with a number; constants; pairs walked. -/
namespace Mw
open PySem L2
/-- a constant of the module -/
theorem pe_const {X : Cx} {x : Str} {i : Int} {pos : Pos} (h : ∃ t, X.mg x = some (.int i t)) (hg : Gl X x := by rfl) (hdb : (x == ("__debug__" : Str)) = false := by decide) : PE X (.Name x pos) (tC (.int i)) := by
  obtain ⟨t, h⟩ := h
  exact pe_glob (v := .int i) hg h ⟨_, rfl⟩ hdb
/-- the promise of __init__(self, f): self.f = f -/
def spIni1 (K : PySem.W.Frag) (C : Addr) (f : Str) : Sp := fun vs H Q _ => ∃ (a : Addr) (v : V), vs = [.ref a, v] ∧ H a = some (exo a C none) ∧
  ∀ dx, H dx = none → dx ≠ a → Q .non (upd (upd H dx (exd dx [(f, v)])) a (exo a C (some dx)))
/-- of __init__(self, f, g) -/
def spIni2 (K : PySem.W.Frag) (C : Addr) (f g : Str) : Sp := fun vs H Q _ => ∃ (a : Addr) (v u : V), vs = [.ref a, v, u] ∧ H a = some (exo a C none) ∧
  ∀ dx, H dx = none → dx ≠ a → Q .non (upd (upd (upd H dx (exd dx [(f, v)])) a (exo a C (some dx))) dx (exd dx [(g, u), (f, v)]))
/-- an error class by what its making promises -/
def ExC (P : Program) (w : World) (K : PySem.W.Frag) (mg : Str → Option Value) (base : Heap) (x : Str) (C : Addr) (ps : List Str) (sp : Sp) : Prop :=
  mg x = some (.ref C) ∧ ExM K C ∧ ∃ (fI : Addr) (fd : FuncData), PySem.W.findIn K (.ref C) "__init__" = some (some (.ref fI)) ∧ PySem.W.typeIn K (.ref fI) = some (.type "function") ∧ FnOk P w K mg base CX0 1 fI fd ps sp ∧ Binds K fd ps []
theorem pmk_ex {X : Cx} {x : Str} {C : Addr} {ps : List Str} {sp : Sp} {e : Expr} {es : List Expr} {ta : TA} {p pos : Pos} {k : Nat} (c : ExC X.prog X.w X.K X.mg X.base x C ps sp) (hr : Room (k + 2) X.A) (ha : PA X (e :: es) ta) (hg : Gl X x := by rfl)
    (hdb : (x == ("__debug__" : Str)) = false := by decide) (he : starEach (e :: es) X.env = (false, eval e X.env) :: starEach es X.env := by rfl) (hpl : (backTo pos (starEach es X.env)).any (·.1) = false := by rfl) :
    PMk X (.Call (.Name x p) (e :: es) [] pos) (tMade C sp ta) := by
  obtain ⟨g, T, fI, fd, iC, tI, F, b⟩ := c
  exact pmk_made T iC tI F (hr.mono (by omega)) b pass0 hg g ha hdb he hpl
theorem made1 {K : PySem.W.Frag} {C : Addr} {f : Str} {v : V} {H : Hp} {Q : XK} (h : ∀ d H', Same H H' → H d = none → H' d = some (.xd [(f, v)]) → Q (.ref C) (some d) H') :
    ∀ a, H a = none → spIni1 K C f [.ref a, v] (upd H a (exo a C none)) (fun v' H2 => v' = .non ∧ ∃ (d : Addr) (fs : List (Str × V)), H2 a = some (exo a C (some d)) ∧ H2 d = some (exd d fs) ∧ H d = none ∧ Q (.ref C) (some d) (upd (del H2 a) d (.xd fs))) (fun _ _ _ => False) := fun a ha =>
  ⟨a, v, rfl, upd_same, fun dx hdx hne => by
    have hn : H dx = none := by rw [upd_ne hne] at hdx; exact hdx
    refine ⟨rfl, dx, [(f, v)], upd_same, by rw [upd_ne hne]; exact upd_same, hn, h dx _ (fun b o e => ?_) hn upd_same⟩
    have b1 : b ≠ dx := ne_of_none e hn
    have b2 : b ≠ a := ne_of_none e ha
    rw [upd_ne b1, del_ne b2, upd_ne b2, upd_ne b1, upd_ne b2]
    exact e⟩
theorem made2 {K : PySem.W.Frag} {C : Addr} {f g : Str} {v u : V} {H : Hp} {Q : XK} (h : ∀ d H', Same H H' → H d = none → H' d = some (.xd [(g, u), (f, v)]) → Q (.ref C) (some d) H') :
    ∀ a, H a = none → spIni2 K C f g [.ref a, v, u] (upd H a (exo a C none)) (fun v' H2 => v' = .non ∧ ∃ (d : Addr) (fs : List (Str × V)), H2 a = some (exo a C (some d)) ∧ H2 d = some (exd d fs) ∧ H d = none ∧ Q (.ref C) (some d) (upd (del H2 a) d (.xd fs))) (fun _ _ _ => False) := fun a ha =>
  ⟨a, v, u, rfl, upd_same, fun dx hdx hne => by
    have hn : H dx = none := by rw [upd_ne hne] at hdx; exact hdx
    refine ⟨rfl, dx, [(g, u), (f, v)], by rw [upd_ne hne.symm]; exact upd_same, upd_same, hn, h dx _ (fun b o e => ?_) hn upd_same⟩
    have b1 : b ≠ dx := ne_of_none e hn
    have b2 : b ≠ a := ne_of_none e ha
    rw [upd_ne b1, del_ne b2, upd_ne b1, upd_ne b2, upd_ne b1, upd_ne b2]
    exact e⟩
/-- what a check says: nothing, or an error with its class (by a number) and its fields -/
abbrev Flt := Option (Nat × List (Str × V))
/-- the end of a check: cs tells the classes -/
def Ends1 (cs : Nat → Addr) (r : Flt) (H : Hp) (ok : Hp → Prop) (E : XK) : Prop := match r with
  | none => ∀ H', Same H H' → ok H'
  | some (c, fs) => ∀ d H', Same H H' → H d = none → H' d = some (.xd fs) → E (.ref (cs c)) (some d) H'
theorem Ends1.from {cs : Nat → Addr} {r : Flt} {H H1 : Hp} {ok : Hp → Prop} {E : XK} (h : Ends1 cs r H ok E) (s : Same H H1) : Ends1 cs r H1 ok E := by
  cases r with
  | none => exact fun H' s' => h H' (s.trans s')
  | some p => exact fun d H' s' n e => h d H' (s.trans s') (s.free n) e
def fValue (n : Int) : Flt := some (0, [("at", .int n)])
def fState (n : Int) : Flt := some (1, [("at", .int n)])
def fMethod (t m : Int) : Flt := some (2, [("method", .int m), ("task", .int t)])
/-- the first that is not as told -/
def firstBad (f : PyData → Bool) : List PyData → Option Nat
  | [] => none
  | d :: r => if f d = true then (firstBad f r).map (· + 1) else some 0
theorem firstBad_none {f : PyData → Bool} : ∀ {l : List PyData}, (∀ d ∈ l, f d = true) → firstBad f l = none
  | [], _ => rfl
  | d :: r, h => by
    unfold firstBad
    rw [if_pos (h d List.mem_cons_self), firstBad_none fun e he => h e (List.mem_cons_of_mem _ he)]; rfl
theorem firstBad_some {f : PyData → Bool} : ∀ {l : List PyData} {i : Nat} {d : PyData}, l[i]? = some d → f d = false → (∀ e ∈ l.take i, f e = true) → firstBad f l = some i
  | [], _, _, h, _, _ => by simp at h
  | d :: r, 0, e, h, hf, _ => by
    simp at h; subst h
    unfold firstBad
    rw [hf]; rfl
  | d :: r, i + 1, e, h, hf, ha => by
    unfold firstBad
    rw [if_pos (ha d (by simp)), firstBad_some (l := r) (i := i) (by simpa using h) hf fun x hx => ha x (by simp [hx])]; rfl
/-- for i, x in enumerate(value): the invariant says of the first i -/
theorem for_enum {K : PySem.W.Frag} {a : Addr} {xs : List V} {g : TG} {tb : TS} {D : Ends} {σ : St} {H : Hp} (hq : Seq K H a xs) (Pv : Nat → St → Hp → Prop) (h0 : Pv 0 σ H) (hl : ∀ i σ H', i ≤ xs.length → Pv i σ H' → Same H H')
    (hs : ∀ i x σ H1 T, xs[i]? = some x → Pv i σ H1 → H1 T = none → g (.ref T) σ (upd H1 T (.tup [.int (i : Nat), x])) fun σ2 H2 => tb { D with nx := Pv (i + 1), ct := Pv (i + 1), bk := D.nx } σ2 H2) (hd : ∀ σ H, Pv xs.length σ H → D.nx σ H) :
    (SqL K H a xs ∧ (fun J H1 => ∃ W : Nat → Nat → St → Hp → Prop, (∃ m, W 0 m σ H1) ∧ ∀ i m σ H, W i m σ H →
      (J.stop i H ∧ D.nx σ H) ∨ (J.go i H ∧ ∃ N : St → Hp → Prop, (∀ σ' H', N σ' H' → ∃ m', m' < m ∧ W (i + 1) m' σ' H') ∧ ∀ x H', J.yld i H x H' → g x σ H' fun σ2 H2 => tb { D with nx := N, ct := N, bk := D.nx } σ2 H2)) (Ite K a) H) ∨
    (SqT K H a xs ∧ (fun J H1 => ∃ W : Nat → Nat → St → Hp → Prop, (∃ m, W 0 m σ H1) ∧ ∀ i m σ H, W i m σ H →
      (J.stop i H ∧ D.nx σ H) ∨ (J.go i H ∧ ∃ N : St → Hp → Prop, (∀ σ' H', N σ' H' → ∃ m', m' < m ∧ W (i + 1) m' σ' H') ∧ ∀ x H', J.yld i H x H' → g x σ H' fun σ2 H2 => tb { D with nx := N, ct := N, bk := D.nx } σ2 H2)) (IteT K a) H) := by
  rcases hq with h | h
  · refine .inl ⟨h, fun i m σ H' => m = xs.length - i ∧ i ≤ xs.length ∧ Pv i σ H', ⟨xs.length, by simp, Nat.zero_le _, h0⟩, ?_⟩
    rintro i m σ H1 ⟨rfl, hi, p⟩
    have q : SqL K H1 a xs := (hl i σ H1 hi p).seq h
    by_cases hlt : i < xs.length
    · refine .inr ⟨⟨xs, xs[i], q, by simp [hlt]⟩, Pv (i + 1), fun σ' H' p' => ⟨xs.length - (i + 1), by omega, rfl, hlt, p'⟩, fun x H' ⟨T, y, ex, hT, eH, hy⟩ => ?_⟩
      subst ex eH
      exact hs i y σ H1 T (hy xs q) p hT
    · obtain rfl : i = xs.length := by omega
      exact .inl ⟨⟨xs, q, Nat.le_refl _⟩, hd σ H1 p⟩
  · refine .inr ⟨h, fun i m σ H' => m = xs.length - i ∧ i ≤ xs.length ∧ Pv i σ H', ⟨xs.length, by simp, Nat.zero_le _, h0⟩, ?_⟩
    rintro i m σ H1 ⟨rfl, hi, p⟩
    have q : SqT K H1 a xs := sqT_same (hl i σ H1 hi p) h
    by_cases hlt : i < xs.length
    · refine .inr ⟨⟨xs, xs[i], q, by simp [hlt]⟩, Pv (i + 1), fun σ' H' p' => ⟨xs.length - (i + 1), by omega, rfl, hlt, p'⟩, fun x H' ⟨T, y, ex, hT, eH, hy⟩ => ?_⟩
      subst ex eH
      exact hs i y σ H1 T (hy xs q) p hT
    · obtain rfl : i = xs.length := by omega
      exact .inl ⟨⟨xs, q, Nat.le_refl _⟩, hd σ H1 p⟩
end Mw
namespace Mw
open PySem L2
theorem passes_tk {X : Cx} {E : XK} (tk : Takes X (fun cls d _ H => E cls d H)) : Passes (L2.CX X.prog X.w) X E := fun _ _ _ _ e s' I c => tk e s' (XE.of_call I (fun _ _ _ h => h) c)
/-- an error class and its __init__, where they stand -/
def XDef (K : PySem.W.Frag) (mg : Str → Option Value) (x qual : Str) (C : Addr) (st : Stmt) (ps : List Str) : Prop :=
  mg x = some (.ref C) ∧ ExM K C ∧ ∃ (fI : Addr) (fd : FuncData), PySem.W.findIn K (.ref C) "__init__" = some (some (.ref fI)) ∧ PySem.W.typeIn K (.ref fI) = some (.type "function") ∧ Fun K "__init__" qual st fI fd ∧ Binds K fd ps []
theorem XDef.ok {P : Program} {w : World} {K : PySem.W.Frag} {mg : Str → Option Value} {base : Heap} {x qual : Str} {C : Addr} {st : Stmt} {N ps : List Str} {sp : Sp} (D : XDef K mg x qual C st ps) (S : FnScope N ps (defScope st)) (len : ∀ vs H Q E, sp vs H Q E → vs.length = ps.length)
    (hbody : ∀ (f : Addr) (cdv : Value) (A : Around) (outer : List Env) (s : Shared) (H : Hp) (vs : List V) (Q : VK) (E : XK), Room 0 (A.deeper (PyProof.Rows.envOfC qual (defScope st) s.heap.objs.size f cdv)) → sp vs H Q E →
      ∃ t, PSs (cxOf CX0 P w K mg base N qual (defScope st) f cdv A outer s H E).nox (defBody st) t ∧ t { nx := fun _ H' => Q .non H', rt := Q } (start N vs) H) : ExC P w K mg base x C ps sp := by
  obtain ⟨g, T, fI, fd, iC, tI, F, b⟩ := D
  exact ⟨g, T, fI, fd, iC, tI, F.ok S len (hbody fI), b⟩
/-- a class with its own __init__, where they stand -/
def CDef (K : PySem.W.Frag) (mg : Str → Option Value) (x qual : Str) (C : Addr) (st : Stmt) (ps : List Str) : Prop :=
  mg x = some (.ref C) ∧ Cls K C ∧ ∃ (fI : Addr) (fd : FuncData), Mk K C fI ∧ Fun K "__init__" qual st fI fd ∧ Binds K fd ps []
/-- .. by what its making promises -/
def CCal (P : Program) (w : World) (K : PySem.W.Frag) (mg : Str → Option Value) (base : Heap) (CX : CXT) (x : Str) (C : Addr) (k : Nat) (ps : List Str) (sp : Sp) : Prop :=
  mg x = some (.ref C) ∧ Cls K C ∧ ∃ (fI : Addr) (fd : FuncData), Mk K C fI ∧ FnOk P w K mg base CX k fI fd ps sp ∧ Binds K fd ps []
theorem CDef.okX {P : Program} {w : World} {K : PySem.W.Frag} {mg : Str → Option Value} {base : Heap} {x qual : Str} {C : Addr} {st : Stmt} {N ps : List Str} {sp : Sp} {k : Nat} (D : CDef K mg x qual C st ps) (S : FnScope N ps (defScope st)) (len : ∀ vs H Q E, sp vs H Q E → vs.length = ps.length)
    (hbody : ∀ (f : Addr) (cdv : Value) (A : Around) (outer : List Env) (s : Shared) (H : Hp) (vs : List V) (Q : VK) (E : XK), Room k (A.deeper (PyProof.Rows.envOfC qual (defScope st) s.heap.objs.size f cdv)) → sp vs H Q E →
      ∃ t, PSs (cxOf (L2.CX P w) P w K mg base N qual (defScope st) f cdv A outer s H E) (defBody st) t ∧ t { nx := fun _ H' => Q .non H', rt := Q } (start N vs) H) : CCal P w K mg base (L2.CX P w) x C (k + 1) ps sp := by
  obtain ⟨g, c, fI, fd, M, F, b⟩ := D
  exact ⟨g, c, fI, fd, M, F.okX S len (hbody fI), b⟩
/-- C(e, ..), errors of its __init__ let through -/
theorem pe_new {X : Cx} {x : Str} {C : Addr} {ps : List Str} {sp : Sp} {E : XK} {e : Expr} {es : List Expr} {ta : TA} {p pos : Pos} {k : Nat} (c : CCal X.prog X.w X.K X.mg X.base (L2.CX X.prog X.w) x C k ps sp) (hr : Room (k + 1) X.A) (hx : Passes (L2.CX X.prog X.w) X E) (ha : PA X (e :: es) ta) (hg : Gl X x := by rfl)
    (hdb : (x == ("__debug__" : Str)) = false := by decide) (he : starEach (e :: es) X.env = (false, eval e X.env) :: starEach es X.env := by rfl) (hpl : (backTo pos (starEach es X.env)).any (·.1) = false := by rfl) :
    PE X (.Call (.Name x p) (e :: es) [] pos) (tMake C sp [] E ta) := by
  obtain ⟨g, cl, fI, fd, M, F, b⟩ := c
  exact pe_make M F hr hg g b .nil hx ha hdb he hpl
/-! ### World's own checks, as functions of data -/
def dNone : PyData → Bool
  | .none => true
  | _ => false
def dMoves (d : PyData) (k n : Int) : Bool := dRow d k k && dAll (fun e => dNone e || dNum e n) d
def dLen (d : PyData) : Int := (((dItems d).getD []).length : Nat)
def errStates (d : PyData) (f : Int) : Flt := if dRow d 1 16 = true then (firstBad (fun e => dFacts e f) ((dItems d).getD [])).bind fun i => fState (i : Nat) else fValue 2
def errMoves (d : PyData) (n : Int) : Flt := if dRow d n n = true then (if dRow (dAt d 0) 1 5 = true then (firstBad (fun e => dMoves e (dLen (dAt d 0)) n) ((dItems d).getD [])).bind fun i => fState (i : Nat) else fState 0) else fValue 3
def errWorld (df ds dm : PyData) : Flt := if dBtw df 0 4 = true then (match errStates ds (dVal df) with | some e => some e | none => errMoves dm (dLen ds)) else fValue 1
/-- a World at a -/
def WorldAt (K : PySem.W.Frag) (C : Addr) (a : Addr) (f : Int) (ds dm : PyData) (H : Hp) : Prop := ∃ dx ys ym, H a = some (.ins C dx [("_facts", .int f), ("_states", ys), ("_moves", ym)]) ∧ Dp K H ys ds ∧ Dp K H ym dm
theorem WorldAt.same {K : PySem.W.Frag} {C a : Addr} {f : Int} {ds dm : PyData} {H H' : Hp} (h : WorldAt K C a f ds dm H) (s : Same H H') : WorldAt K C a f ds dm H' := by
  obtain ⟨dx, ys, ym, e, h1, h2⟩ := h
  exact ⟨dx, ys, ym, s _ _ e, dp_same s h1, dp_same s h2⟩
def spNeedStates (K : PySem.W.Frag) (cs : Nat → Addr) : Sp := fun vs H Q E => ∃ (x : V) (d : PyData) (n : Nat) (f : Int), vs = [x, .int f] ∧ Dp K H x d ∧ Wf n d ∧ Ends1 cs (errStates d f) H (fun H' => Q .non H') E
def spNeedMoves (K : PySem.W.Frag) (cs : Nat → Addr) : Sp := fun vs H Q E => ∃ (x : V) (d : PyData) (n : Nat) (m : Int), vs = [x, .int m] ∧ Dp K H x d ∧ Wf n d ∧ 1 ≤ m ∧ Ends1 cs (errMoves d m) H (fun H' => Q .non H') E
/-- World(facts, states, moves) at the new instance a -/
def spWorldInit (K : PySem.W.Frag) (C : Addr) (cs : Nat → Addr) (n : Nat) : Sp := fun vs H Q E => ∃ (a dx : Addr) (xf xs xm : V) (df ds dm : PyData), vs = [.ref a, xf, xs, xm] ∧ H a = some (.ins C dx []) ∧ Dp K H xf df ∧ Dp K H xs ds ∧ Dp K H xm dm ∧ Wf n df ∧ Wf n ds ∧ Wf n dm ∧
  (match errWorld df ds dm with
   | none => ∀ H', (∀ b o, b ≠ a → H b = some o → H' b = some o) → WorldAt K C a (dVal df) (dPlain ds) (dPlain dm) H' → Q .non H'
   | some (c, fs) => ∀ d H', Same H H' → H d = none → H' d = some (.xd fs) → E (.ref (cs c)) (some d) H')
end Mw
namespace Mw
open PySem L2
/-- all but instances is as it was -/
def SameS (H H' : Hp) : Prop := ∀ b o, (∀ C dx fs, o ≠ HO.ins C dx fs) → H b = some o → H' b = some o
theorem SameS.put {H : Hp} {a C dx : Addr} {fs fs' : List (Str × V)} (h : H a = some (.ins C dx fs)) : SameS H (upd H a (.ins C dx fs')) := fun b o n e => by
  have nb : b ≠ a := fun q => by rw [q, h] at e; exact n C dx fs (Option.some.inj e).symm
  rw [upd_ne nb]; exact e
mutual
theorem dp_keep {K : PySem.W.Frag} {H H' : Hp} (e : SameS H H') : ∀ {d : PyData} {v : V}, Dp K H v d → Dp K H' v d
  | _, _, .non => .non
  | _, _, .bl b => .bl b
  | _, _, .int i => .int i
  | _, _, .str x => .str x
  | _, _, .lst h t => by
    refine .lst ?_ (dpAll_keep e t)
    rcases h with (h | ⟨o, h⟩) | h
    · exact .inl (.inl (e _ _ (fun _ _ _ z => nomatch z) h))
    · exact .inl (.inr ⟨o, e _ _ (fun _ _ _ z => nomatch z) h⟩)
    · exact .inr h
  | _, _, .tup h t => by
    refine .tup ?_ (dpAll_keep e t)
    rcases h with (h | ⟨o, h⟩) | h
    · exact .inl (.inl (e _ _ (fun _ _ _ z => nomatch z) h))
    · exact .inl (.inr ⟨o, e _ _ (fun _ _ _ z => nomatch z) h⟩)
    · exact .inr h
theorem dpAll_keep {K : PySem.W.Frag} {H H' : Hp} (e : SameS H H') : ∀ {ds : List PyData} {vs : List V}, DpAll K H vs ds → DpAll K H' vs ds
  | _, _, .nil => .nil
  | _, _, .cons h t => .cons (dp_keep e h) (dpAll_keep e t)
end
/-- all but a is as it was -/
def But (a : Addr) (H H' : Hp) : Prop := ∀ b o, b ≠ a → H b = some o → H' b = some o
theorem But.same {a : Addr} {H H1 H' : Hp} (h : But a H H1) (s : Same H1 H') : But a H H' := fun b o n e => s _ _ (h b o n e)
theorem But.put {a : Addr} {H H1 : Hp} {o : HO} (h : But a H H1) : But a H (upd H1 a o) := fun b u n e => by rw [upd_ne n]; exact h b u n e
theorem Same.but {a : Addr} {H H1 : Hp} (s : Same H H1) : But a H H1 := fun b o _ e => s b o e
end Mw
set_option Elab.async false
set_option linter.all false
set_option maxRecDepth 100000
set_option maxHeartbeats 2000000
/-! Comprehensions with any target; worlds of facts as functions of data. -/
namespace Mw
open PySem L2
theorem tyes_if {σ2 : St} {H2 : Hp} {A : Prop} {B : Hp → Prop} {C : Hp → Prop} : (A ∧ tYes σ2 H2 fun b H3 => if b = true then B H3 else C H3) = (A ∧ B H2) := by
  show (A ∧ (if true = true then B H2 else C H2)) = (A ∧ B H2)
  rw [if_pos rfl]
/-- [e for target in value], the target of any form -/
theorem lc_dpG {K : PySem.W.Frag} {a : Addr} {xs : List V} {ds : List PyData} (F : Nat → PyData → PyData) {g : TG} {tl te : TE} {vs : List Nat} {σ : St} {H1 : Hp} {Q : VK} (ht : ∀ R, R (.ref a) H1 → tl σ H1 R) (hq : Seq K H1 a xs) (hd : DpAll K H1 xs ds) (hz : ds.length ≤ 1000) (hF : ∀ i d, ds[i]? = some d → ∃ n, Td n (F i d))
    (turn : ∀ (i : Nat) (x : V) (d : PyData) (H : Hp) (Qe : VK), ds[i]? = some d → xs[i]? = some x → Same H1 H → Dp K H x d → (∀ y H', Same H H' → Dp K H' y (F i d) → Qe y H') → g x (wipe σ vs) H fun σ2 H2 => wipe σ2 vs = wipe σ vs ∧ te σ2 H2 Qe)
    (hQ : ∀ D acc H', H1 D = none → Same H1 H' → H' D = some (.lst acc) → DpAll K H' acc (ds.mapIdx F) → Q (.ref D) H') :
    tLc (iSeq K tl) g tYes te vs σ H1 Q := by
  have el := dpAll_len hd
  have key : ∀ D, H1 D = none → ∀ i x H, xs[i]? = some x → (∃ acc, H D = some (.lst acc) ∧ Same H1 H ∧ DpAll K H acc ((ds.take i).mapIdx F)) → g x (wipe σ vs) H fun σ2 H2 => wipe σ2 vs = wipe σ vs ∧ tYes σ2 H2 fun b H3 =>
      if b = true then te σ2 H3 fun y H4 => ∃ acc, H4 D = some (.lst acc) ∧ acc.length < sizeLine ∧ (∃ acc', (upd H4 D (.lst (acc ++ [y]))) D = some (.lst acc') ∧ Same H1 (upd H4 D (.lst (acc ++ [y]))) ∧ DpAll K (upd H4 D (.lst (acc ++ [y]))) acc' ((ds.take (i + 1)).mapIdx F))
      else ∃ acc, H3 D = some (.lst acc) ∧ Same H1 H3 ∧ DpAll K H3 acc ((ds.take (i + 1)).mapIdx F) := by
    rintro D hD i x H hx ⟨acc, hacc, hs, hda⟩
    have hi : i < ds.length := by rw [← el]; exact (List.getElem?_eq_some_iff.mp hx).1
    have hdi : ds[i]? = some ds[i] := by simp [hi]
    obtain ⟨v, hv, hvd⟩ := dpAll_get hd hdi
    rw [hx] at hv
    obtain rfl := Option.some.inj hv
    simp only [tyes_if]
    refine turn i x ds[i] H _ hdi hx hs (dp_same hs hvd) fun y H' hs' hy => ?_
    have hl9 : acc.length = i := by
      have := dpAll_len hda
      rw [List.length_mapIdx, List.length_take] at this; omega
    have sD : Same H1 (upd H' D (.lst (acc ++ [y]))) := fun b o e => by rw [upd_ne (ne_of_none e hD)]; exact hs' _ _ (hs _ _ e)
    refine ⟨acc, hs' _ _ hacc, by rw [hl9]; exact Nat.lt_of_le_of_lt (by omega : i ≤ 1000) (by decide), acc ++ [y], upd_same, sD, ?_⟩
    have em : (ds.take (i + 1)).mapIdx F = (ds.take i).mapIdx F ++ [F i ds[i]] := by
      rw [take_succ_of hdi, List.mapIdx_append]
      have : (ds.take i).length = i := by rw [List.length_take]; omega
      simp [this]
    rw [em]
    refine dpAll_append (dpAll_put (fun e he => ?_) (hs' _ _ hacc) (dpAll_same hs' hda)) (dpAll_put (fun e he => ?_) (hs' _ _ hacc) (dpAll_one hy))
    · obtain ⟨j, hj, rfl⟩ := List.mem_mapIdx.mp he
      have hj2 : j < ds.length := by rw [List.length_take] at hj; omega
      have e9 : (ds.take i)[j] = ds[j] := by simp
      rw [e9]
      exact hF j ds[j] (by simp [hj2])
    · obtain rfl := List.mem_singleton.mp he
      exact hF i _ hdi
  have h0 : ∀ D, H1 D = none → ∃ acc, upd H1 D (.lst []) D = some (.lst acc) ∧ Same H1 (upd H1 D (.lst [])) ∧ DpAll K (upd H1 D (.lst [])) acc ((ds.take 0).mapIdx F) := fun D hD => ⟨[], upd_same, Same.new hD, .nil⟩
  have hfin : ∀ D, H1 D = none → ∀ H, (∃ acc, H D = some (.lst acc) ∧ Same H1 H ∧ DpAll K H acc ((ds.take xs.length).mapIdx F)) → Q (.ref D) H := fun D hD H ⟨acc, ha, hs, hda⟩ => by
    rw [el, List.take_length] at hda
    exact hQ D acc H hD hs ha hda
  refine ht _ ⟨a, xs, rfl, ?_⟩
  rcases hq with h | h
  · exact .inl ⟨h, fun D hD => lc_list (K := K) (a := a) (xs := xs) (fun i H => ∃ acc, H D = some (.lst acc) ∧ Same H1 H ∧ DpAll K H acc ((ds.take i).mapIdx F)) (h0 D hD) (fun i H _ ⟨_, _, s, _⟩ => s.seq h) (fun i x H hx p => key D hD i x H hx p) (hfin D hD)⟩
  · exact .inr ⟨h, fun D hD => lc_tup (K := K) (a := a) (xs := xs) (fun i H => ∃ acc, H D = some (.lst acc) ∧ Same H1 H ∧ DpAll K H acc ((ds.take i).mapIdx F)) (h0 D hD) (fun i H _ ⟨_, _, s, _⟩ => sqT_same s h) (fun i x H hx p => key D hD i x H hx p) (hfin D hD)⟩
/-- [e for i, x in enumerate(value)] -/
theorem lc_enum {K : PySem.W.Frag} {a : Addr} {xs : List V} {ds : List PyData} (F : Nat → PyData → PyData) {g : TG} {ta : TA} {te : TE} {vs : List Nat} {σ : St} {H1 : Hp} {Q : VK} (ht : ∀ R, R [.ref a] H1 → ta σ H1 R) (hq : Seq K H1 a xs) (hd : DpAll K H1 xs ds) (hz : ds.length ≤ 1000) (hF : ∀ i d, ds[i]? = some d → ∃ n, Td n (F i d))
    (turn : ∀ (i : Nat) (x : V) (d : PyData) (T : Addr) (H : Hp) (Qe : VK), ds[i]? = some d → Same H1 H → H T = some (.tup [.int (i : Nat), x]) → Dp K H x d → (∀ y H', Same H H' → Dp K H' y (F i d) → Qe y H') → g (.ref T) (wipe σ vs) H fun σ2 H2 => wipe σ2 vs = wipe σ vs ∧ te σ2 H2 Qe)
    (hQ : ∀ D acc H', H1 D = none → Same H1 H' → H' D = some (.lst acc) → DpAll K H' acc (ds.mapIdx F) → Q (.ref D) H') :
    tLc (iEnumS K ta) g tYes te vs σ H1 Q := by
  have el := dpAll_len hd
  have key : ∀ D, H1 D = none → ∀ i x H T, xs[i]? = some x → H T = none → (∃ acc, H D = some (.lst acc) ∧ Same H1 H ∧ DpAll K H acc ((ds.take i).mapIdx F)) → g (.ref T) (wipe σ vs) (upd H T (.tup [.int (i : Nat), x])) fun σ2 H2 => wipe σ2 vs = wipe σ vs ∧ tYes σ2 H2 fun b H3 =>
      if b = true then te σ2 H3 fun y H4 => ∃ acc, H4 D = some (.lst acc) ∧ acc.length < sizeLine ∧ (∃ acc', (upd H4 D (.lst (acc ++ [y]))) D = some (.lst acc') ∧ Same H1 (upd H4 D (.lst (acc ++ [y]))) ∧ DpAll K (upd H4 D (.lst (acc ++ [y]))) acc' ((ds.take (i + 1)).mapIdx F))
      else ∃ acc, H3 D = some (.lst acc) ∧ Same H1 H3 ∧ DpAll K H3 acc ((ds.take (i + 1)).mapIdx F) := by
    rintro D hD i x H T hx hT ⟨acc, hacc, hs, hda⟩
    have hi : i < ds.length := by rw [← el]; exact (List.getElem?_eq_some_iff.mp hx).1
    have hdi : ds[i]? = some ds[i] := by simp [hi]
    obtain ⟨v, hv, hvd⟩ := dpAll_get hd hdi
    rw [hx] at hv
    obtain rfl := Option.some.inj hv
    simp only [tyes_if]
    have sT : Same H (upd H T (.tup [.int (i : Nat), x])) := Same.new hT
    refine turn i x ds[i] T _ _ hdi (hs.trans sT) upd_same (dp_same (hs.trans sT) hvd) fun y H' hs' hy => ?_
    have hs2 := sT.trans hs'
    have hl9 : acc.length = i := by
      have := dpAll_len hda
      rw [List.length_mapIdx, List.length_take] at this; omega
    have sD : Same H1 (upd H' D (.lst (acc ++ [y]))) := fun b o e => by rw [upd_ne (ne_of_none e hD)]; exact hs2 _ _ (hs _ _ e)
    refine ⟨acc, hs2 _ _ hacc, by rw [hl9]; exact Nat.lt_of_le_of_lt (by omega : i ≤ 1000) (by decide), acc ++ [y], upd_same, sD, ?_⟩
    have em : (ds.take (i + 1)).mapIdx F = (ds.take i).mapIdx F ++ [F i ds[i]] := by
      rw [take_succ_of hdi, List.mapIdx_append]
      have : (ds.take i).length = i := by rw [List.length_take]; omega
      simp [this]
    rw [em]
    refine dpAll_append (dpAll_put (fun e he => ?_) (hs2 _ _ hacc) (dpAll_same hs2 hda)) (dpAll_put (fun e he => ?_) (hs2 _ _ hacc) (dpAll_one hy))
    · obtain ⟨j, hj, rfl⟩ := List.mem_mapIdx.mp he
      have hj2 : j < ds.length := by rw [List.length_take] at hj; omega
      have e9 : (ds.take i)[j] = ds[j] := by simp
      rw [e9]
      exact hF j ds[j] (by simp [hj2])
    · obtain rfl := List.mem_singleton.mp he
      exact hF i _ hdi
  have h0 : ∀ D, H1 D = none → ∃ acc, upd H1 D (.lst []) D = some (.lst acc) ∧ Same H1 (upd H1 D (.lst [])) ∧ DpAll K (upd H1 D (.lst [])) acc ((ds.take 0).mapIdx F) := fun D hD => ⟨[], upd_same, Same.new hD, .nil⟩
  have hfin : ∀ D, H1 D = none → ∀ H, (∃ acc, H D = some (.lst acc) ∧ Same H1 H ∧ DpAll K H acc ((ds.take xs.length).mapIdx F)) → Q (.ref D) H := fun D hD H ⟨acc, ha, hs, hda⟩ => by
    rw [el, List.take_length] at hda
    exact hQ D acc H hD hs ha hda
  have step : ∀ (D : Addr) (hD : H1 D = none) (J : It) (rd : Hp → Prop), (∀ H, Same H1 H → rd H) → (∀ i H, rd H → i < xs.length → J.go i H) → (∀ i H, rd H → xs.length ≤ i → J.stop i H) →
      (∀ i H v H', rd H → i < xs.length → J.yld i H v H' → ∃ T x, v = .ref T ∧ H T = none ∧ H' = upd H T (.tup [.int (i : Nat), x]) ∧ xs[i]? = some x) →
      ∃ W : Nat → Nat → Hp → Prop, (∃ m, W 0 m (upd H1 D (.lst []))) ∧ ∀ i m H, W i m H → (J.stop i H ∧ Q (.ref D) H) ∨ (J.go i H ∧ ∃ Nx : Hp → Prop, (∀ H', Nx H' → ∃ m', m' < m ∧ W (i + 1) m' H') ∧ ∀ x H', J.yld i H x H' → g x (wipe σ vs) H' fun σ2 H2 => wipe σ2 vs = wipe σ vs ∧ tYes σ2 H2 fun b H3 =>
        if b = true then te σ2 H3 fun y H4 => ∃ acc, H4 D = some (.lst acc) ∧ acc.length < sizeLine ∧ Nx (upd H4 D (.lst (acc ++ [y]))) else Nx H3) := by
    intro D hD J rd hrd hgo hstop hyld
    refine ⟨fun i m H => m = xs.length - i ∧ i ≤ xs.length ∧ ∃ acc, H D = some (.lst acc) ∧ Same H1 H ∧ DpAll K H acc ((ds.take i).mapIdx F), ⟨xs.length, by simp, Nat.zero_le _, h0 D hD⟩, ?_⟩
    rintro i m H ⟨rfl, hi, p⟩
    have r := hrd H (by obtain ⟨_, _, s, _⟩ := p; exact s)
    by_cases hlt : i < xs.length
    · refine .inr ⟨hgo i H r hlt, fun H' => ∃ acc, H' D = some (.lst acc) ∧ Same H1 H' ∧ DpAll K H' acc ((ds.take (i + 1)).mapIdx F), fun H' p' => ⟨xs.length - (i + 1), by omega, rfl, hlt, p'⟩, fun v H' y => ?_⟩
      obtain ⟨T, x, rfl, hT, rfl, hx⟩ := hyld i H v H' r hlt y
      exact key D hD i x H T hx hT p
    · obtain rfl : i = xs.length := by omega
      exact .inl ⟨hstop _ H r (Nat.le_refl _), hfin D hD H p⟩
  refine ht _ ⟨a, xs, rfl, ?_⟩
  rcases hq with h | h
  · refine .inl ⟨h, fun D hD => step D hD (Ite K a) (fun H => SqL K H a xs) (fun H s => s.seq h) (fun i H q hi => ⟨xs, xs[i], q, by simp [hi]⟩) (fun i H q hi => ⟨xs, q, hi⟩) (fun i H v H' q hi y => ?_)⟩
    obtain ⟨T, x, e1, e2, e3, e4⟩ := y
    exact ⟨T, x, e1, e2, e3, e4 xs q⟩
  · refine .inr ⟨h, fun D hD => step D hD (IteT K a) (fun H => SqT K H a xs) (fun H s => sqT_same s h) (fun i H q hi => ⟨xs, xs[i], q, by simp [hi]⟩) (fun i H q hi => ⟨xs, q, hi⟩) (fun i H v H' q hi y => ?_)⟩
    obtain ⟨T, x, e1, e2, e3, e4⟩ := y
    exact ⟨T, x, e1, e2, e3, e4 xs q⟩
theorem mapIdx_const {α β : Type} (F : α → β) (l : List α) : l.mapIdx (fun _ e => F e) = l.map F := by
  apply List.ext_getElem?
  intro i
  simp
/-! ### worlds of facts -/
def dB : PyData → Bool
  | .bool b => b
  | _ => false
/-- whether a condition holds among the facts -/
def dHolds (c : PyData) (bs : List Bool) : Bool := ((dItems c).getD []).all fun e => bs.getD (dVal (dAt e 0)).toNat false == dB (dAt e 1)
/-- whether a number is among data -/
def dHas (d : PyData) (j : Int) : Bool := ((dItems d).getD []).any fun e => dVal e == j
def dRule (d : PyData) (n : Int) : Bool := dRow d 3 3 && (dCond (dAt d 0) n && (dAscNums (dAt d 1) n && (dAscNums (dAt d 2) n && !(((dItems (dAt d 1)).getD []).any fun e => dHas (dAt d 2) (dVal e)))))
/-- the facts behind a deed -/
def chg (r : PyData) (bs : List Bool) : List Bool := bs.mapIdx fun j b => dHas (dAt r 1) j || (b && !dHas (dAt r 2) j)
def statesL (f : Nat) : List (List Bool) := (List.range (2 ^ f)).map fun k => (List.range f).map fun j => k.testBit j
def bitsD (bs : List Bool) : List PyData := bs.map PyData.bool
def fwMove (f : Nat) (r : PyData) (bs : List Bool) : PyData := if dHolds (dAt r 0) bs = true then .int ((statesL f).idxOf (chg r bs) : Nat) else .none
def fwS (f : Nat) : PyData := .tuple ((statesL f).map fun bs => .tuple (bitsD bs))
def fwM (f : Nat) (dd : PyData) : PyData := .tuple ((statesL f).map fun bs => .tuple (((dItems dd).getD []).map fun r => fwMove f r bs))
def errFw (df dd : PyData) : Flt := if dBtw df 0 4 = true then (if (dRow dd 1 5 && dAll (fun r => dRule r (dVal df)) dd) = true then none else fValue 2) else fValue 1
/-- holds(condition, facts) -/
def spHolds (K : PySem.W.Frag) : Sp := fun vs H Q _ => ∃ (x : V) (c : PyData) (n : Nat) (a : Addr) (bs : List Bool), vs = [x, .ref a] ∧ Dp K H x c ∧ Wf n c ∧ Seq K H a (bs.map V.bl) ∧ dCond c bs.length = true ∧ ∀ H', Same H H' → Q (.bl (dHolds c bs)) H'
/-- changed(held, rule): a new list -/
def spChanged (K : PySem.W.Frag) : Sp := fun vs H Q _ => ∃ (x : V) (r : PyData) (n : Nat) (a : Addr) (bs : List Bool), vs = [.ref a, x] ∧ Dp K H x r ∧ Wf n r ∧ Seq K H a (bs.map V.bl) ∧ bs.length ≤ 1000 ∧ dRule r bs.length = true ∧ ∀ p H', Same H H' → H' p = some (.lst ((chg r bs).map V.bl)) → Q (.ref p) H'
end Mw
set_option Elab.async false
set_option linter.all false
set_option maxRecDepth 100000
set_option maxHeartbeats 1000000
/-! Lists of new lists; the states of a world of facts. -/
namespace Mw
open PySem L2
/-- [[..] for i in range(n)]: each element a new list -/
theorem lc_rngL (n : Nat) (F : Nat → List V) {i0 : Nat} {j : Int} {ta : TA} {te : TE} {vs : List Nat} {σ : St} {H1 : Hp} {Q : VK} (ht : ∀ R, R [.int j] H1 → ta σ H1 R) (hj : j.toNat = n) (hj0 : -1000 ≤ j) (hz : n ≤ 1000)
    (hw : ∀ x : V, wipe ((wipe σ vs).set i0 (some x)) vs = wipe σ vs)
    (turn : ∀ (i : Nat) (H : Hp) (Qe : VK), i < n → Same H1 H → (∀ p H', Same H H' → H p = none → H' p = some (.lst (F i)) → Qe (.ref p) H') → te ((wipe σ vs).set i0 (some (.int (0 + (i : Int))))) H Qe)
    (hQ : ∀ D (ps : List Addr) H', H1 D = none → Same H1 H' → H' D = some (.lst (ps.map V.ref)) → ps.length = n → (∀ i p, ps[i]? = some p → H' p = some (.lst (F i)) ∧ H1 p = none) → Q (.ref D) H') :
    tLc (iRng1 ta) (gName i0) tYes te vs σ H1 Q := by
  refine ht _ ⟨j, rfl, ?_, ?_, ?_⟩
  · have e62 : (2 : Int) ^ 62 = 4611686018427387904 := by decide
    omega
  · have e62 : (2 : Int) ^ 62 = 4611686018427387904 := by decide
    omega
  rw [hj]
  intro D hD
  refine lc_range (lo := 0) (n := n) (fun i H => ∃ ps : List Addr, H D = some (.lst (ps.map V.ref)) ∧ Same H1 H ∧ ps.length = i ∧ ∀ k p, ps[k]? = some p → H p = some (.lst (F k)) ∧ p ≠ D ∧ H1 p = none) ⟨[], upd_same, Same.new hD, rfl, fun k p h => by simp at h⟩ ?_ (fun H ⟨ps, ha, hs, hl, hp⟩ => hQ D ps H hD hs ha hl fun i p h => ⟨(hp i p h).1, (hp i p h).2.2⟩)
  rintro i H hi ⟨ps, hacc, hs, hl, hp⟩
  refine ⟨hw _, ?_⟩
  dsimp only [tYes]
  rw [if_pos rfl]
  refine turn i H _ hi hs fun q H' hs' hn hy => ?_
  have qD : q ≠ D := fun e => by rw [e, hacc] at hn; cases hn
  refine ⟨ps.map V.ref, hs' _ _ hacc, by rw [List.length_map, hl]; exact Nat.lt_of_le_of_lt (by omega : i ≤ 1000) (by decide), ps ++ [q], by rw [upd_same, List.map_append]; rfl, fun b o e => by rw [upd_ne (ne_of_none e hD)]; exact hs' _ _ (hs _ _ e), by rw [List.length_append, hl]; rfl, fun k p h => ?_⟩
  by_cases hk : k < ps.length
  · rw [List.getElem?_append_left hk] at h
    obtain ⟨h1, h2, h3⟩ := hp k p h
    exact ⟨by rw [upd_ne h2]; exact hs' _ _ h1, h2, h3⟩
  · have hk2 : k = ps.length := by
      have := (List.getElem?_eq_some_iff.mp h).1
      rw [List.length_append] at this
      simp at this; omega
    subst hk2
    rw [List.getElem?_append_right (Nat.le_refl _)] at h
    simp at h
    subst h
    rw [hl]
    exact ⟨by rw [upd_ne qD]; exact hy, qD, hs.free hn⟩
theorem tseq {t u : TS} {D : Ends} {σ : St} {H : Hp} (h : t { D with nx := u D } σ H) : tSeq t u D σ H := h
theorem tasg {te : TE} {g : TG} {D : Ends} {σ : St} {H : Hp} (h : te σ H fun x H1 => g x σ H1 D.nx) : tAsg te g D σ H := h
theorem tcons1 {te : TE} {σ : St} {H : Hp} {Q : List V → Hp → Prop} (h : te σ H fun x H' => Q [x] H') : tCons te tNil σ H Q := h
theorem idxOf_le9 : ∀ {l : List (List Bool)} {m : Nat} {x : List Bool}, l[m]? = some x → l.idxOf x ≤ m
  | [], _, _, h => by simp at h
  | a :: l, 0, x, h => by
    simp at h
    subst h
    simp [List.idxOf_cons]
  | a :: l, m + 1, x, h => by
    have ih := idxOf_le9 (l := l) (m := m) (x := x) (by simpa using h)
    rw [List.idxOf_cons]
    cases q : (a == x) with
    | true => exact Nat.zero_le _
    | false => exact Nat.succ_le_succ ih
theorem states_all : ∀ f : Nat, f ≤ 4 → ∀ c : List Bool, c.length = f → c ∈ statesL f := by
  intro f hf c hc
  rcases c with _ | ⟨a, _ | ⟨b, _ | ⟨d, _ | ⟨e, _ | ⟨g, t⟩⟩⟩⟩⟩
  · subst hc; decide
  · subst hc; cases a <;> decide
  · subst hc; cases a <;> cases b <;> decide
  · subst hc; cases a <;> cases b <;> cases d <;> decide
  · subst hc; cases a <;> cases b <;> cases d <;> cases e <;> decide
  · exfalso; simp only [List.length_cons] at hc; omega
theorem canLay_bits : ∀ bs : List Bool, PyData.canLayAll0 (bitsD bs) = true
  | [] => by simp [bitsD, PyData.canLayAll0]
  | b :: bs => by
    have ih := canLay_bits bs
    unfold bitsD at ih ⊢
    rw [List.map_cons]
    simp [PyData.canLayAll0, PyData.canLay0, ih]
theorem depth_bits : ∀ bs : List Bool, PyData.depthAll (bitsD bs) ≤ 1
  | [] => by simp [bitsD, PyData.depthAll]
  | b :: bs => by
    have ih := depth_bits bs
    unfold bitsD at ih ⊢
    rw [List.map_cons]
    simp [PyData.depthAll, PyData.depth] <;> omega
theorem eqvAll_bits : ∀ a b : List Bool, PyData.eqvAll (bitsD a) (bitsD b) = decide (a = b)
  | [], [] => rfl
  | [], _ :: _ => rfl
  | _ :: _, [] => rfl
  | x :: a, y :: b => by
    have ih := eqvAll_bits a b
    show ((x == y) && PyData.eqvAll (bitsD a) (bitsD b)) = _
    rw [ih]
    by_cases h1 : x = y <;> by_cases h2 : a = b <;> simp [h1, h2]
end Mw
set_option Elab.async false
set_option linter.all false
set_option maxRecDepth 100000
set_option maxHeartbeats 1000000
/-! Data made anew of lists and tuples; what the law draws. -/
namespace Mw
open PySem L2
/-- H' without the lists that stood in H -/
def noLst (H H' : Hp) : Hp := fun b => match H b with
  | some (.lst _) => none
  | _ => H' b
theorem noLst_some {H H' : Hp} {b : Addr} {o : HO} (h : noLst H H' b = some o) : H' b = some o ∧ ∀ l, H b ≠ some (.lst l) := by
  unfold noLst at h
  split at h
  · cases h
  · rename_i hn
    exact ⟨h, fun l e => hn l e⟩
theorem noLst_of {H H' : Hp} {b : Addr} {o : HO} (h : H' b = some o) (hn : ∀ l, H b ≠ some (.lst l)) : noLst H H' b = some o := by
  unfold noLst
  split
  · rename_i l e
    exact absurd e (hn l)
  · exact h
theorem noLst_sub {H H' : Hp} : Same (noLst H H') H' := fun _ _ e => (noLst_some e).1
/-- data that leans on no list that stood before -/
theorem dp_fresh {K : PySem.W.Frag} {H H' : Hp} {y : V} {d : PyData} (h : Dp K (noLst H H') y d) : Dp K H' y d := dp_same noLst_sub h
theorem td_fresh {K : PySem.W.Frag} {H H' : Hp} {n : Nat} {d : PyData} (t : Td n d) (s : Same H H') : ∀ {y : V}, Dp K H y d → Dp K (noLst H H') y d := by
  induction t with
  | non => intro y h; cases h; exact .non
  | bl b => intro y h; cases h; exact .bl b
  | int i => intro y h; cases h; exact .int i
  | str x => intro y h; cases h; exact .str x
  | @tup n ds z _ ih =>
    intro y h
    cases h with
    | @tup a xs _ hs ha =>
      refine .tup (xs := xs) ?_ ?_
      · rcases hs with (e | ⟨o, e⟩) | e
        · exact .inl (.inl (noLst_of (s _ _ e) fun l q => by rw [e] at q; cases q))
        · exact .inl (.inr ⟨o, noLst_of (s _ _ e) fun l q => by rw [e] at q; cases q⟩)
        · exact .inr e
      · clear hs z
        have all : ∀ (ds' : List PyData) (vs : List V), (∀ d ∈ ds', d ∈ ds) → DpAll K H vs ds' → DpAll K (noLst H H') vs ds' := by
          intro ds'
          induction ds' with
          | nil => intro vs _ h; cases h; exact .nil
          | cons e r ihr =>
            intro vs hm h
            cases h with
            | cons h1 h2 => exact .cons (ih e (hm e List.mem_cons_self) h1) (ihr _ (fun d hd => hm d (List.mem_cons_of_mem _ hd)) h2)
        exact all ds xs (fun _ h => h) ha
mutual
def dLoose : PyData → Int → PyData
  | .tuple xs, t => if t % 2 = 0 then .list (dLooses xs (t + 1)) else .tuple (dLooses xs (t + 1))
  | .list xs, _ => .list xs
  | .none, _ => .none
  | .bool b, _ => .bool b
  | .int i, _ => .int i
  | .str x, _ => .str x
  | .dict kvs, _ => .dict kvs
def dLooses : List PyData → Int → List PyData
  | [], _ => []
  | x :: xs, t => dLoose x t :: dLooses xs t
end
theorem dLooses_map : ∀ (xs : List PyData) (t : Int), dLooses xs t = xs.map fun d => dLoose d t
  | [], _ => rfl
  | x :: xs, t => by rw [List.map_cons, ← dLooses_map xs]; rfl
theorem loose_tup (ds : List PyData) (t : Int) : dLoose (.tuple ds) t = if t % 2 = 0 then .list (ds.map fun d => dLoose d (t + 1)) else .tuple (ds.map fun d => dLoose d (t + 1)) := by
  show (if t % 2 = 0 then PyData.list (dLooses ds (t + 1)) else .tuple (dLooses ds (t + 1))) = _
  rw [dLooses_map]
theorem plain_loose {n : Nat} {d : PyData} (h : Td n d) : ∀ t : Int, dPlain (dLoose d t) = d := by
  induction h with
  | non => intro t; rfl
  | bl b => intro t; rfl
  | int i => intro t; rfl
  | str x => intro t; rfl
  | @tup n ds z _ ih =>
    intro t
    have e : (ds.map fun d => dLoose d (t + 1)).map dPlain = ds := by
      rw [List.map_map]
      have : ds.map (dPlain ∘ fun d => dLoose d (t + 1)) = ds.map id := List.map_congr_left fun d hd => ih d hd (t + 1)
      rw [this, List.map_id]
    rw [loose_tup]
    split
    · show PyData.tuple (dPlains _) = _
      rw [dPlains_map, e]
    · show PyData.tuple (dPlains _) = _
      rw [dPlains_map, e]
theorem wf_loose {n : Nat} {d : PyData} (h : Td n d) : ∀ t : Int, Wf n (dLoose d t) := by
  induction h with
  | non => intro t; exact .non
  | bl b => intro t; exact .bl b
  | int i => intro t; exact .int i
  | str x => intro t; exact .str x
  | @tup n ds z _ ih =>
    intro t
    rw [loose_tup]
    split
    · exact .lst (by rw [List.length_map]; exact z) fun d hd => by obtain ⟨e, he, rfl⟩ := List.mem_map.mp hd; exact ih e he _
    · exact .tup (by rw [List.length_map]; exact z) fun d hd => by obtain ⟨e, he, rfl⟩ := List.mem_map.mp hd; exact ih e he _
def spLoose (K : PySem.W.Frag) (n : Nat) : Sp := fun vs H Q _ => ∃ (x : V) (d : PyData) (m : Nat) (t : Int), vs = [x, .int t] ∧ Dp K H x d ∧ Td m d ∧ m < n ∧ ∀ y H', Same H H' → Dp K (noLst H H') y (dLoose d t) → Q y H'
/-- [e for x in value], each element made anew -/
theorem lc_dpF {K : PySem.W.Frag} {a : Addr} {xs : List V} {ds : List PyData} (F : PyData → PyData) {i0 : Nat} {tl te : TE} {vs : List Nat} {σ : St} {H1 : Hp} {Q : VK} (ht : ∀ R, R (.ref a) H1 → tl σ H1 R) (hq : Seq K H1 a xs) (hd : DpAll K H1 xs ds) (hz : ds.length ≤ 1000)
    (hw : ∀ x : V, wipe ((wipe σ vs).set i0 (some x)) vs = wipe σ vs)
    (turn : ∀ (i : Nat) (x : V) (d : PyData) (H : Hp) (Qe : VK), ds[i]? = some d → Same H1 H → Dp K H x d → (∀ y H', Same H H' → Dp K (noLst H H') y (F d) → Qe y H') → te ((wipe σ vs).set i0 (some x)) H Qe)
    (hQ : ∀ D acc H', H1 D = none → Same H1 H' → H' D = some (.lst acc) → DpAll K (del (noLst H1 H') D) acc (ds.map F) → Q (.ref D) H') :
    tLc (iSeq K tl) (gName i0) tYes te vs σ H1 Q := by
  have el := dpAll_len hd
  have key : ∀ D, H1 D = none → ∀ i x H, xs[i]? = some x → (∃ acc, H D = some (.lst acc) ∧ Same H1 H ∧ DpAll K (del (noLst H1 H) D) acc ((ds.take i).map F)) → gName i0 x (wipe σ vs) H fun σ2 H2 => wipe σ2 vs = wipe σ vs ∧ tYes σ2 H2 fun b H3 =>
      if b = true then te σ2 H3 fun y H4 => ∃ acc, H4 D = some (.lst acc) ∧ acc.length < sizeLine ∧ (∃ acc', (upd H4 D (.lst (acc ++ [y]))) D = some (.lst acc') ∧ Same H1 (upd H4 D (.lst (acc ++ [y]))) ∧ DpAll K (del (noLst H1 (upd H4 D (.lst (acc ++ [y])))) D) acc' ((ds.take (i + 1)).map F))
      else ∃ acc, H3 D = some (.lst acc) ∧ Same H1 H3 ∧ DpAll K (del (noLst H1 H3) D) acc ((ds.take (i + 1)).map F) := by
    rintro D hD i x H hx ⟨acc, hacc, hs, hda⟩
    have hi : i < ds.length := by rw [← el]; exact (List.getElem?_eq_some_iff.mp hx).1
    have hdi : ds[i]? = some ds[i] := by simp [hi]
    obtain ⟨v, hv, hvd⟩ := dpAll_get hd hdi
    rw [hx] at hv
    obtain rfl := Option.some.inj hv
    simp only [tyes_if]
    refine ⟨hw x, turn i x ds[i] H _ hdi hs (dp_same hs hvd) fun y H' hs' hy => ?_⟩
    have hl9 : acc.length = i := by
      have := dpAll_len hda
      rw [List.length_map, List.length_take] at this; omega
    have sD : Same H1 (upd H' D (.lst (acc ++ [y]))) := fun b o e => by rw [upd_ne (ne_of_none e hD)]; exact hs' _ _ (hs _ _ e)
    refine ⟨acc, hs' _ _ hacc, by rw [hl9]; exact Nat.lt_of_le_of_lt (by omega : i ≤ 1000) (by decide), acc ++ [y], upd_same, sD, ?_⟩
    rw [take_succ_of hdi, List.map_append]
    refine dpAll_append (dpAll_same (fun b o e => ?_) hda) (dpAll_one (dp_same (fun b o e => ?_) hy))
    · have bD : b ≠ D := fun z => by rw [z, del_same] at e; cases e
      rw [del_ne bD] at e ⊢
      obtain ⟨e1, e2⟩ := noLst_some e
      exact noLst_of (by rw [upd_ne bD]; exact hs' _ _ e1) e2
    · obtain ⟨e1, e2⟩ := noLst_some e
      have bD : b ≠ D := fun z => e2 acc (by rw [z]; exact hacc)
      rw [del_ne bD]
      refine noLst_of (by rw [upd_ne bD]; exact e1) fun l q => ?_
      exact e2 l (hs _ _ q)
  have h0 : ∀ D, H1 D = none → ∃ acc, upd H1 D (.lst []) D = some (.lst acc) ∧ Same H1 (upd H1 D (.lst [])) ∧ DpAll K (del (noLst H1 (upd H1 D (.lst []))) D) acc ((ds.take 0).map F) := fun D hD => ⟨[], upd_same, Same.new hD, .nil⟩
  have hfin : ∀ D, H1 D = none → ∀ H, (∃ acc, H D = some (.lst acc) ∧ Same H1 H ∧ DpAll K (del (noLst H1 H) D) acc ((ds.take xs.length).map F)) → Q (.ref D) H := fun D hD H ⟨acc, ha, hs, hda⟩ => by
    rw [el, List.take_length] at hda
    exact hQ D acc H hD hs ha hda
  refine ht _ ⟨a, xs, rfl, ?_⟩
  rcases hq with h | h
  · exact .inl ⟨h, fun D hD => lc_list (K := K) (a := a) (xs := xs) (fun i H => ∃ acc, H D = some (.lst acc) ∧ Same H1 H ∧ DpAll K (del (noLst H1 H) D) acc ((ds.take i).map F)) (h0 D hD) (fun i H _ ⟨_, _, s, _⟩ => s.seq h) (fun i x H hx p => key D hD i x H hx p) (hfin D hD)⟩
  · exact .inr ⟨h, fun D hD => lc_tup (K := K) (a := a) (xs := xs) (fun i H => ∃ acc, H D = some (.lst acc) ∧ Same H1 H ∧ DpAll K (del (noLst H1 H) D) acc ((ds.take i).map F)) (h0 D hD) (fun i H _ ⟨_, _, s, _⟩ => sqT_same s h) (fun i x H hx p => key D hD i x H hx p) (hfin D hD)⟩
/-! ### checks do not tell lists from tuples -/
theorem items_plain (d : PyData) : dItems (dPlain d) = (dItems d).map (List.map dPlain) := by
  cases d <;> first | rfl | (show some (dPlains _) = some _; rw [dPlains_map])
theorem btw_plain (d : PyData) (i j : Int) : dBtw (dPlain d) i j = dBtw d i j := by cases d <;> rfl
theorem num_plain (d : PyData) (i : Int) : dNum (dPlain d) i = dNum d i := btw_plain d _ _
theorem bool_plain (d : PyData) : dBool (dPlain d) = dBool d := by cases d <;> rfl
theorem dB_plain (d : PyData) : dB (dPlain d) = dB d := by cases d <;> rfl
theorem val_plain (d : PyData) : dVal (dPlain d) = dVal d := by cases d <;> rfl
theorem none_plain (d : PyData) : dNone (dPlain d) = dNone d := by cases d <;> rfl
theorem row_plain (d : PyData) (i j : Int) : dRow (dPlain d) i j = dRow d i j := by
  unfold dRow
  rw [items_plain]
  cases dItems d with
  | none => rfl
  | some xs => show (decide (i ≤ ((xs.map dPlain).length : Int)) && decide (((xs.map dPlain).length : Int) ≤ j)) = _; rw [List.length_map]
theorem at_plain (d : PyData) (i : Nat) : dAt (dPlain d) i = dPlain (dAt d i) := by
  unfold dAt
  rw [items_plain]
  cases dItems d with
  | none => show ([] : List PyData).getD i .none = dPlain (([] : List PyData).getD i .none); rfl
  | some xs =>
    show (xs.map dPlain).getD i .none = dPlain (xs.getD i .none)
    rw [List.getD_eq_getElem?_getD, List.getD_eq_getElem?_getD, List.getElem?_map]
    cases xs[i]? <;> rfl
theorem all_plain {f g : PyData → Bool} (h : ∀ d, f (dPlain d) = g d) (d : PyData) : dAll f (dPlain d) = dAll g d := by
  unfold dAll
  rw [items_plain]
  cases dItems d with
  | none => rfl
  | some xs =>
    show (xs.map dPlain).all f = xs.all g
    rw [List.all_map]
    congr 1
    funext e; exact h e
theorem any_plain {f g : PyData → Bool} (h : ∀ d, f (dPlain d) = g d) (d : PyData) : ((dItems (dPlain d)).getD []).any f = ((dItems d).getD []).any g := by
  rw [items_plain]
  cases dItems d with
  | none => rfl
  | some xs =>
    show (xs.map dPlain).any f = xs.any g
    rw [List.any_map]
    congr 1
    funext e; exact h e
theorem map_plain {β : Type} {f g : PyData → β} (h : ∀ d, f (dPlain d) = g d) (d : PyData) : ((dItems (dPlain d)).getD []).map f = ((dItems d).getD []).map g := by
  rw [items_plain]
  cases dItems d with
  | none => rfl
  | some xs =>
    show (xs.map dPlain).map f = xs.map g
    rw [List.map_map]
    congr 1
    funext e; exact h e
theorem all_plain2 {f g : PyData → Bool} (h : ∀ d, f (dPlain d) = g d) (d : PyData) : ((dItems (dPlain d)).getD []).all f = ((dItems d).getD []).all g := by
  rw [items_plain]
  cases dItems d with
  | none => rfl
  | some xs =>
    show (xs.map dPlain).all f = xs.all g
    rw [List.all_map]
    congr 1
    funext e; exact h e
theorem wanted_plain (d : PyData) (n : Int) : dWanted (dPlain d) n = dWanted d n := by unfold dWanted; rw [row_plain, at_plain, at_plain, num_plain, bool_plain]
theorem cond_plain (d : PyData) (n : Int) : dCond (dPlain d) n = dCond d n := by
  unfold dCond
  rw [all_plain (g := fun e => dWanted e n) fun e => wanted_plain e n, map_plain (g := fun e => dVal (dAt e 0)) fun e => by rw [at_plain, val_plain]]
theorem nums_plain (d : PyData) (n : Int) : dNums (dPlain d) n = dNums d n := all_plain (fun e => num_plain e n) d
theorem ascnums_plain (d : PyData) (n : Int) : dAscNums (dPlain d) n = dAscNums d n := by
  unfold dAscNums
  rw [nums_plain, map_plain (g := dVal) val_plain]
theorem has_plain (d : PyData) (j : Int) : dHas (dPlain d) j = dHas d j := any_plain (fun e => by rw [val_plain]) d
theorem rule_plain (d : PyData) (n : Int) : dRule (dPlain d) n = dRule d n := by
  unfold dRule
  rw [row_plain, at_plain, at_plain, at_plain, cond_plain, ascnums_plain, ascnums_plain]
  rw [any_plain (g := fun e => dHas (dAt d 2) (dVal e)) fun e => by rw [has_plain, val_plain]]
theorem holds_plain (c : PyData) (bs : List Bool) : dHolds (dPlain c) bs = dHolds c bs := all_plain2 (fun e => by rw [at_plain, at_plain, val_plain, dB_plain]) c
theorem chg_plain (r : PyData) (bs : List Bool) : chg (dPlain r) bs = chg r bs := by
  unfold chg
  rw [at_plain, at_plain]
  congr 1
  funext j b
  rw [has_plain, has_plain]
theorem move_plain (f : Nat) (r : PyData) (bs : List Bool) : fwMove f (dPlain r) bs = fwMove f r bs := by unfold fwMove; rw [at_plain, holds_plain, chg_plain]
theorem fwM_plain (f : Nat) (d : PyData) : fwM f (dPlain d) = fwM f d := by
  unfold fwM
  congr 1
  refine List.map_congr_left fun bs _ => ?_
  rw [map_plain (g := fun r => fwMove f r bs) fun r => move_plain f r bs]
theorem errFw_plain (df dd : PyData) : errFw df (dPlain dd) = errFw df dd := by
  unfold errFw
  rw [row_plain, all_plain (g := fun r => dRule r (dVal df)) fun r => rule_plain r _]
/-- data without lists, where all but the list at sp stands -/
theorem dp_grow {K : PySem.W.Frag} {sp : Addr} {H H' : Hp} {l : List V} (hl : H sp = some (.lst l)) (g : Grow sp H H') {n : Nat} {d : PyData} (t : Td n d) : ∀ {y : V}, Dp K H y d → Dp K H' y d := by
  induction t with
  | non => intro y h; cases h; exact .non
  | bl b => intro y h; cases h; exact .bl b
  | int i => intro y h; cases h; exact .int i
  | str x => intro y h; cases h; exact .str x
  | @tup n ds z _ ih =>
    intro y h
    cases h with
    | @tup a xs _ hs ha =>
      refine .tup (xs := xs) ?_ ?_
      · rcases hs with (e | ⟨o, e⟩) | e
        · exact .inl (.inl (g _ _ (fun q => by rw [q, hl] at e; cases e) e))
        · exact .inl (.inr ⟨o, g _ _ (fun q => by rw [q, hl] at e; cases e) e⟩)
        · exact .inr e
      · clear hs z
        have all : ∀ (ds' : List PyData) (vs : List V), (∀ d ∈ ds', d ∈ ds) → DpAll K H vs ds' → DpAll K H' vs ds' := by
          intro ds'
          induction ds' with
          | nil => intro vs _ h; cases h; exact .nil
          | cons e r ihr =>
            intro vs hm h
            cases h with
            | cons h1 h2 => exact .cons (ih e (hm e List.mem_cons_self) h1) (ihr _ (fun d hd => hm d (List.mem_cons_of_mem _ hd)) h2)
        exact all ds xs (fun _ h => h) ha
theorem dpAll_grow {K : PySem.W.Frag} {sp : Addr} {H H' : Hp} {l : List V} (hl : H sp = some (.lst l)) (g : Grow sp H H') : ∀ {ds : List PyData} {vs : List V}, (∀ d ∈ ds, ∃ n, Td n d) → DpAll K H vs ds → DpAll K H' vs ds
  | [], _, _, h => by cases h; exact .nil
  | d :: ds, _, ht, h => by
    cases h with
    | cons h1 h2 =>
      obtain ⟨n, t⟩ := ht d List.mem_cons_self
      exact .cons (dp_grow hl g t h1) (dpAll_grow hl g (fun e he => ht e (List.mem_cons_of_mem _ he)) h2)
theorem Rolls.lst {r sp : Addr} {H : Hp} (R : Rolls r sp H) : ∃ l, H sp = some (.lst l) := by obtain ⟨_, _, n, e⟩ := R; exact ⟨_, e⟩
theorem Grow.put {sp p : Addr} {H X : Hp} {o : HO} (g : Grow sp H X) (n : H p = none) : Grow sp H (upd X p o) := fun b u nb e => by rw [upd_ne (ne_of_none e n)]; exact g b u nb e
theorem Rolls.rowAt {r sp : Addr} {H : Hp} (R : Rolls r sp H) : ∃ l, H r = some (.lst l) := by obtain ⟨_, ⟨ns, _, e⟩, _⟩ := R; exact ⟨_, e⟩
/-- the law's own promise -/
def spLaw (K : PySem.W.Frag) : Sp := fun vs H Q _ => ∃ (a : Addr) (ns : List Int), vs = [.ref a] ∧ SqL K H a (ns.map V.int) ∧ ns.length ≤ 63 ∧ (∀ z ∈ ns, Builtin.Int.intBits z ≤ 1048576) ∧ ∀ H', Q (.bl true) H'
theorem walkL {l : PySem.W.OpenLaw} {q : Program} {loose : List Str} {XP : (Str → Option Value) → Heap → Prop} {YP : World → Heap → Prop} {d : DefRec} {K : Params → PySem.W.Frag} (hn : l.most = some 63) (hdf : d.params.defaults = [])
    (hY : ∀ (w : World) (h : Heap), YP w h → (K w.params).In h)
    (F : ∀ (w : World) (mg : Str → Option Value) (fa : Addr) (h : Heap), (K w.params).In h → h.Ns mainGlobals mg → mg d.name = some (.ref fa) →
      ∃ fd : FuncData, (∀ (s : Shared) (u : Value), BindsTo s fd ⟨[u], []⟩ [("script", u)]) ∧ ∀ base : Heap, (K w.params).In base → base.Ns mainGlobals mg → FnOk l.prog w (K w.params) mg base CX0 60 fa fd ["script"] (spLaw (K w.params))) :
    PySem.W.WalkO q loose XP YP l.row.toRowW d [] (fun f vs => PySem.call f vs) :=
  L2.walk_ofB (n := 63) (k := 60) (x := "script") (CX := fun _ => CX0) (sp := fun w => spLaw (K w.params)) hn (by decide) hdf ⟨rfl, by decide, by decide⟩ hY F (fun _ _ a ns hl hb _ hS => ⟨a, ns, rfl, hS, hl, hb, fun _ => rfl⟩) fun _ _ _ _ _ z => z
section
variable {X : Cx} {x : Str} {k : Nat} {ps : List Str} {sp : Sp} {e : Expr} {es : List Expr} {t : TA} {p pos : Pos}
/-- the call of a def that may raise, where it does not -/
theorem pe_fnL (C : Cal X.prog X.w X.K X.mg X.base (L2.CX X.prog X.w) x k ps sp) (hr : Room k X.A) (ha : PA X (e :: es) t) (hg : Gl X x := by rfl)
    (hdb : (x == ("__debug__" : Str)) = false := by decide) (he : starEach (e :: es) X.env = (false, eval e X.env) :: starEach es X.env := by rfl) (hpl : (backTo pos (starEach es X.env)).any (·.1) = false := by rfl) :
    PE X (.Call (.Name x p) (e :: es) [] pos) (tCall sp [] E0 t) := by
  obtain ⟨f, fd, g, kp, b, F⟩ := C
  exact pe_call F hr hg g kp b .nil passL ha hdb he hpl
end
/-- a property that hands an attribute back -/
def PDef (K : PySem.W.Frag) (C : Addr) (f qual : Str) (st : Stmt) : Prop := Cls K C ∧ ∃ (p g : Addr) (fd : FuncData), PropOf K C f p g ∧ Fun K f qual st g fd ∧ Binds K fd ["self"] []
def PCal (P : Program) (w : World) (K : PySem.W.Frag) (mg : Str → Option Value) (base : Heap) (C : Addr) (f : Str) (sp : Sp) : Prop := Cls K C ∧ ∃ (p g : Addr) (fd : FuncData), PropOf K C f p g ∧ FnOk P w K mg base CX0 1 g fd ["self"] sp ∧ Binds K fd ["self"] []
theorem PDef.ok {P : Program} {w : World} {K : PySem.W.Frag} {mg : Str → Option Value} {base : Heap} {C : Addr} {f qual : Str} {st : Stmt} {N : List Str} {sp : Sp} (D : PDef K C f qual st) (S : FnScope N ["self"] (defScope st)) (len : ∀ vs H Q E, sp vs H Q E → vs.length = 1)
    (hbody : ∀ (f : Addr) (cdv : Value) (A : Around) (outer : List Env) (s : Shared) (H : Hp) (vs : List V) (Q : VK) (E : XK), Room 0 (A.deeper (PyProof.Rows.envOfC qual (defScope st) s.heap.objs.size f cdv)) → sp vs H Q E →
      ∃ t, PSs (cxOf CX0 P w K mg base N qual (defScope st) f cdv A outer s H E).nox (defBody st) t ∧ t { nx := fun _ H' => Q .non H', rt := Q } (start N vs) H) : PCal P w K mg base C f sp := by
  obtain ⟨c, p, g, fd, hp, F, b⟩ := D
  exact ⟨c, p, g, fd, hp, F.ok S len (hbody g), b⟩
theorem pe_get {X : Cx} {C : Addr} {f : Str} {sp : Sp} {e : Expr} {ta : TE} {pos : Pos} {k : Nat} (c : PCal X.prog X.w X.K X.mg X.base C f sp) (hr : Room (k + 2) X.A) (he : PE X e ta) (hab : attributeBase e f X.env (eval e X.env) = eval e X.env := by rfl) : PE X (.Attribute e f pos) (tProp C sp [] E0 ta) := by
  obtain ⟨cl, p, g, fd, hp, F, b⟩ := c
  exact pe_prop he cl hp F (hr.mono (by omega)) b .nil pass0 hab
end Mw
set_option Elab.async false
set_option maxRecDepth 100000
set_option maxHeartbeats 4000000
namespace Mw
open PySem L2
def topS (i : Nat) : Stmt := PySem.Challenge.pw_methodworlds_k04_worlds_of_facts.main.body.getD i (.Pass ⟨0, 0, 0, 0⟩)
/-- the built-ins are what they were -/
structure Bi (mg : Str → Option Value) : Prop where
  len : mg "len" = none
  range : mg "range" = none
  int : mg "int" = none
  bool : mg "bool" = none
  str : mg "str" = none
  tuple : mg "tuple" = none
  list : mg "list" = none
  all : mg "all" = none
  any : mg "any" = none
  enumerate : mg "enumerate" = none
  g_MOST_STATES : ∃ t, mg "MOST_STATES" = some (.int 16 t)
  g_MOST_DEEDS : ∃ t, mg "MOST_DEEDS" = some (.int 5 t)
  g_MOST_FACTS : ∃ t, mg "MOST_FACTS" = some (.int 4 t)
  isinstance : mg "isinstance" = none
/-! ### methodworlds.kinds -/
abbrev S_is_integer : Stmt := topS 1
abbrev N_is_integer : List Str := ["value"]
abbrev P_is_integer : List Str := ["value"]
theorem sc_is_integer : FnScope N_is_integer P_is_integer (defScope S_is_integer) := ⟨rfl, rfl, rfl, by decide +kernel, rfl, by decide +kernel, by decide +kernel⟩
abbrev S_is_between : Stmt := topS 2
abbrev N_is_between : List Str := ["value", "low", "high"]
abbrev P_is_between : List Str := ["value", "low", "high"]
theorem sc_is_between : FnScope N_is_between P_is_between (defScope S_is_between) := ⟨rfl, rfl, rfl, by decide +kernel, rfl, by decide +kernel, by decide +kernel⟩
abbrev S_is_number : Stmt := topS 3
abbrev N_is_number : List Str := ["value", "many"]
abbrev P_is_number : List Str := ["value", "many"]
theorem sc_is_number : FnScope N_is_number P_is_number (defScope S_is_number) := ⟨rfl, rfl, rfl, by decide +kernel, rfl, by decide +kernel, by decide +kernel⟩
abbrev S_is_sequence : Stmt := topS 4
abbrev N_is_sequence : List Str := ["value"]
abbrev P_is_sequence : List Str := ["value"]
theorem sc_is_sequence : FnScope N_is_sequence P_is_sequence (defScope S_is_sequence) := ⟨rfl, rfl, rfl, by decide +kernel, rfl, by decide +kernel, by decide +kernel⟩
abbrev S_is_row : Stmt := topS 5
abbrev N_is_row : List Str := ["value", "low", "high"]
abbrev P_is_row : List Str := ["value", "low", "high"]
theorem sc_is_row : FnScope N_is_row P_is_row (defScope S_is_row) := ⟨rfl, rfl, rfl, by decide +kernel, rfl, by decide +kernel, by decide +kernel⟩
abbrev S_is_ascending : Stmt := topS 6
abbrev N_is_ascending : List Str := ["row", "at"]
abbrev P_is_ascending : List Str := ["row"]
theorem sc_is_ascending : FnScope N_is_ascending P_is_ascending (defScope S_is_ascending) := ⟨rfl, rfl, rfl, by decide +kernel, rfl, by decide +kernel, by decide +kernel⟩
abbrev S_are_facts : Stmt := topS 9
abbrev N_are_facts : List Str := ["value", "many", "each"]
abbrev P_are_facts : List Str := ["value", "many"]
theorem sc_are_facts : FnScope N_are_facts P_are_facts (defScope S_are_facts) := ⟨rfl, rfl, rfl, by decide +kernel, rfl, by decide +kernel, by decide +kernel⟩
abbrev S_plain : Stmt := topS 10
abbrev N_plain : List Str := ["value", "each"]
abbrev P_plain : List Str := ["value"]
theorem sc_plain : FnScope N_plain P_plain (defScope S_plain) := ⟨rfl, rfl, rfl, by decide +kernel, rfl, by decide +kernel, by decide +kernel⟩
section
variable {P : Program} {w : World} {K : PySem.W.Frag} {mg : Str → Option Value} {base : Heap}
theorem cal_is_integer (T : Bi mg) (D : Def K mg "is_integer" S_is_integer P_is_integer) : Cal P w K mg base CX0 "is_integer" 1 P_is_integer (spB1 K dInt) := by
  refine D.cal sc_is_integer (fun vs H Q E h => ?_) (fun f cdv A outer s H vs Q E hr h => ?_)
  · obtain ⟨x, d, n, rfl, _⟩ := h; rfl
  · obtain ⟨x, d, n, rfl, hd, hw, kq⟩ := h
    refine ⟨_, (pss_one (ps_ret (pe_and (pe_callB (id := "isinstance") call_isi (by rfl) T.isinstance (by decide +kernel) (pa_cons (pv 0) (pa_cons (pe_bltn (v := .ty "int") (by rfl) T.int (by decide +kernel) rfl) pa_nil))) (pe_one (pe_not (pe_callB (id := "isinstance") call_isi (by rfl) T.isinstance (by decide +kernel) (pa_cons (pv 0) (pa_cons (pe_bltn (v := .ty "bool") (by rfl) T.bool (by decide +kernel) rfl) pa_nil)))))))), ?_⟩
    refine ⟨_, rfl, _, _, _, _, _, rfl, .ty "int", dp_ty hd, kit_int hd, _, rfl, ?_⟩
    refine ite2 (fun c => ?_) (fun c => ?_)
    · refine ⟨_, rfl, _, _, _, _, _, rfl, .ty "bool", dp_ty hd, kit_bool hd, _, rfl, ?_⟩
      have e : (!dBool d) = dInt d := by cases d <;> simp_all [dInt, dBool]
      rw [e]; exact kq _ (Same.refl _)
    · have e : dInt d = false := by cases d <;> simp_all [dInt, dBool]
      have k := kq _ (Same.refl _)
      rw [e] at k; exact k
theorem cal_is_between (T : Bi mg) (C_is_integer : Cal P w K mg base CX0 "is_integer" 1 P_is_integer (spB1 K dInt)) (D : Def K mg "is_between" S_is_between P_is_between) : Cal P w K mg base CX0 "is_between" 2 P_is_between (spB3 K dBtw) := by
  refine D.cal sc_is_between (fun vs H Q E h => ?_) (fun f cdv A outer s H vs Q E hr h => ?_)
  · obtain ⟨x, d, n, i, j, rfl, _⟩ := h; rfl
  · obtain ⟨x, d, n, i, j, rfl, hd, hw, kq⟩ := h
    refine ⟨_, (pss_one (ps_ret (pe_and (pe_fn C_is_integer hr (pa_cons (pv 0) pa_nil)) (pe_one (pe_chain op_le op_le (pv 1) (pv 0) (pv 2)))))), ?_⟩
    refine ⟨_, rfl, x, d, n, rfl, hd, hw, fun H1 s1 => ⟨_, rfl, ?_⟩⟩
    refine ite2 (fun c => ?_) (fun c => ?_)
    · cases hd with
      | int z =>
        refine ⟨_, rfl, _, rfl, _, _, rfl, rfl, _, rfl, ?_⟩
        have k := kq _ s1
        refine ite2 (fun c2 => ?_) (fun c2 => ?_)
        · refine ⟨_, rfl, _, _, rfl, rfl, ?_⟩
          have e : dBtw (.int z) i j = decide (z ≤ j) := by show (decide (i ≤ z) && decide (z ≤ j)) = _; rw [c2, Bool.true_and]
          rw [e] at k; exact k
        · have e : dBtw (.int z) i j = false := by show (decide (i ≤ z) && decide (z ≤ j)) = _; rw [Bool.eq_false_iff.mpr c2, Bool.false_and]
          rw [e] at k; exact k
      | non => exact (Bool.false_ne_true c).elim
      | bl b => exact (Bool.false_ne_true c).elim
      | str z => exact (Bool.false_ne_true c).elim
      | lst _ _ => exact (Bool.false_ne_true c).elim
      | tup _ _ => exact (Bool.false_ne_true c).elim
    · have e : dBtw d i j = false := by cases d <;> first | rfl | exact absurd rfl c
      have k := kq _ s1
      rw [e] at k; exact k
theorem cal_is_number (_ : Bi mg) (C_is_between : Cal P w K mg base CX0 "is_between" 2 P_is_between (spB3 K dBtw)) (D : Def K mg "is_number" S_is_number P_is_number) : Cal P w K mg base CX0 "is_number" 3 P_is_number (spB2 K dNum) := by
  refine D.cal sc_is_number (fun vs H Q E h => ?_) (fun f cdv A outer s H vs Q E hr h => ?_)
  · obtain ⟨x, d, n, i, rfl, _⟩ := h; rfl
  · obtain ⟨x, d, n, i, rfl, hd, hw, kq⟩ := h
    refine ⟨_, (pss_one (ps_ret (pe_fn C_is_between hr (pa_cons (pv 0) (pa_cons pe_int (pa_cons (pe_op op_sub (pv 1) pe_int) pa_nil)))))), ?_⟩
    exact ⟨_, rfl, _, rfl, _, _, rfl, rfl, x, d, n, 0, i - 1, rfl, hd, hw, fun H1 s1 => kq H1 s1⟩
theorem cal_is_sequence (T : Bi mg) (D : Def K mg "is_sequence" S_is_sequence P_is_sequence) : Cal P w K mg base CX0 "is_sequence" 1 P_is_sequence (spB1 K dSeq) := by
  refine D.cal sc_is_sequence (fun vs H Q E h => ?_) (fun f cdv A outer s H vs Q E hr h => ?_)
  · obtain ⟨x, d, n, rfl, _⟩ := h; rfl
  · obtain ⟨x, d, n, rfl, hd, hw, kq⟩ := h
    refine ⟨_, (pss_one (ps_ret (pe_callB (id := "isinstance") call_isiT (by rfl) T.isinstance (by decide +kernel) (pa_cons (pv 0) (pa_cons (pe_tup (pa_cons (pe_bltn (v := .ty "list") (by rfl) T.list (by decide +kernel) rfl) (pa_cons (pe_bltn (v := .ty "tuple") (by rfl) T.tuple (by decide +kernel) rfl) pa_nil))) pa_nil))))), ?_⟩
    refine ⟨_, rfl, by show 2 ≤ sizeLine; decide, fun p hp => ?_⟩
    exact ⟨x, p, _, _, _, _, rfl, upd_same, .cons (.ty "list") (.cons (.ty "tuple") .nil), dp_ty (dp_same (Same.new hp) hd), kit_seq hd, kq _ (Same.new hp)⟩
theorem cal_is_row (T : Bi mg) (C_is_sequence : Cal P w K mg base CX0 "is_sequence" 1 P_is_sequence (spB1 K dSeq)) (D : Def K mg "is_row" S_is_row P_is_row) : Cal P w K mg base CX0 "is_row" 2 P_is_row (spB3 K dRow) := by
  refine D.cal sc_is_row (fun vs H Q E h => ?_) (fun f cdv A outer s H vs Q E hr h => ?_)
  · obtain ⟨x, d, n, i, j, rfl, _⟩ := h; rfl
  · obtain ⟨x, d, n, i, j, rfl, hd, hw, kq⟩ := h
    refine ⟨_, (pss_one (ps_ret (pe_and (pe_fn C_is_sequence hr (pa_cons (pv 0) pa_nil)) (pe_one (pe_chain op_le op_le (pv 1) (pe_callB (id := "len") call_len_seq (by rfl) T.len (by decide +kernel) (pa_cons (pv 0) pa_nil)) (pv 2)))))), ?_⟩
    refine ⟨_, rfl, x, d, n, rfl, hd, hw, fun H1 s1 => ⟨_, rfl, ?_⟩⟩
    have k := kq _ s1
    refine ite2 (fun c => ?_) (fun c => ?_)
    · obtain ⟨ds, e⟩ := Option.isSome_iff_exists.mp c
      obtain ⟨a, xs, rfl, hq, ha⟩ := dp_items (dp_same s1 hd) e
      have el := dpAll_len ha
      have er : dRow d i j = (decide (i ≤ (xs.length : Int)) && decide ((xs.length : Int) ≤ j)) := by unfold dRow; rw [e, el]
      rw [er] at k
      refine ⟨_, rfl, _, rfl, a, xs, rfl, hq, _, _, rfl, rfl, _, rfl, ?_⟩
      refine ite2 (fun c2 => ?_) (fun c2 => ?_)
      · refine ⟨_, rfl, _, _, rfl, rfl, ?_⟩
        rw [c2, Bool.true_and] at k; exact k
      · rw [Bool.eq_false_iff.mpr c2, Bool.false_and] at k; exact k
    · have e : dItems d = none := Option.not_isSome_iff_eq_none.mp c
      have er : dRow d i j = false := by unfold dRow; rw [e]
      rw [er] at k; exact k
theorem cal_are_facts (T : Bi mg) (C_is_row : Cal P w K mg base CX0 "is_row" 2 P_is_row (spB3 K dRow)) (D : Def K mg "are_facts" S_are_facts P_are_facts) : Cal P w K mg base CX0 "are_facts" 3 P_are_facts (spB2 K dFacts) := by
  refine D.cal sc_are_facts (fun vs H Q E h => ?_) (fun f cdv A outer s H vs Q E hr h => ?_)
  · obtain ⟨x, d, n, i, rfl, _⟩ := h; rfl
  · obtain ⟨x, d, n, i, rfl, hd, hw, kq⟩ := h
    refine ⟨_, (pss_one (ps_ret (pe_and (pe_fn C_is_row hr (pa_cons (pv 0) (pa_cons (pv 1) (pa_cons (pv 1) pa_nil)))) (pe_one (pe_callB (id := "all") (cr_all rfl) (by rfl) T.all (by decide +kernel) (pa_cons (pe_lc (own := [("each", 2)]) (tt := tYes) rfl sc_are_facts.nd (pi_seq (pv 0)) (blkOk_by (N := N_are_facts) (sc := defScope S_are_facts) (by decide +kernel)) (fun _ _ _ _ _ => (pg_name (i := 2) sc_are_facts.nd rfl (Or.inl rfl))) (fun _ _ _ _ _ => pts_nil) (fun _ _ _ _ _ => (pe_callB (id := "isinstance") (r := rIsi K) call_isi (by rfl) T.isinstance (by decide +kernel) (pa_cons (pv 2) (pa_cons (pe_bltn (v := .ty "bool") (by rfl) T.bool (by decide +kernel) rfl) pa_nil))))) pa_nil)))))), ?_⟩
    refine ⟨_, rfl, _, rfl, _, rfl, x, d, n, i, i, rfl, hd, hw, fun H1 s1 => ⟨_, rfl, ?_⟩⟩
    refine ite2 (fun c => ?_) (fun c => ?_)
    · obtain ⟨ds, e⟩ : ∃ ds, dItems d = some ds := by
        unfold dRow at c
        cases e : dItems d with
        | none => rw [e] at c; cases c
        | some ds => exact ⟨ds, rfl⟩
      obtain ⟨a, xs, rfl, hq, ha⟩ := dp_items (dp_same s1 hd) e
      obtain ⟨hz, _⟩ := wf_items hw e
      refine tcb1 (lc_dpS (fun e => .bool (dBool e)) (fun R k => ⟨_, rfl, k⟩) hq ha hz (fun e _ => ⟨0, .bl _⟩) (fun x => rfl) (fun j y e H2 Qe _ s2 he k => ?_) (fun L acc H2 hL s2 hacc hda => ?_))
      · exact ⟨_, rfl, _, _, _, _, _, rfl, .ty "bool", dp_ty he, kit_bool he, k _ _ (Same.refl _) (.bl _)⟩
      · have eb : acc = (ds.map dBool).map V.bl := bools_of (by rw [List.map_map]; exact hda)
        subst eb
        refine ⟨L, _, rfl, SqL.of hacc, ?_⟩
        have k := kq _ (s1.trans s2)
        have er : dFacts d i = (ds.map dBool).all id := by
          unfold dFacts dAll
          rw [c, e, Bool.true_and, List.all_map]; rfl
        rw [er] at k; exact k
    · have k := kq _ s1
      have er : dFacts d i = false := by unfold dFacts; rw [Bool.eq_false_iff.mpr c, Bool.false_and]
      rw [er] at k; exact k
theorem cal_is_ascending (T : Bi mg) (D : Def K mg "is_ascending" S_is_ascending P_is_ascending) : Cal P w K mg base CX0 "is_ascending" 1 P_is_ascending (spAscI K) := by
  refine D.cal sc_is_ascending (fun vs H Q E h => ?_) (fun f cdv A outer s H vs Q E hr h => ?_)
  · obtain ⟨a, ns, rfl, _⟩ := h; rfl
  · obtain ⟨a, ns, rfl, hq, hz, kq⟩ := h
    refine ⟨_, (pss_one (ps_ret (pe_callB (id := "all") (cr_all rfl) (by rfl) T.all (by decide +kernel) (pa_cons (pe_lc (own := [("at", 1)]) (tt := tYes) rfl sc_is_ascending.nd (pi_range1 (by rfl) T.range (pa_cons (pe_op op_sub (pe_callB (id := "len") call_len_seq (by rfl) T.len (by decide +kernel) (pa_cons (pv 0) pa_nil)) pe_int) pa_nil)) (blkOk_by (N := N_is_ascending) (sc := defScope S_is_ascending) (by decide +kernel)) (fun _ _ _ _ _ => (pg_name (i := 1) sc_is_ascending.nd rfl (Or.inl rfl))) (fun _ _ _ _ _ => pts_nil) (fun _ _ _ _ _ => (pe_cmpR op_lt (pe_ix (r := rIx K) ix_seq (pv 0) (pv 1) (fun _ _ => rfl)) (pe_ix (r := rIx K) ix_seq (pv 0) (pe_op op_add (pv 1) pe_int) (fun _ _ => rfl)) (nomark _)))) pa_nil)))), ?_⟩
    have el : (ns.map V.int).length = ns.length := List.length_map ..
    refine tcb1 (lc_rng (K := K) (j := ((ns.map V.int).length : Int) - 1) (ns.length - 1) (fun i => .bool (decide (ns.getD i 0 < ns.getD (i + 1) 0))) (fun R k => ⟨_, rfl, a, _, rfl, hq, _, _, rfl, rfl, k⟩) (by omega) (by omega) (by omega) (fun i _ => ⟨0, .bl _⟩) (fun x => rfl) (fun i H2 Qe hi s2 k => ?_) (fun L acc H2 hL s2 hacc hda => ?_))
    · refine ⟨_, rfl, _, rfl, seq_ix (hq.same s2) (at_of (j := i) (by omega) (getD_at (by omega))) ⟨_, rfl, _, rfl, _, _, rfl, rfl, seq_ix (hq.same s2) (at_of (j := i + 1) (by omega) (getD_at (by omega))) ?_⟩⟩
      exact ⟨_, _, rfl, rfl, k _ _ (Same.refl _) (.bl _)⟩
    · have eb : acc = ((List.range (ns.length - 1)).map fun i => decide (ns.getD i 0 < ns.getD (i + 1) 0)).map V.bl := bools_of (by rw [List.map_map]; exact hda)
      subst eb
      have k := kq _ s2
      rw [ascI_range] at k
      exact ⟨L, _, rfl, SqL.of hacc, k⟩
theorem cal_plain (T : Bi mg) (C_is_sequence : Cal P w K mg base CX0 "is_sequence" 1 P_is_sequence (spB1 K dSeq)) (D : Def K mg "plain" S_plain P_plain) : ∀ n : Nat, Cal P w K mg base CX0 "plain" (n + 2) P_plain (spPlain K n)
  | 0 => D.never fun vs H Q E h => by obtain ⟨_, _, m, _, _, _, hm, _⟩ := h; omega
  | n + 1 => by
    have C_plain := cal_plain T C_is_sequence D n
    refine D.cal sc_plain (fun vs H Q E h => ?_) (fun f cdv A outer s H vs Q E hr h => ?_)
    · obtain ⟨x, d, m, rfl, _⟩ := h; rfl
    · obtain ⟨x, d, m, rfl, hd, hw, hm, kq⟩ := h
      have hr1 : Room 1 _ := hr.mono (by omega)
      refine ⟨_, (pss_cons (ps_if (pt_val (pe_fn C_is_sequence hr1 (pa_cons (pv 0) pa_nil))) (pss_one (ps_ret (pe_callTy (T := "tuple") call_tuple_of (by rfl) T.tuple (by decide +kernel) (pa_cons (pe_lc (own := [("each", 1)]) (tt := tYes) rfl sc_plain.nd (pi_seq (pv 0)) (blkOk_by (N := N_plain) (sc := defScope S_plain) (by decide +kernel)) (fun _ _ _ _ _ => (pg_name (i := 1) sc_plain.nd rfl (Or.inl rfl))) (fun _ _ _ _ _ => pts_nil) (fun _ _ _ _ _ => (pe_fn C_plain hr (pa_cons (pv 1) pa_nil)))) pa_nil)))) pss_nil)
  (pss_one (ps_ret (pv 0)))), ?_⟩
      refine ⟨_, rfl, x, d, m, rfl, hd, hw, fun H1 s1 => ⟨_, rfl, ?_⟩⟩
      refine ite2 (fun c => ?_) (fun c => ?_)
      · obtain ⟨ds, e⟩ := Option.isSome_iff_exists.mp c
        obtain ⟨a, xs, rfl, hq, ha⟩ := dp_items (dp_same s1 hd) e
        obtain ⟨hz, m', rfl, hwi⟩ := wf_items hw e
        have ep : dPlain d = .tuple (ds.map dPlain) := by
          cases d <;> simp only [dItems, Option.some.injEq, reduceCtorEq] at e <;> (subst e; show PyData.tuple (dPlains _) = _; rw [dPlains_map])
        refine tcb1 (lc_dpS dPlain (fun R k => ⟨_, rfl, k⟩) hq ha hz (fun e he => ⟨m', td_plain (hwi e he)⟩) (fun x => rfl) (fun j y e H2 Qe he s2 hy k => ?_) (fun L acc H2 hL s2 hacc hda => ?_))
        · exact ⟨_, rfl, y, e, m', rfl, hy, hwi e (List.mem_of_getElem? he), by omega, fun z H3 s3 hz3 => k z H3 s3 hz3⟩
        · refine ⟨L, acc, rfl, .inl ⟨SqL.of hacc, fun l hl => kq _ _ ((s1.trans s2).trans (Same.new hl)) ?_⟩⟩
          rw [ep]
          exact .tup (SqT.of upd_same) (dpAll_same (Same.new hl) hda)
      · have e : dItems d = none := Option.not_isSome_iff_eq_none.mp c
        have ep : dPlain d = d := by cases d <;> first | rfl | cases e
        exact ⟨_, rfl, kq _ _ s1 (by rw [ep]; exact dp_same s1 hd)⟩
end
abbrev S_are_numbers : Stmt := topS 7
abbrev N_are_numbers : List Str := ["value", "many", "each"]
abbrev P_are_numbers : List Str := ["value", "many"]
theorem sc_are_numbers : FnScope N_are_numbers P_are_numbers (defScope S_are_numbers) := ⟨rfl, rfl, rfl, by decide +kernel, rfl, by decide +kernel, by decide +kernel⟩
abbrev S_are_ascending_numbers : Stmt := topS 8
abbrev N_are_ascending_numbers : List Str := ["value", "many"]
abbrev P_are_ascending_numbers : List Str := ["value", "many"]
theorem sc_are_ascending_numbers : FnScope N_are_ascending_numbers P_are_ascending_numbers (defScope S_are_ascending_numbers) := ⟨rfl, rfl, rfl, by decide +kernel, rfl, by decide +kernel, by decide +kernel⟩
section
variable {P : Program} {w : World} {K : PySem.W.Frag} {mg : Str → Option Value} {base : Heap}
theorem cal_are_numbers (T : Bi mg) (C_is_sequence : Cal P w K mg base CX0 "is_sequence" 3 P_is_sequence (spB1 K dSeq)) (C_is_number : Cal P w K mg base CX0 "is_number" 3 P_is_number (spB2 K dNum)) (D : Def K mg "are_numbers" S_are_numbers P_are_numbers) :
    Cal P w K mg base CX0 "are_numbers" 4 P_are_numbers (spB2 K dNums) := by
  refine D.cal sc_are_numbers (fun vs H Q E h => ?_) (fun f cdv A outer s H vs Q E hr h => ?_)
  · obtain ⟨x, d, n, i, rfl, _⟩ := h; rfl
  · obtain ⟨x, d, n, i, rfl, hd, hw, kq⟩ := h
    refine ⟨_, (pss_one (ps_ret (pe_and (pe_fn C_is_sequence hr (pa_cons (pv 0) pa_nil)) (pe_one (pe_callB (id := "all") (cr_all rfl) (by rfl) T.all (by decide +kernel) (pa_cons (pe_lc (own := [("each", 2)]) (tt := tYes) rfl sc_are_numbers.nd (pi_seq (pv 0)) (blkOk_by (N := N_are_numbers) (sc := defScope S_are_numbers) (by decide +kernel)) (fun _ _ _ _ _ => (pg_name (i := 2) sc_are_numbers.nd rfl (Or.inl rfl))) (fun _ _ _ _ _ => pts_nil) (fun _ _ _ _ _ => (pe_fn C_is_number hr (pa_cons (pv 2) (pa_cons (pv 1) pa_nil))))) pa_nil)))))), ?_⟩
    refine ⟨_, rfl, x, d, n, rfl, hd, hw, fun H1 s1 => ⟨_, rfl, ?_⟩⟩
    refine ite2 (fun c => ?_) (fun c => ?_)
    · obtain ⟨ds, e⟩ := Option.isSome_iff_exists.mp c
      obtain ⟨a, xs, rfl, hq, ha⟩ := dp_items (dp_same s1 hd) e
      obtain ⟨hz, m', rfl, hwi⟩ := wf_items hw e
      refine tcb1 (lc_dpS (fun e => .bool (dNum e i)) (fun R k => ⟨_, rfl, k⟩) hq ha hz (fun e _ => ⟨0, .bl _⟩) (fun x => rfl) (fun j y e he' H2 Qe s2 he k => ?_) (fun L acc H2 hL s2 hacc hda => ?_))
      · exact ⟨_, rfl, _, rfl, y, e, m', i, rfl, he, hwi e (List.mem_of_getElem? Qe), fun H3 s3 => k _ _ s3 (.bl _)⟩
      · have eb : acc = (ds.map fun e => dNum e i).map V.bl := bools_of (by rw [List.map_map]; exact hda)
        subst eb
        refine ⟨L, _, rfl, SqL.of hacc, ?_⟩
        have k := kq _ (s1.trans s2)
        have er : dNums d i = (ds.map fun e => dNum e i).all id := by unfold dNums dAll; rw [e, List.all_map]; rfl
        rw [er] at k; exact k
    · have e : dItems d = none := Option.not_isSome_iff_eq_none.mp c
      have k := kq _ s1
      have er : dNums d i = false := by unfold dNums dAll; rw [e]
      rw [er] at k; exact k
theorem ints_num {i : Int} : ∀ {ds : List PyData}, (∀ d ∈ ds, dNum d i = true) → ds = (ds.map dVal).map PyData.int
  | [], _ => rfl
  | d :: ds, h => by
    have h1 := h d List.mem_cons_self
    rw [List.map_cons, List.map_cons, ← ints_num fun e he => h e (List.mem_cons_of_mem _ he)]
    cases d <;> first | rfl | cases h1
theorem cal_are_ascending_numbers (_ : Bi mg) (C_are_numbers : Cal P w K mg base CX0 "are_numbers" 4 P_are_numbers (spB2 K dNums)) (C_is_ascending : Cal P w K mg base CX0 "is_ascending" 4 P_is_ascending (spAscI K)) (D : Def K mg "are_ascending_numbers" S_are_ascending_numbers P_are_ascending_numbers) :
    Cal P w K mg base CX0 "are_ascending_numbers" 5 P_are_ascending_numbers (spB2 K dAscNums) := by
  refine D.cal sc_are_ascending_numbers (fun vs H Q E h => ?_) (fun f cdv A outer s H vs Q E hr h => ?_)
  · obtain ⟨x, d, n, i, rfl, _⟩ := h; rfl
  · obtain ⟨x, d, n, i, rfl, hd, hw, kq⟩ := h
    refine ⟨_, (pss_one (ps_ret (pe_and (pe_fn C_are_numbers hr (pa_cons (pv 0) (pa_cons (pv 1) pa_nil))) (pe_one (pe_fn C_is_ascending hr (pa_cons (pv 0) pa_nil)))))), ?_⟩
    refine ⟨_, rfl, _, rfl, x, d, n, i, rfl, hd, hw, fun H1 s1 => ⟨_, rfl, ?_⟩⟩
    refine ite2 (fun c => ?_) (fun c => ?_)
    · obtain ⟨ds, e⟩ : ∃ ds, dItems d = some ds := by
        unfold dNums dAll at c
        cases e : dItems d with
        | none => rw [e] at c; cases c
        | some ds => exact ⟨ds, rfl⟩
      obtain ⟨a, xs, rfl, hq, ha⟩ := dp_items (dp_same s1 hd) e
      obtain ⟨hz, m', rfl, hwi⟩ := wf_items hw e
      have hall : ∀ x ∈ ds, dNum x i = true := by
        have c' := c
        unfold dNums dAll at c'
        rw [e] at c'
        exact List.all_eq_true.mp c'
      have ei : xs = (ds.map dVal).map V.int := ints_of (by rw [← ints_num hall]; exact ha)
      subst ei
      refine ⟨_, rfl, a, ds.map dVal, rfl, hq, by rw [List.length_map]; exact hz, fun H2 s2 => ?_⟩
      have k := kq _ (s1.trans s2)
      have er : dAscNums d i = ascI (ds.map dVal) := by unfold dAscNums; rw [c, e]; rfl
      rw [er] at k; exact k
    · have k := kq _ s1
      have er : dAscNums d i = false := by unfold dAscNums; rw [Bool.eq_false_iff.mpr c]; rfl
      rw [er] at k; exact k
end
/-! ### methodworlds.conditions -/
abbrev S_is_wanted_fact : Stmt := topS 12
abbrev N_is_wanted_fact : List Str := ["value", "facts"]
abbrev P_is_wanted_fact : List Str := ["value", "facts"]
theorem sc_is_wanted_fact : FnScope N_is_wanted_fact P_is_wanted_fact (defScope S_is_wanted_fact) := ⟨rfl, rfl, rfl, by decide +kernel, rfl, by decide +kernel, by decide +kernel⟩
abbrev S_is_condition : Stmt := topS 13
abbrev N_is_condition : List Str := ["value", "facts", "pair"]
abbrev P_is_condition : List Str := ["value", "facts"]
theorem sc_is_condition : FnScope N_is_condition P_is_condition (defScope S_is_condition) := ⟨rfl, rfl, rfl, by decide +kernel, rfl, by decide +kernel, by decide +kernel⟩
section
variable {P : Program} {w : World} {K : PySem.W.Frag} {mg : Str → Option Value} {base : Heap}
theorem dp_at {K : PySem.W.Frag} {H : Hp} {d : PyData} {ds : List PyData} {xs : List V} (e : dItems d = some ds) (ha : DpAll K H xs ds) {i : Nat} (h : i < ds.length) : ∃ v, xs[i]? = some v ∧ Dp K H v (dAt d i) := by
  obtain ⟨v, h1, h2⟩ := dpAll_get ha (k := i) (d := ds[i]) (by simp [h])
  refine ⟨v, h1, ?_⟩
  have ed : dAt d i = ds[i] := by unfold dAt; rw [e]; simp [h]
  rw [ed]; exact h2
theorem wf_at {n : Nat} {d : PyData} (h : Wf (n + 1) d) (i : Nat) : Wf n (dAt d i) := by
  unfold dAt
  cases e : dItems d with
  | none => exact .non
  | some ds =>
    obtain ⟨_, m, em, hm⟩ := wf_items h e
    obtain rfl : n = m := by omega
    show Wf n (ds.getD i .none)
    by_cases hi : i < ds.length
    · have : ds.getD i .none = ds[i] := by simp [hi]
      rw [this]; exact hm _ (List.getElem_mem hi)
    · have : ds.getD i .none = .none := by simp [Nat.not_lt.mp hi]
      rw [this]; exact .non
theorem row_items {d : PyData} {i j : Int} (h : dRow d i j = true) : ∃ ds, dItems d = some ds ∧ i ≤ (ds.length : Int) ∧ (ds.length : Int) ≤ j := by
  unfold dRow at h
  cases e : dItems d with
  | none => rw [e] at h; cases h
  | some ds =>
    rw [e] at h
    have h' := Bool.and_eq_true_iff.mp h
    exact ⟨ds, rfl, of_decide_eq_true h'.1, of_decide_eq_true h'.2⟩
theorem cal_is_wanted_fact (T : Bi mg) (C_is_row : Cal P w K mg base CX0 "is_row" 3 P_is_row (spB3 K dRow)) (C_is_number : Cal P w K mg base CX0 "is_number" 3 P_is_number (spB2 K dNum)) (D : Def K mg "is_wanted_fact" S_is_wanted_fact P_is_wanted_fact) :
    Cal P w K mg base CX0 "is_wanted_fact" 4 P_is_wanted_fact (spB2 K dWanted) := by
  refine D.cal sc_is_wanted_fact (fun vs H Q E h => ?_) (fun f cdv A outer s H vs Q E hr h => ?_)
  · obtain ⟨x, d, n, i, rfl, _⟩ := h; rfl
  · obtain ⟨x, d, n, i, rfl, hd, hw, kq⟩ := h
    refine ⟨_, (pss_one (ps_ret (pe_and (pe_fn C_is_row hr (pa_cons (pv 0) (pa_cons pe_int (pa_cons pe_int pa_nil)))) (pe_and (pe_fn C_is_number hr (pa_cons (pe_ix ix_seq (pv 0) pe_int (fun _ _ => rfl)) (pa_cons (pv 1) pa_nil))) (pe_one (pe_callB (id := "isinstance") call_isi (by rfl) T.isinstance (by decide +kernel) (pa_cons (pe_ix ix_seq (pv 0) pe_int (fun _ _ => rfl)) (pa_cons (pe_bltn (v := .ty "bool") (by rfl) T.bool (by decide +kernel) rfl) pa_nil)))))))), ?_⟩
    refine ⟨_, rfl, x, d, n, 2, 2, rfl, hd, hw, fun H1 s1 => ⟨_, rfl, ?_⟩⟩
    refine ite2 (fun c => ?_) (fun c => ?_)
    · obtain ⟨ds, e, l1, l2⟩ := row_items c
      obtain ⟨a, xs, rfl, hq, ha⟩ := dp_items (dp_same s1 hd) e
      obtain ⟨_, m', rfl, _⟩ := wf_items hw e
      obtain ⟨v0, h0, d0⟩ := dp_at e ha (i := 0) (by omega)
      obtain ⟨v1, h1, d1⟩ := dp_at e ha (i := 1) (by omega)
      refine ⟨_, rfl, seq_ix hq (at_of (j := 0) rfl h0) ⟨_, rfl, v0, dAt d 0, m', i, rfl, d0, wf_at hw 0, fun H2 s2 => ⟨_, rfl, ?_⟩⟩⟩
      refine ite2 (fun c2 => ?_) (fun c2 => ?_)
      · refine ⟨_, rfl, seq_ix (hq.same s2) (at_of (j := 1) rfl h1) ⟨_, _, _, _, _, rfl, .ty "bool", dp_ty (dp_same s2 d1), kit_bool (dp_same s2 d1), ?_⟩⟩
        have k := kq _ (s1.trans s2)
        have er : dWanted d i = dBool (dAt d 1) := by unfold dWanted; rw [c, c2]; rfl
        rw [er] at k; exact k
      · have k := kq _ (s1.trans s2)
        have er : dWanted d i = false := by unfold dWanted; rw [c, Bool.eq_false_iff.mpr c2]; rfl
        rw [er] at k; exact k
    · have k := kq _ s1
      have er : dWanted d i = false := by unfold dWanted; rw [Bool.eq_false_iff.mpr c]; rfl
      rw [er] at k; exact k
theorem cal_is_condition (T : Bi mg) (C_is_sequence : Cal P w K mg base CX0 "is_sequence" 4 P_is_sequence (spB1 K dSeq)) (C_is_wanted_fact : Cal P w K mg base CX0 "is_wanted_fact" 4 P_is_wanted_fact (spB2 K dWanted)) (C_is_ascending : Cal P w K mg base CX0 "is_ascending" 4 P_is_ascending (spAscI K))
    (D : Def K mg "is_condition" S_is_condition P_is_condition) : Cal P w K mg base CX0 "is_condition" 5 P_is_condition (spB2 K dCond) := by
  refine D.cal sc_is_condition (fun vs H Q E h => ?_) (fun f cdv A outer s H vs Q E hr h => ?_)
  · obtain ⟨x, d, n, i, rfl, _⟩ := h; rfl
  · obtain ⟨x, d, n, i, rfl, hd, hw, kq⟩ := h
    refine ⟨_, (pss_cons (ps_if (PW.pt (pw_or (pt_not (pt_val (pe_fn C_is_sequence hr (pa_cons (pv 0) pa_nil)))) (pw_or1 (pt_not (pt_val (pe_callB (id := "all") (cr_all rfl) (by rfl) T.all (by decide +kernel) (pa_cons (pe_lc (own := [("pair", 2)]) (tt := tYes) rfl sc_is_condition.nd (pi_seq (pv 0)) (blkOk_by (N := N_is_condition) (sc := defScope S_is_condition) (by decide +kernel)) (fun _ _ _ _ _ => (pg_name (i := 2) sc_is_condition.nd rfl (Or.inl rfl))) (fun _ _ _ _ _ => pts_nil) (fun _ _ _ _ _ => (pe_fn C_is_wanted_fact hr (pa_cons (pv 2) (pa_cons (pv 1) pa_nil))))) pa_nil))))))) (pss_one (ps_ret pe_bl)) pss_nil)
  (pss_one (ps_ret (pe_fn C_is_ascending hr (pa_cons (pe_lc (own := [("pair", 2)]) (tt := tYes) rfl sc_is_condition.nd (pi_seq (pv 0)) (blkOk_by (N := N_is_condition) (sc := defScope S_is_condition) (by decide +kernel)) (fun _ _ _ _ _ => (pg_name (i := 2) sc_is_condition.nd rfl (Or.inl rfl))) (fun _ _ _ _ _ => pts_nil) (fun _ _ _ _ _ => (pe_ix (r := rIx K) ix_seq (pv 2) pe_int (fun _ _ => rfl)))) pa_nil))))), ?_⟩
    refine ⟨_, rfl, x, d, n, rfl, hd, hw, fun H1 s1 => ⟨_, rfl, ?_⟩⟩
    refine ite2 (fun c => ?_) (fun c => ?_)
    · -- no sequence
      have e : dItems d = none := by
        cases e : dItems d with
        | none => rfl
        | some ds => unfold dSeq at c; rw [e] at c; cases c
      have k := kq _ s1
      have er : dCond d i = false := by unfold dCond dAll; rw [e]; rfl
      rw [er] at k
      exact iteT k
    · obtain ⟨ds, e⟩ : ∃ ds, dItems d = some ds := by
        cases e : dItems d with
        | none => unfold dSeq at c; rw [e] at c; exact absurd rfl c
        | some ds => exact ⟨ds, rfl⟩
      obtain ⟨a, xs, rfl, hq, ha⟩ := dp_items (dp_same s1 hd) e
      obtain ⟨hz, m', rfl, hwi⟩ := wf_items hw e
      refine tcb1 (lc_dpS (fun e => .bool (dWanted e i)) (fun R k => ⟨_, rfl, k⟩) hq ha hz (fun e _ => ⟨0, .bl _⟩) (fun x => rfl) (fun j y e H2 Qe he s2 hy k => ?_) (fun L acc H2 hL s2 hacc hda => ?_))
      · exact ⟨_, rfl, _, rfl, y, e, m', i, rfl, hy, hwi e (List.mem_of_getElem? he), fun H3 s3 => k _ _ s3 (.bl _)⟩
      · have eb : acc = (ds.map fun e => dWanted e i).map V.bl := bools_of (by rw [List.map_map]; exact hda)
        subst eb
        refine ⟨L, _, rfl, SqL.of hacc, _, rfl, ?_⟩
        have eall : dAll (fun e => dWanted e i) d = (ds.map fun e => dWanted e i).all id := by unfold dAll; rw [e, List.all_map]; rfl
        refine ite2 (fun c2 => ?_) (fun c2 => ?_)
        · have k := kq _ (s1.trans s2)
          have er : dCond d i = false := by
            unfold dCond
            rw [eall]
            cases q : (ds.map fun e => dWanted e i).all id with
            | false => rfl
            | true => rw [q] at c2; cases c2
          rw [er] at k; exact k
        · have q : (ds.map fun e => dWanted e i).all id = true := by
            cases q : (ds.map fun e => dWanted e i).all id with
            | true => rfl
            | false => rw [q] at c2; exact absurd rfl c2
          have hall : ∀ x ∈ ds, dWanted x i = true := fun x hx => by
            rw [List.all_map] at q
            exact List.all_eq_true.mp q x hx
          refine tnx ?_
          dsimp only
          refine tret (tcall1 ?_)
          refine (lc_dpS (fun e => .int (dVal (dAt e 0))) (fun R k => ⟨_, rfl, k⟩) (hq.same s2) (dpAll_same s2 ha) hz (fun e _ => ⟨0, .int _⟩) (fun x => rfl) (fun j y e' H3 Qe he s3 hy k => ?_) (fun L2 acc H3 hL2 s3 hacc2 hda2 => ?_))
          · have hwt := hall e' (List.mem_of_getElem? he)
            unfold dWanted at hwt
            obtain ⟨c3, c4⟩ := Bool.and_eq_true_iff.mp hwt
            obtain ⟨c5, _⟩ := Bool.and_eq_true_iff.mp c4
            obtain ⟨es, e9, l1, l2⟩ := row_items c3
            obtain ⟨b, ys, rfl, hq9, ha9⟩ := dp_items hy e9
            obtain ⟨v0, h0, d0⟩ := dp_at e9 ha9 (i := 0) (by omega)
            have ei : dAt e' 0 = .int (dVal (dAt e' 0)) := by
              unfold dNum dBtw at c5
              cases q9 : dAt e' 0 <;> rw [q9] at c5 <;> first | rfl | cases c5
            refine ⟨_, rfl, seq_ix hq9 (at_of (j := 0) rfl h0) (k _ _ (Same.refl _) ?_)⟩
            rw [← ei]; exact d0
          · have ei : acc = (ds.map fun e => dVal (dAt e 0)).map V.int := ints_of (by rw [List.map_map]; exact hda2)
            subst ei
            refine ⟨L2, _, rfl, .inl (SqL.of hacc2), by rw [List.length_map]; exact hz, fun H4 s4 => ?_⟩
            have k := kq _ (((s1.trans s2).trans s3).trans s4)
            have er : dCond d i = ascI (ds.map fun e => dVal (dAt e 0)) := by unfold dCond; rw [eall, q, e]; rfl
            rw [er] at k; exact k
end
/-! ### methodworlds.errors -/
abbrev S_BadValue_init : Stmt := inClass (topS 18) 0
abbrev N_BadValue_init : List Str := ["self", "at"]
abbrev P_BadValue_init : List Str := ["self", "at"]
theorem sc_BadValue_init : FnScope N_BadValue_init P_BadValue_init (defScope S_BadValue_init) := ⟨rfl, rfl, rfl, by decide +kernel, rfl, by decide +kernel, by decide +kernel⟩
abbrev S_BadState_init : Stmt := inClass (topS 19) 0
abbrev N_BadState_init : List Str := ["self", "at"]
abbrev P_BadState_init : List Str := ["self", "at"]
theorem sc_BadState_init : FnScope N_BadState_init P_BadState_init (defScope S_BadState_init) := ⟨rfl, rfl, rfl, by decide +kernel, rfl, by decide +kernel, by decide +kernel⟩
section
variable {P : Program} {w : World} {K : PySem.W.Frag} {mg : Str → Option Value} {base : Heap}
theorem exc_BadValue {C : Addr} (D : XDef K mg "BadValue" "BadValue.__init__" C S_BadValue_init P_BadValue_init) (nA : PySem.W.findIn K (.ref C) "at" = some none) : ExC P w K mg base "BadValue" C P_BadValue_init (spIni1 K C "at") := by
  have T := D.2.1
  refine D.ok sc_BadValue_init (fun vs H Q E h => ?_) (fun f cdv A outer s H vs Q E hr h => ?_)
  · obtain ⟨a, v, rfl, _⟩ := h; rfl
  · obtain ⟨a, v, rfl, ha, kq⟩ := h
    exact ⟨_, (pss_one (ps_put (pv 0) (pv 1))), _, rfl, _, rfl, a, C, rfl, T, nA, .inl ⟨ha, kq⟩⟩
theorem exc_BadState {C : Addr} (D : XDef K mg "BadState" "BadState.__init__" C S_BadState_init P_BadState_init) (nA : PySem.W.findIn K (.ref C) "at" = some none) : ExC P w K mg base "BadState" C P_BadState_init (spIni1 K C "at") := by
  have T := D.2.1
  refine D.ok sc_BadState_init (fun vs H Q E h => ?_) (fun f cdv A outer s H vs Q E hr h => ?_)
  · obtain ⟨a, v, rfl, _⟩ := h; rfl
  · obtain ⟨a, v, rfl, ha, kq⟩ := h
    exact ⟨_, (pss_one (ps_put (pv 0) (pv 1))), _, rfl, _, rfl, a, C, rfl, T, nA, .inl ⟨ha, kq⟩⟩
end
/-! ### methodworlds.worlds -/
abbrev S_are_moves : Stmt := topS 24
abbrev N_are_moves : List Str := ["value", "deeds", "states", "to"]
abbrev P_are_moves : List Str := ["value", "deeds", "states"]
theorem sc_are_moves : FnScope N_are_moves P_are_moves (defScope S_are_moves) := ⟨rfl, rfl, rfl, by decide +kernel, rfl, by decide +kernel, by decide +kernel⟩
abbrev S_need_states : Stmt := topS 25
abbrev N_need_states : List Str := ["states", "facts", "at", "each"]
abbrev P_need_states : List Str := ["states", "facts"]
theorem sc_need_states : FnScope N_need_states P_need_states (defScope S_need_states) := ⟨rfl, rfl, rfl, by decide +kernel, rfl, by decide +kernel, by decide +kernel⟩
section
variable {P : Program} {w : World} {K : PySem.W.Frag} {mg : Str → Option Value} {base : Heap}
theorem cal_are_moves (T : Bi mg) (C_is_row : Cal P w K mg base CX0 "is_row" 3 P_is_row (spB3 K dRow)) (C_is_number : Cal P w K mg base CX0 "is_number" 3 P_is_number (spB2 K dNum)) (D : Def K mg "are_moves" S_are_moves P_are_moves) :
    Cal P w K mg base CX0 "are_moves" 4 P_are_moves (spB3 K dMoves) := by
  refine D.cal sc_are_moves (fun vs H Q E h => ?_) (fun f cdv A outer s H vs Q E hr h => ?_)
  · obtain ⟨x, d, n, i, j, rfl, _⟩ := h; rfl
  · obtain ⟨x, d, n, i, j, rfl, hd, hw, kq⟩ := h
    refine ⟨_, (pss_cons (ps_if (pt_not (pt_val (pe_fn C_is_row hr (pa_cons (pv 0) (pa_cons (pv 1) (pa_cons (pv 1) pa_nil)))))) (pss_one (ps_ret pe_bl)) pss_nil)
  (pss_one (ps_ret (pe_callB (id := "all") (cr_all rfl) (by rfl) T.all (by decide +kernel) (pa_cons (pe_lc (own := [("to", 3)]) (tt := tYes) rfl sc_are_moves.nd (pi_seq (pv 0)) (blkOk_by (N := N_are_moves) (sc := defScope S_are_moves) (by decide +kernel)) (fun _ _ _ _ _ => (pg_name (i := 3) sc_are_moves.nd rfl (Or.inl rfl))) (fun _ _ _ _ _ => pts_nil) (fun _ _ _ _ _ => (pe_or (pe_cmp (pc_isN (pv 3))) (pe_one (pe_fn C_is_number hr (pa_cons (pv 3) (pa_cons (pv 2) pa_nil))))))) pa_nil))))), ?_⟩
    refine ⟨_, rfl, _, rfl, _, rfl, x, d, n, i, i, rfl, hd, hw, fun H1 s1 => ⟨_, rfl, ?_⟩⟩
    refine ite2 (fun c => ?_) (fun c => ?_)
    · have c' : dRow d i i = false := by
        cases q : dRow d i i with
        | false => rfl
        | true => rw [q] at c; cases c
      have k := kq _ s1
      have er : dMoves d i j = false := by unfold dMoves; rw [c']; rfl
      rw [er] at k; exact k
    · have c' : dRow d i i = true := by
        cases q : dRow d i i with
        | true => rfl
        | false => rw [q] at c; exact absurd rfl c
      obtain ⟨ds, e, _, _⟩ := row_items c'
      obtain ⟨a, xs, rfl, hq, ha⟩ := dp_items (dp_same s1 hd) e
      obtain ⟨hz, m', rfl, hwi⟩ := wf_items hw e
      refine tnx ?_
      dsimp only
      refine tret (tcb1 (lc_dpS (fun e => .bool (dNone e || dNum e j)) (fun R k => ⟨_, rfl, k⟩) hq ha hz (fun e _ => ⟨0, .bl _⟩) (fun x => rfl) (fun i2 y e H2 Qe he s2 hy k => ?_) (fun L acc H2 hL s2 hacc hda => ?_)))
      · refine ⟨_, rfl, _, rfl, ?_⟩
        have en : decide (y = V.non) = dNone e := by cases hy <;> rfl
        rw [en]
        cases q : dNone e with
        | true =>
          rw [q] at k
          exact iteT (k _ _ (Same.refl _) (.bl _))
        | false =>
          rw [q] at k
          exact iteF ⟨_, rfl, _, rfl, y, e, m', j, rfl, hy, hwi e (List.mem_of_getElem? he), fun H3 s3 => k _ _ s3 (.bl _)⟩
      · have eb : acc = (ds.map fun e => dNone e || dNum e j).map V.bl := bools_of (by rw [List.map_map]; exact hda)
        subst eb
        refine ⟨L, _, rfl, SqL.of hacc, ?_⟩
        have k := kq _ (s1.trans s2)
        have er : dMoves d i j = (ds.map fun e => dNone e || dNum e j).all id := by unfold dMoves dAll; rw [c', e, Bool.true_and, List.all_map]; rfl
        rw [er] at k; exact k
theorem not_true {b : Bool} (h : ¬ (!b) = true) : b = true := by cases b <;> simp_all
theorem not_false' {b : Bool} (h : (!b) = true) : b = false := by cases b <;> simp_all
theorem cal_need_states {cs : Nat → Addr} (T : Bi mg) (X_BadValue : ExC P w K mg base "BadValue" (cs 0) ["self", "at"] (spIni1 K (cs 0) "at")) (X_BadState : ExC P w K mg base "BadState" (cs 1) ["self", "at"] (spIni1 K (cs 1) "at"))
    (C_is_row : Cal P w K mg base CX0 "is_row" 3 P_is_row (spB3 K dRow)) (C_are_facts : Cal P w K mg base CX0 "are_facts" 3 P_are_facts (spB2 K dFacts)) (D : Def K mg "need_states" S_need_states P_need_states) :
    Cal P w K mg base (L2.CX P w) "need_states" 4 P_need_states (spNeedStates K cs) := by
  refine D.calX sc_need_states (fun vs H Q E h => ?_) (fun f cdv A outer s H vs Q E hr h => ?_)
  · obtain ⟨x, d, n, i, rfl, _⟩ := h; rfl
  · obtain ⟨x, d, n, i, rfl, hd, hw, kq⟩ := h
    refine ⟨_, (pss_cons (ps_if (pt_not (pt_val (pe_fn C_is_row hr (pa_cons (pv 0) (pa_cons pe_int (pa_cons (pe_const T.g_MOST_STATES) pa_nil)))))) (pss_one (ps_raise rfl (takes_of rfl rfl rfl rfl) (pmk_ex (k := 1) X_BadValue (hr.mono (by decide)) (pa_cons pe_int pa_nil)))) pss_nil)
  (pss_one (ps_for (passes_of rfl) rfl (pi_enumS (by rfl) T.enumerate (pa_cons (pv 0) pa_nil)) (pg_tup rfl (pgs_cons (pg_name (i := 2) sc_need_states.nd rfl (Or.inl rfl)) (pgs_cons (pg_name (i := 3) sc_need_states.nd rfl (Or.inl rfl)) pgs_nil))) (pss_one (ps_if (pt_not (pt_val (pe_fn C_are_facts hr (pa_cons (pv 3) (pa_cons (pv 1) pa_nil))))) (pss_one (ps_raise rfl (takes_of rfl rfl rfl rfl) (pmk_ex (k := 1) X_BadState (hr.mono (by decide)) (pa_cons (pv 2) pa_nil)))) pss_nil))))), ?_⟩
    refine ⟨_, rfl, x, d, n, 1, 16, rfl, hd, hw, fun H1 s1 => ⟨_, rfl, ?_⟩⟩
    refine ite2 (fun c => ?_) (fun c => ?_)
    · have er : errStates d i = fValue 2 := by unfold errStates; rw [not_false' c]; rfl
      rw [er] at kq
      exact ⟨by decide, made1 fun dd H' s2 n2 e2 => kq dd H' (s1.trans s2) (s1.free n2) e2⟩
    · obtain ⟨ds, e, _, _⟩ := row_items (not_true c)
      obtain ⟨a, xs, rfl, hq, ha⟩ := dp_items (dp_same s1 hd) e
      obtain ⟨hz, m', rfl, hwi⟩ := wf_items hw e
      have er : errStates d i = (firstBad (fun e => dFacts e i) ds).bind fun i => fState (i : Nat) := by unfold errStates; rw [not_true c, e]; rfl
      have el := dpAll_len ha
      refine tnx ?_
      dsimp only
      refine ⟨_, rfl, a, xs, rfl, for_enum hq (fun j σ H' => (∃ v1 v2 : Option V, σ = [some (.ref a), some (.int i), v1, v2]) ∧ Same H1 H' ∧ ∀ e ∈ ds.take j, dFacts e i = true) ⟨⟨none, none, rfl⟩, Same.refl _, fun e he => by simp at he⟩ (fun _ _ _ _ p => p.2.1) ?_ ?_⟩
      · rintro j y σ H2 U hy ⟨⟨v1, v2, rfl⟩, s2, hall⟩ hU
        have hj : j < ds.length := by rw [← el]; exact (List.getElem?_eq_some_iff.mp hy).1
        have hjd : ds[j]? = some ds[j] := by simp [hj]
        obtain ⟨v, hv, hvd⟩ := dpAll_get ha hjd
        rw [hy] at hv
        obtain rfl := Option.some.inj hv
        have s3 : Same H1 (upd H2 U (.tup [.int (j : Nat), y])) := s2.trans (Same.new hU)
        refine ⟨U, [.int (j : Nat), y], rfl, SqT.of upd_same, rfl, _, _, rfl, _, _, rfl, rfl, ?_⟩
        refine ⟨_, rfl, _, rfl, y, ds[j], m', i, rfl, dp_same s3 hvd, hwi _ (List.getElem_mem hj), fun H3 s4 => ⟨_, rfl, ?_⟩⟩
        refine ite2 (fun c2 => ?_) (fun c2 => ?_)
        · rw [er, firstBad_some hjd (not_false' c2) hall] at kq
          exact ⟨_, rfl, by show 1 ≤ 1000; decide, made1 fun dd H' s5 n5 e5 => kq dd H' (((s1.trans s3).trans s4).trans s5) (((s1.trans s3).trans s4).free n5) e5⟩
        · refine ⟨⟨_, _, rfl⟩, s3.trans s4, fun e' he' => ?_⟩
          rw [take_succ_of hjd] at he'
          rcases List.mem_append.mp he' with q | q
          · exact hall e' q
          · rw [List.mem_singleton.mp q]; exact not_true c2
      · rintro σ H2 ⟨⟨v1, v2, rfl⟩, s2, hall⟩
        rw [el, List.take_length] at hall
        rw [er, firstBad_none hall] at kq
        exact kq H2 (s1.trans s2)
end
abbrev S_need_moves : Stmt := topS 26
abbrev N_need_moves : List Str := ["moves", "states", "at", "each"]
abbrev P_need_moves : List Str := ["moves", "states"]
theorem sc_need_moves : FnScope N_need_moves P_need_moves (defScope S_need_moves) := ⟨rfl, rfl, rfl, by decide +kernel, rfl, by decide +kernel, by decide +kernel⟩
abbrev S_World_init : Stmt := inClass (topS 27) 0
abbrev N_World_init : List Str := ["self", "facts", "states", "moves"]
abbrev P_World_init : List Str := ["self", "facts", "states", "moves"]
theorem sc_World_init : FnScope N_World_init P_World_init (defScope S_World_init) := ⟨rfl, rfl, rfl, by decide +kernel, rfl, by decide +kernel, by decide +kernel⟩
section
variable {P : Program} {w : World} {K : PySem.W.Frag} {mg : Str → Option Value} {base : Heap}
theorem cal_need_moves {cs : Nat → Addr} (T : Bi mg) (X_BadValue : ExC P w K mg base "BadValue" (cs 0) ["self", "at"] (spIni1 K (cs 0) "at")) (X_BadState : ExC P w K mg base "BadState" (cs 1) ["self", "at"] (spIni1 K (cs 1) "at"))
    (C_is_row : Cal P w K mg base CX0 "is_row" 4 P_is_row (spB3 K dRow)) (C_are_moves : Cal P w K mg base CX0 "are_moves" 4 P_are_moves (spB3 K dMoves)) (D : Def K mg "need_moves" S_need_moves P_need_moves) :
    Cal P w K mg base (L2.CX P w) "need_moves" 5 P_need_moves (spNeedMoves K cs) := by
  refine D.calX sc_need_moves (fun vs H Q E h => ?_) (fun f cdv A outer s H vs Q E hr h => ?_)
  · obtain ⟨x, d, n, i, rfl, _⟩ := h; rfl
  · obtain ⟨x, d, n, i, rfl, hd, hw, hi1, kq⟩ := h
    refine ⟨_, (pss_cons (ps_if (pt_not (pt_val (pe_fn C_is_row hr (pa_cons (pv 0) (pa_cons (pv 1) (pa_cons (pv 1) pa_nil)))))) (pss_one (ps_raise rfl (takes_of rfl rfl rfl rfl) (pmk_ex (k := 1) X_BadValue (hr.mono (by decide)) (pa_cons pe_int pa_nil)))) pss_nil)
  (pss_cons (ps_if (pt_not (pt_val (pe_fn C_is_row hr (pa_cons (pe_ix ix_seq (pv 0) pe_int (fun _ _ => rfl)) (pa_cons pe_int (pa_cons (pe_const T.g_MOST_DEEDS) pa_nil)))))) (pss_one (ps_raise rfl (takes_of rfl rfl rfl rfl) (pmk_ex (k := 1) X_BadState (hr.mono (by decide)) (pa_cons pe_int pa_nil)))) pss_nil)
  (pss_one (ps_for (passes_of rfl) rfl (pi_enumS (by rfl) T.enumerate (pa_cons (pv 0) pa_nil)) (pg_tup rfl (pgs_cons (pg_name (i := 2) sc_need_moves.nd rfl (Or.inl rfl)) (pgs_cons (pg_name (i := 3) sc_need_moves.nd rfl (Or.inl rfl)) pgs_nil))) (pss_one (ps_if (pt_not (pt_val (pe_fn C_are_moves hr (pa_cons (pv 3) (pa_cons (pe_callB (id := "len") call_len_seq (by rfl) T.len (by decide +kernel) (pa_cons (pe_ix ix_seq (pv 0) pe_int (fun _ _ => rfl)) pa_nil)) (pa_cons (pv 1) pa_nil)))))) (pss_one (ps_raise rfl (takes_of rfl rfl rfl rfl) (pmk_ex (k := 1) X_BadState (hr.mono (by decide)) (pa_cons (pv 2) pa_nil)))) pss_nil)))))), ?_⟩
    refine ⟨_, rfl, _, rfl, _, rfl, x, d, n, i, i, rfl, hd, hw, fun H1 s1 => ⟨_, rfl, ?_⟩⟩
    refine ite2 (fun c => ?_) (fun c => ?_)
    · have er : errMoves d i = fValue 3 := by unfold errMoves; rw [not_false' c]; rfl
      rw [er] at kq
      exact ⟨by show 1 ≤ 1000; decide, made1 fun dd H' s2 n2 e2 => kq dd H' (s1.trans s2) (s1.free n2) e2⟩
    · obtain ⟨ds, e, l1, _⟩ := row_items (not_true c)
      obtain ⟨a, xs, rfl, hq, ha⟩ := dp_items (dp_same s1 hd) e
      obtain ⟨hz, m', rfl, hwi⟩ := wf_items hw e
      have el := dpAll_len ha
      obtain ⟨v0, h0, d0⟩ := dp_at e ha (i := 0) (by omega)
      refine tnx ?_
      dsimp only
      refine ⟨_, rfl, seq_ix hq (at_of (j := 0) rfl h0) ⟨v0, dAt d 0, m', 1, 5, rfl, d0, wf_at hw 0, fun H2 s2 => ⟨_, rfl, ?_⟩⟩⟩
      refine ite2 (fun c2 => ?_) (fun c2 => ?_)
      · have er : errMoves d i = fState 0 := by unfold errMoves; rw [not_true c, not_false' c2]; rfl
        rw [er] at kq
        exact ⟨by show 1 ≤ 1000; decide, made1 fun dd H' s3 n3 e3 => kq dd H' ((s1.trans s2).trans s3) ((s1.trans s2).free n3) e3⟩
      · have er : errMoves d i = (firstBad (fun e => dMoves e (dLen (dAt d 0)) i) ds).bind fun i => fState (i : Nat) := by unfold errMoves; rw [not_true c, not_true c2, e]; rfl
        obtain ⟨es, e5, _, _⟩ := row_items (not_true c2)
        obtain ⟨b, ys, rfl, hqb, hab⟩ := dp_items (dp_same s2 d0) e5
        have elb : (ys.length : Int) = dLen (dAt d 0) := by unfold dLen; rw [e5, dpAll_len hab]; rfl
        have hq2 := hq.same s2
        refine tnx ?_
        dsimp only
        refine ⟨_, rfl, a, xs, rfl, for_enum hq2 (fun j σ H' => (∃ v1 v2 : Option V, σ = [some (.ref a), some (.int i), v1, v2]) ∧ Same H2 H' ∧ ∀ e ∈ ds.take j, dMoves e (dLen (dAt d 0)) i = true) ⟨⟨none, none, rfl⟩, Same.refl _, fun e he => by simp at he⟩ (fun _ _ _ _ p => p.2.1) ?_ ?_⟩
        · rintro j y σ H3 U hy ⟨⟨v1, v2, rfl⟩, s3, hall⟩ hU
          have hj : j < ds.length := by rw [← el]; exact (List.getElem?_eq_some_iff.mp hy).1
          have hjd : ds[j]? = some ds[j] := by simp [hj]
          obtain ⟨v, hv, hvd⟩ := dpAll_get (dpAll_same s2 ha) hjd
          rw [hy] at hv
          obtain rfl := Option.some.inj hv
          have s4 : Same H2 (upd H3 U (.tup [.int (j : Nat), y])) := s3.trans (Same.new hU)
          refine ⟨U, [.int (j : Nat), y], rfl, SqT.of upd_same, rfl, _, _, rfl, _, _, rfl, rfl, ?_⟩
          refine ⟨_, rfl, _, rfl, seq_ix (hq2.same s4) (at_of (j := 0) rfl h0) ⟨b, ys, rfl, hqb.same s4, _, rfl, y, ds[j], m', dLen (dAt d 0), i, ?_, dp_same s4 hvd, hwi _ (List.getElem_mem hj), fun H4 s5 => ⟨_, rfl, ?_⟩⟩⟩
          · show [y, V.int (ys.length : Int), V.int i] = _
            rw [elb]
          refine ite2 (fun c3 => ?_) (fun c3 => ?_)
          · rw [er, firstBad_some hjd (not_false' c3) hall] at kq
            have sa := ((s1.trans s2).trans s4).trans s5
            exact ⟨_, rfl, by show 1 ≤ 1000; decide, made1 fun dd H' s6 n6 e6 => kq dd H' (sa.trans s6) (sa.free n6) e6⟩
          · refine ⟨⟨_, _, rfl⟩, s4.trans s5, fun e' he' => ?_⟩
            rw [take_succ_of hjd] at he'
            rcases List.mem_append.mp he' with q | q
            · exact hall e' q
            · rw [List.mem_singleton.mp q]; exact not_true c3
        · rintro σ H3 ⟨⟨v1, v2, rfl⟩, s3, hall⟩
          rw [el, List.take_length] at hall
          rw [er, firstBad_none hall] at kq
          exact kq H3 ((s1.trans s2).trans s3)
/-- the attributes' names are no class's -/
structure WAttr (K : PySem.W.Frag) (C : Addr) : Prop where
  f : NoAttr K C "_facts"
  s : NoAttr K C "_states"
  m : NoAttr K C "_moves"
theorem fs_w1 {f : V} : putF "_facts" f [] = [(("_facts" : Str), f)] := rfl
theorem fs_w2 {f s : V} : putF "_states" s [(("_facts" : Str), f)] = ([("_facts", f), ("_states", s)] : List (Str × V)) := by
  show (if ("_facts" : Str) = "_states" then [(("_facts" : Str), s)] else (("_facts" : Str), f) :: putF "_states" s []) = ([("_facts", f), ("_states", s)] : List (Str × V))
  rw [if_neg (by decide +kernel)]; rfl
theorem fs_w3 {f s m : V} : putF "_moves" m [(("_facts" : Str), f), ("_states", s)] = ([("_facts", f), ("_states", s), ("_moves", m)] : List (Str × V)) := by
  show (if ("_facts" : Str) = "_moves" then [(("_facts" : Str), m), ("_states", s)] else (("_facts" : Str), f) :: (if ("_states" : Str) = "_moves" then [(("_states" : Str), m)] else (("_states" : Str), s) :: putF "_moves" m [])) = ([("_facts", f), ("_states", s), ("_moves", m)] : List (Str × V))
  rw [if_neg (by decide +kernel), if_neg (by decide +kernel)]; rfl
theorem new_world {C : Addr} {cs : Nat → Addr} {n : Nat} (T : Bi mg) (X_BadValue : ExC P w K mg base "BadValue" (cs 0) ["self", "at"] (spIni1 K (cs 0) "at"))
    (C_is_between : Cal P w K mg base CX0 "is_between" (n + 7) P_is_between (spB3 K dBtw)) (C_need_states : Cal P w K mg base (L2.CX P w) "need_states" (n + 7) P_need_states (spNeedStates K cs)) (C_need_moves : Cal P w K mg base (L2.CX P w) "need_moves" (n + 7) P_need_moves (spNeedMoves K cs))
    (C_plain : Cal P w K mg base CX0 "plain" (n + 7) P_plain (spPlain K (n + 1))) (D : CDef K mg "World" "World.__init__" C S_World_init P_World_init) (wa : WAttr K C) :
    CCal P w K mg base (L2.CX P w) "World" C (n + 8) P_World_init (spWorldInit K C cs n) := by
  have cl := D.2.1
  refine D.okX sc_World_init (fun vs H Q E h => ?_) (fun f cdv A outer s H vs Q E hr h => ?_)
  · obtain ⟨a, dx, xf, xs, xm, df, ds, dm, rfl, _⟩ := h; rfl
  · obtain ⟨a, dx, xf, xs, xm, df, ds, dm, rfl, ha, hf, hs, hm, wf, ws, wm, kq⟩ := h
    refine ⟨_, (pss_cons (ps_if (pt_not (pt_val (pe_fn C_is_between hr (pa_cons (pv 1) (pa_cons pe_int (pa_cons (pe_const T.g_MOST_FACTS) pa_nil)))))) (pss_one (ps_raise rfl (takes_of rfl rfl rfl rfl) (pmk_ex (k := 1) X_BadValue (hr.mono (by omega)) (pa_cons pe_int pa_nil)))) pss_nil)
  (pss_cons (ps_expr (pe_fnS C_need_states hr (takes_of rfl rfl rfl rfl) (pa_cons (pv 2) (pa_cons (pv 1) pa_nil))))
  (pss_cons (ps_expr (pe_fnS C_need_moves hr (takes_of rfl rfl rfl rfl) (pa_cons (pv 3) (pa_cons (pe_callB (id := "len") call_len_seq (by rfl) T.len (by decide +kernel) (pa_cons (pv 2) pa_nil)) pa_nil))))
  (pss_cons (ps_fld (pv 0) (pv 1) rfl)
  (pss_cons (ps_fld (pv 0) (pe_fn C_plain hr (pa_cons (pv 2) pa_nil)) rfl)
  (pss_one (ps_fld (pv 0) (pe_fn C_plain hr (pa_cons (pv 3) pa_nil)) rfl))))))), ?_⟩
    refine ⟨_, rfl, xf, df, n, 0, 4, rfl, hf, wf, fun H1 s1 => ⟨_, rfl, ?_⟩⟩
    refine ite2 (fun c => ?_) (fun c => ?_)
    · have er : errWorld df ds dm = fValue 1 := by unfold errWorld; rw [not_false' c]; rfl
      rw [er] at kq
      exact ⟨by show 1 ≤ 1000; decide, made1 fun dd H' s2 n2 e2 => kq dd H' (s1.trans s2) (s1.free n2) e2⟩
    · obtain ⟨i, rfl⟩ : ∃ i, df = .int i := by
        have c' := not_true c
        cases df <;> first | exact ⟨_, rfl⟩ | cases c'
      cases hf
      have er : errWorld (.int i) ds dm = (match errStates ds i with | some e => some e | none => errMoves dm (dLen ds)) := by
        unfold errWorld; rw [if_pos (not_true c)]; rfl
      rw [er] at kq
      clear er
      refine tnx ?_
      dsimp only
      refine ⟨_, rfl, _, rfl, xs, ds, n, i, rfl, dp_same s1 hs, ws, ?_⟩
      cases es : errStates ds i with
      | some p =>
        rw [es] at kq
        exact fun dd H' s2 n2 e2 => kq dd H' (s1.trans s2) (s1.free n2) e2
      | none =>
        rw [es] at kq
        intro H2 s2
        obtain ⟨rs, ers, l1, l2⟩ : ∃ rs, dItems ds = some rs ∧ 1 ≤ (rs.length : Int) ∧ (rs.length : Int) ≤ 16 := by
          unfold errStates at es
          by_cases q : dRow ds 1 16 = true
          · exact row_items q
          · rw [if_neg q] at es; cases es
        have sA := s1.trans s2
        obtain ⟨b, ys, rfl, hqb, hab⟩ := dp_items (dp_same sA hs) ers
        have elb : (ys.length : Int) = dLen ds := by unfold dLen; rw [ers, dpAll_len hab]; rfl
        refine ⟨_, rfl, _, rfl, b, ys, rfl, hqb, xm, dm, n, dLen ds, ?_, dp_same sA hm, wm, ?_, ?_⟩
        · show [xm, V.int (ys.length : Int)] = _
          rw [elb]
        · unfold dLen; rw [ers]; exact l1
        · show Ends1 cs (errMoves dm (dLen ds)) H2 _ E
          dsimp only at kq
          cases em : errMoves dm (dLen ds) with
          | some p =>
            rw [em] at kq
            exact fun dd H' s3 n3 e3 => kq dd H' (sA.trans s3) (sA.free n3) e3
          | none =>
            rw [em] at kq
            intro H3 s3
            have sB := sA.trans s3
            refine ⟨_, rfl, _, rfl, a, C, dx, _, rfl, sB _ _ ha, cl, wa.f, by show 0 < 1000; decide, ?_⟩
            rw [fs_w1]
            have k3 := SameS.put (fs' := [("_facts", V.int i)]) (sB _ _ ha)
            refine ⟨_, rfl, _, ds, n, rfl, dp_keep k3 (dp_same sB hs), ws, by omega, fun y1 H4 s4 hy1 => ?_⟩
            have a4 : H4 a = some (.ins C dx [("_facts", .int i)]) := s4 _ _ upd_same
            refine ⟨_, rfl, a, C, dx, _, rfl, a4, cl, wa.s, by show 1 < 1000; decide, ?_⟩
            rw [fs_w2]
            have k5 := SameS.put (fs' := [("_facts", V.int i), ("_states", y1)]) a4
            refine ⟨_, rfl, xm, dm, n, rfl, dp_keep k5 (dp_same s4 (dp_keep k3 (dp_same sB hm))), wm, by omega, fun y2 H6 s6 hy2 => ?_⟩
            have a6 : H6 a = some (.ins C dx [("_facts", .int i), ("_states", y1)]) := s6 _ _ upd_same
            refine ⟨_, rfl, a, C, dx, _, rfl, a6, cl, wa.m, by show 2 < 1000; decide, ?_⟩
            rw [fs_w3]
            have k7 := SameS.put (fs' := [("_facts", V.int i), ("_states", y1), ("_moves", y2)]) a6
            refine kq _ (((((Same.but sB).put).same s4).put.same s6).put) ⟨dx, y1, y2, upd_same, dp_keep k7 (dp_same s6 (dp_keep k5 hy1)), dp_keep k7 hy2⟩
end
/-! ### worlds of facts -/
abbrev S_holds : Stmt := topS 14
abbrev N_holds : List Str := ["condition", "facts", "fact", "wanted"]
abbrev P_holds : List Str := ["condition", "facts"]
theorem sc_holds : FnScope N_holds P_holds (defScope S_holds) := ⟨rfl, rfl, rfl, by decide +kernel, rfl, by decide +kernel, by decide +kernel⟩
abbrev S_is_deed_rule : Stmt := topS 28
abbrev N_is_deed_rule : List Str := ["value", "facts", "needs", "sets", "clears", "fact"]
abbrev P_is_deed_rule : List Str := ["value", "facts"]
theorem sc_is_deed_rule : FnScope N_is_deed_rule P_is_deed_rule (defScope S_is_deed_rule) := ⟨rfl, rfl, rfl, by decide +kernel, rfl, by decide +kernel, by decide +kernel⟩
abbrev S_changed : Stmt := topS 29
abbrev N_changed : List Str := ["held", "rule", "_", "sets", "clears", "fact", "each"]
abbrev P_changed : List Str := ["held", "rule"]
theorem sc_changed : FnScope N_changed P_changed (defScope S_changed) := ⟨rfl, rfl, rfl, by decide +kernel, rfl, by decide +kernel, by decide +kernel⟩
section
variable {P : Program} {w : World} {K : PySem.W.Frag} {mg : Str → Option Value} {base : Heap}
theorem wanted_items {e : PyData} {n : Int} (h : dWanted e n = true) : ∃ (es : List PyData) (i : Int) (b : Bool), dItems e = some es ∧ es = [.int i, .bool b] ∧ dAt e 0 = .int i ∧ dAt e 1 = .bool b ∧ 0 ≤ i ∧ i < n := by
  unfold dWanted at h
  obtain ⟨c3, c4⟩ := Bool.and_eq_true_iff.mp h
  obtain ⟨c5, c6⟩ := Bool.and_eq_true_iff.mp c4
  obtain ⟨es, e9, l1, l2⟩ := row_items c3
  match es, l1, l2, e9 with
  | [x, y], _, _, e9 =>
    have e0 : dAt e 0 = x := by unfold dAt; rw [e9]; rfl
    have e1 : dAt e 1 = y := by unfold dAt; rw [e9]; rfl
    rw [e0] at c5
    rw [e1] at c6
    obtain ⟨i, rfl⟩ : ∃ i, x = .int i := by cases x <;> first | exact ⟨_, rfl⟩ | cases c5
    obtain ⟨b, rfl⟩ : ∃ b, y = .bool b := by cases y <;> first | exact ⟨_, rfl⟩ | cases c6
    have q : (decide (0 ≤ i) && decide (i ≤ n - 1)) = true := c5
    obtain ⟨q1, q2⟩ := Bool.and_eq_true_iff.mp q
    exact ⟨[.int i, .bool b], i, b, e9, rfl, e0, e1, of_decide_eq_true q1, by have := of_decide_eq_true q2; omega⟩
  | [], l1, _, _ => exact absurd l1 (by decide)
  | [_], l1, _, _ => exact absurd l1 (by simp)
  | _ :: _ :: _ :: r, _, l2, _ => exact absurd l2 (by simp only [List.length_cons]; omega)
theorem cond_items {c : PyData} {n : Int} (h : dCond c n = true) : ∃ es, dItems c = some es ∧ ∀ e ∈ es, dWanted e n = true := by
  unfold dCond at h
  obtain ⟨h1, _⟩ := Bool.and_eq_true_iff.mp h
  unfold dAll at h1
  cases e : dItems c with
  | none => rw [e] at h1; cases h1
  | some es => rw [e] at h1; exact ⟨es, rfl, List.all_eq_true.mp h1⟩
theorem getDb {bs : List Bool} {i : Int} (h0 : 0 ≤ i) (h : i < (bs.length : Int)) : (bs.map V.bl)[i.toNat]? = some (V.bl (bs.getD i.toNat false)) := by
  have : i.toNat < bs.length := by omega
  simp [this]
theorem cal_holds (T : Bi mg) (D : Def K mg "holds" S_holds P_holds) : Cal P w K mg base CX0 "holds" 1 P_holds (spHolds K) := by
  refine D.cal sc_holds (fun vs H Q E h => ?_) (fun f cdv A outer s H vs Q E hr h => ?_)
  · obtain ⟨x, c, n, a, bs, rfl, _⟩ := h; rfl
  · obtain ⟨x, c, n, a, bs, rfl, hd, hw, hqa, hc, kq⟩ := h
    obtain ⟨es, e, hall⟩ := cond_items hc
    obtain ⟨b, xs, rfl, hq, ha⟩ := dp_items hd e
    obtain ⟨hz, m', rfl, hwi⟩ := wf_items hw e
    refine ⟨_, (pss_one (ps_ret (pe_callB (id := "all") (cr_all rfl) (by rfl) T.all (by decide +kernel) (pa_cons (pe_lc (own := [("fact", 2), ("wanted", 3)]) (tt := tYes) rfl sc_holds.nd (pi_seq (pv 0)) (blkOk_by (N := N_holds) (sc := defScope S_holds) (by decide +kernel)) (fun _ _ _ _ _ => (show PG _ _ (gSeq K 2 _) from (pg_seq rfl (pgs_cons (pg_name (i := 2) sc_holds.nd rfl (Or.inl rfl)) (pgs_cons (pg_name (i := 3) sc_holds.nd rfl (Or.inl rfl)) pgs_nil))))) (fun _ _ _ _ _ => pts_nil) (fun _ _ _ _ _ => (pe_cmpR op_eq (pe_ix (r := rIx K) ix_seq (pv 1) (pv 2) (fun _ _ => rfl)) (pv 3) (nomark _)))) pa_nil)))), ?_⟩
    refine tret (tcb1 (lc_dpG (fun _ e => .bool (bs.getD (dVal (dAt e 0)).toNat false == dB (dAt e 1))) (fun R k => ⟨_, rfl, k⟩) hq ha hz (fun _ e _ => ⟨0, .bl _⟩) (fun i x e' H2 Qe he hx s2 hy k => ?_) (fun L acc H2 hL s2 hacc hda => ?_)))
    · obtain ⟨ys, i1, b1, ey, rfl, e0, e1, i0, il⟩ := wanted_items (hall e' (List.mem_of_getElem? he))
      obtain ⟨u, zs, rfl, hqu, hau⟩ := dp_items hy ey
      rw [e0, e1] at k
      cases hau with
      | cons h1 h2 =>
        cases h2 with
        | cons h3 h4 =>
          cases h4
          cases h1
          cases h3
          refine ⟨u, _, rfl, hqu, rfl, _, _, rfl, _, _, rfl, rfl, rfl, ?_⟩
          refine ⟨_, rfl, _, rfl, seq_ix (hqa.same s2) (at_of (j := i1.toNat) (by omega) (getDb i0 il)) ⟨_, rfl, rfl, ?_⟩⟩
          have ee : decide (V.bl (bs.getD i1.toNat false) = V.bl b1) = (bs.getD (dVal (.int i1)).toNat false == dB (.bool b1)) := by
            show _ = (bs.getD i1.toNat false == b1)
            cases bs.getD i1.toNat false <;> cases b1 <;> rfl
          rw [ee]
          exact k _ _ (Same.refl _) (.bl _)
    · have eb : acc = (es.map fun e => bs.getD (dVal (dAt e 0)).toNat false == dB (dAt e 1)).map V.bl := bools_of (by rw [List.map_map]; rw [mapIdx_const] at hda; exact hda)
      subst eb
      refine ⟨L, _, rfl, SqL.of hacc, ?_⟩
      have k := kq _ s2
      have er : dHolds c bs = (es.map fun e => bs.getD (dVal (dAt e 0)).toNat false == dB (dAt e 1)).all id := by unfold dHolds; rw [e, List.all_map]; rfl
      rw [er] at k; exact k
end
end Mw
set_option Elab.async false
set_option maxRecDepth 100000
set_option maxHeartbeats 1000000
namespace Mw
open PySem L2
section
variable {P : Program} {w : World} {K : PySem.W.Frag} {mg : Str → Option Value} {base : Heap}
theorem three_of {ds : List PyData} (l1 : (3 : Int) ≤ (ds.length : Int)) (l2 : (ds.length : Int) ≤ 3) : ∃ a b c, ds = [a, b, c] := by
  rcases ds with _ | ⟨a, _ | ⟨b, _ | ⟨c, _ | ⟨d, t⟩⟩⟩⟩
  all_goals first
    | exact ⟨_, _, _, rfl⟩
    | (exfalso; simp only [List.length_cons, List.length_nil] at l1 l2; omega)
theorem asc_items {d : PyData} {n : Int} (h : dAscNums d n = true) : ∃ es, dItems d = some es ∧ es = (es.map dVal).map PyData.int := by
  unfold dAscNums at h
  obtain ⟨h1, _⟩ := Bool.and_eq_true_iff.mp h
  unfold dNums dAll at h1
  cases e : dItems d with
  | none => rw [e] at h1; cases h1
  | some es => rw [e] at h1; exact ⟨es, rfl, ints_num (i := n) (List.all_eq_true.mp h1)⟩
theorem inV_ints {j : Int} : ∀ is : List Int, inV (.int j) (is.map V.int) = is.any (· == j)
  | [] => rfl
  | i :: is => by
    have ih := inV_ints (j := j) is
    unfold inV at ih ⊢
    rw [List.map_cons, List.any_cons, List.any_cons, ih]; rfl
theorem flat_ints : ∀ is : List Int, (is.map V.int).all flatV = true
  | [] => rfl
  | i :: is => by rw [List.map_cons, List.all_cons, flat_ints is]; rfl
/-- j in a sequence of ints -/
theorem in_nums {H1 : Hp} {b : Addr} {xs : List V} {es : List PyData} {j : Int} {Q : VK} {neg : Bool} (hq : Seq K H1 b xs) (ha : DpAll K H1 xs es) (he : es = (es.map dVal).map PyData.int) (k : Q (.bl (if neg then !(es.any fun e => dVal e == j) else es.any fun e => dVal e == j)) H1) : rIn K neg (.int j) (.ref b) H1 Q := by
  have ei : xs = (es.map dVal).map V.int := ints_of (by rw [← he]; exact ha)
  have ea : inV (.int j) xs = es.any fun e => dVal e == j := by rw [ei, inV_ints, List.any_map]; rfl
  refine ⟨b, xs, rfl, hq, rfl, by rw [ei]; exact flat_ints _, ?_⟩
  rw [ea]; exact k
theorem cal_is_deed_rule (T : Bi mg) (C_is_row : Cal P w K mg base CX0 "is_row" 6 P_is_row (spB3 K dRow)) (C_is_condition : Cal P w K mg base CX0 "is_condition" 6 P_is_condition (spB2 K dCond)) (C_are_ascending_numbers : Cal P w K mg base CX0 "are_ascending_numbers" 6 P_are_ascending_numbers (spB2 K dAscNums))
    (D : Def K mg "is_deed_rule" S_is_deed_rule P_is_deed_rule) : Cal P w K mg base CX0 "is_deed_rule" 7 P_is_deed_rule (spB2 K dRule) := by
  refine D.cal sc_is_deed_rule (fun vs H Q E h => ?_) (fun f cdv A outer s H vs Q E hr h => ?_)
  · obtain ⟨x, d, n, i, rfl, _⟩ := h; rfl
  · obtain ⟨x, d, n, i, rfl, hd, hw, kq⟩ := h
    refine ⟨_, (pss_cons (ps_if (pt_not (pt_val (pe_fn C_is_row hr (pa_cons (pv 0) (pa_cons pe_int (pa_cons pe_int pa_nil)))))) (pss_one (ps_ret pe_bl)) pss_nil)
  (pss_cons (ps_asg (pv 0) (pg_seq rfl (pgs_cons (pg_name (i := 2) sc_is_deed_rule.nd rfl (Or.inl rfl)) (pgs_cons (pg_name (i := 3) sc_is_deed_rule.nd rfl (Or.inl rfl)) (pgs_cons (pg_name (i := 4) sc_is_deed_rule.nd rfl (Or.inr rfl)) pgs_nil)))))
  (pss_cons (ps_if (pt_not (pt_val (pe_fn C_is_condition hr (pa_cons (pv 2) (pa_cons (pv 1) pa_nil))))) (pss_one (ps_ret pe_bl)) pss_nil)
  (pss_cons (ps_if (PW.pt (pw_or (pt_not (pt_val (pe_fn C_are_ascending_numbers hr (pa_cons (pv 3) (pa_cons (pv 1) pa_nil))))) (pw_or1 (pt_not (pt_val (pe_fn C_are_ascending_numbers hr (pa_cons (pv 4) (pa_cons (pv 1) pa_nil)))))))) (pss_one (ps_ret pe_bl)) pss_nil)
  (pss_one (ps_ret (pe_not (pe_callB (id := "any") (cr_any rfl) (by rfl) T.any (by decide +kernel) (pa_cons (pe_lc (own := [("fact", 5)]) (tt := tYes) rfl sc_is_deed_rule.nd (pi_seq (pv 3)) (blkOk_by (N := N_is_deed_rule) (sc := defScope S_is_deed_rule) (by decide +kernel)) (fun _ _ _ _ _ => (pg_name (i := 5) sc_is_deed_rule.nd rfl (Or.inl rfl))) (fun _ _ _ _ _ => pts_nil) (fun _ _ _ _ _ => (pe_cmpR (r := rIn K false) op_in_seq (pv 5) (pv 4) (by with_unfolding_all rfl)))) pa_nil))))))))), ?_⟩
    refine ⟨_, rfl, x, d, n, 3, 3, rfl, hd, hw, fun H1 s1 => ⟨_, rfl, ?_⟩⟩
    refine ite2 (fun c => ?_) (fun c => ?_)
    · have k := kq _ s1
      have er : dRule d i = false := by unfold dRule; rw [not_false' c]; rfl
      rw [er] at k; exact k
    have c1 := not_true c
    obtain ⟨ds, e, l1, l2⟩ := row_items c1
    obtain ⟨a, xs, rfl, hq, ha⟩ := dp_items (dp_same s1 hd) e
    obtain ⟨hz, m', rfl, hwi⟩ := wf_items hw e
    obtain ⟨d0, d1, d2, rfl⟩ := three_of l1 l2
    cases ha with
    | @cons v0 vr _ _ h0 ha =>
    cases ha with
    | @cons v1 vr _ _ h1 ha =>
    cases ha with
    | @cons v2 vr _ _ h2 ha =>
      cases ha
      have e0 : dAt d 0 = d0 := by unfold dAt; rw [e]; rfl
      have e1 : dAt d 1 = d1 := by unfold dAt; rw [e]; rfl
      have e2 : dAt d 2 = d2 := by unfold dAt; rw [e]; rfl
      have w0 := hwi d0 (by simp)
      have w1 := hwi d1 (by simp)
      have w2 := hwi d2 (by simp)
      have er : dRule d i = (dCond d0 i && (dAscNums d1 i && (dAscNums d2 i && !(((dItems d1).getD []).any fun e => dHas d2 (dVal e))))) := by unfold dRule; rw [c1, e0, e1, e2, Bool.true_and]
      refine tnx ?_
      dsimp only
      refine ⟨_, rfl, a, _, rfl, hq, rfl, _, _, rfl, _, _, rfl, _, _, rfl, rfl, ?_⟩
      refine ⟨_, rfl, _, rfl, v0, d0, m', i, rfl, h0, w0, fun H2 s2 => ⟨_, rfl, ?_⟩⟩
      refine ite2 (fun c2 => ?_) (fun c2 => ?_)
      · have k := kq _ (s1.trans s2)
        rw [er, not_false' c2] at k; exact k
      rw [not_true c2, Bool.true_and] at er
      refine tnx ?_
      dsimp only
      refine ⟨_, rfl, _, rfl, v1, d1, m', i, rfl, dp_same s2 h1, w1, fun H3 s3 => ⟨_, rfl, ?_⟩⟩
      have s13 := (s1.trans s2).trans s3
      refine ite2 (fun c3 => ?_) (fun c3 => ?_)
      · have k := kq _ s13
        rw [er, not_false' c3] at k; exact iteT k
      rw [not_true c3, Bool.true_and] at er
      refine ⟨_, rfl, _, rfl, v2, d2, m', i, rfl, dp_same (s2.trans s3) h2, w2, fun H4 s4 => ⟨_, rfl, ?_⟩⟩
      have s14 := s13.trans s4
      refine ite2 (fun c4 => ?_) (fun c4 => ?_)
      · have k := kq _ s14
        rw [er, not_false' c4] at k; exact k
      rw [not_true c4, Bool.true_and] at er
      obtain ⟨es1, a1, i1⟩ := asc_items (not_true c3)
      obtain ⟨es2, a2, i2⟩ := asc_items (not_true c4)
      have s24 := (s2.trans s3).trans s4
      obtain ⟨b1, x1, rfl, hq1, ha1⟩ := dp_items (dp_same s24 h1) a1
      obtain ⟨b2, x2, rfl, hq2, ha2⟩ := dp_items (dp_same s24 h2) a2
      obtain ⟨hz1, _⟩ := wf_items w1 a1
      refine tnx ?_
      dsimp only
      refine tret ?_
      refine (show tNotV (tCB _ (tCons _ tNil)) _ _ _ from tcb1 (lc_dpS (fun e => .bool (dHas d2 (dVal e))) (fun R k => ⟨_, rfl, k⟩) hq1 ha1 hz1 (fun e _ => ⟨0, .bl _⟩) (fun x => rfl) (fun j y e' H5 Qe he s5 hy k => ?_) (fun L acc H5 hL s5 hacc hda => ?_)))
      · have ei : e' = .int (dVal e') := by
          have := List.mem_of_getElem? he
          rw [i1] at this
          obtain ⟨z, _, rfl⟩ := List.mem_map.mp this
          rfl
        rw [ei] at hy
        cases hy
        refine ⟨_, rfl, _, rfl, in_nums (hq2.same s5) (dpAll_same s5 ha2) i2 ?_⟩
        have eh : dHas d2 (dVal e') = es2.any fun e => dVal e == dVal e' := by unfold dHas; rw [a2]; rfl
        rw [eh] at k
        exact k _ _ (Same.refl _) (.bl _)
      · have eb : acc = (es1.map fun e => dHas d2 (dVal e)).map V.bl := bools_of (by rw [List.map_map]; exact hda)
        subst eb
        refine ⟨L, _, rfl, SqL.of hacc, _, rfl, ?_⟩
        have k := kq _ (s14.trans s5)
        rw [er, a1] at k
        have e9 : ((es1.map fun e => dHas d2 (dVal e)).any id) = es1.any fun e => dHas d2 (dVal e) := by rw [List.any_map]; rfl
        rw [e9]; exact k
end
end Mw
set_option Elab.async false
set_option maxRecDepth 100000
set_option maxHeartbeats 1000000
namespace Mw
open PySem L2
abbrev S_facts_world : Stmt := topS 30
abbrev N_facts_world : List Str := ["facts", "deeds", "states", "moves", "held", "rule"]
abbrev P_facts_world : List Str := ["facts", "deeds"]
theorem sc_facts_world : FnScope N_facts_world P_facts_world (defScope S_facts_world) := ⟨rfl, rfl, rfl, by decide +kernel, rfl, by decide +kernel, by decide +kernel⟩
section
variable {P : Program} {w : World} {K : PySem.W.Frag} {mg : Str → Option Value} {base : Heap}
theorem dpAll_bits {H : Hp} (bs : List Bool) : DpAll K H (bs.map V.bl) (bitsD bs) := dpAll_bools bs
theorem bitsD_at {bs : List Bool} {i : Nat} {d : PyData} (h : (bitsD bs)[i]? = some d) : ∃ b, bs[i]? = some b ∧ d = .bool b := by
  unfold bitsD at h
  rw [List.getElem?_map] at h
  cases e : bs[i]? with
  | none => rw [e] at h; cases h
  | some b => rw [e] at h; exact ⟨b, rfl, (Option.some.inj h).symm⟩
theorem chg_bits (r : PyData) (bs : List Bool) : (bitsD bs).mapIdx (fun i d => PyData.bool (dHas (dAt r 1) i || (dB d && !dHas (dAt r 2) i))) = bitsD (chg r bs) := by
  apply List.ext_getElem?
  intro i
  unfold bitsD chg
  simp [Function.comp_def]
  cases bs[i]? <;> rfl
theorem rule_items {d : PyData} {n : Int} (h : dRule d n = true) : ∃ d0 d1 d2 es1 es2, dItems d = some [d0, d1, d2] ∧ dAt d 0 = d0 ∧ dAt d 1 = d1 ∧ dAt d 2 = d2 ∧ dCond d0 n = true ∧ dItems d1 = some es1 ∧ es1 = (es1.map dVal).map PyData.int ∧ dItems d2 = some es2 ∧ es2 = (es2.map dVal).map PyData.int := by
  unfold dRule at h
  obtain ⟨c1, h⟩ := Bool.and_eq_true_iff.mp h
  obtain ⟨c2, h⟩ := Bool.and_eq_true_iff.mp h
  obtain ⟨c3, h⟩ := Bool.and_eq_true_iff.mp h
  obtain ⟨c4, _⟩ := Bool.and_eq_true_iff.mp h
  obtain ⟨ds, e, l1, l2⟩ := row_items c1
  obtain ⟨d0, d1, d2, rfl⟩ := three_of l1 l2
  have e0 : dAt d 0 = d0 := by unfold dAt; rw [e]; rfl
  have e1 : dAt d 1 = d1 := by unfold dAt; rw [e]; rfl
  have e2 : dAt d 2 = d2 := by unfold dAt; rw [e]; rfl
  rw [e1] at c3
  rw [e2] at c4
  rw [e0] at c2
  obtain ⟨es1, a1, i1⟩ := asc_items c3
  obtain ⟨es2, a2, i2⟩ := asc_items c4
  exact ⟨d0, d1, d2, es1, es2, e, e0, e1, e2, c2, a1, i1, a2, i2⟩
theorem cal_changed (T : Bi mg) (D : Def K mg "changed" S_changed P_changed) : Cal P w K mg base CX0 "changed" 1 P_changed (spChanged K) := by
  refine D.cal sc_changed (fun vs H Q E h => ?_) (fun f cdv A outer s H vs Q E hr h => ?_)
  · obtain ⟨x, r, n, a, bs, rfl, _⟩ := h; rfl
  · obtain ⟨x, r, n, a, bs, rfl, hd, hw, hqa, hbz, hrule, kq⟩ := h
    obtain ⟨d0, d1, d2, es1, es2, e, e0, e1, e2, c2, a1, i1, a2, i2⟩ := rule_items hrule
    obtain ⟨b, xs, rfl, hq, ha⟩ := dp_items hd e
    cases ha with
    | @cons v0 vr _ _ h0 ha =>
    cases ha with
    | @cons v1 vr _ _ h1 ha =>
    cases ha with
    | @cons v2 vr _ _ h2 ha =>
    cases ha
    obtain ⟨b1, x1, rfl, hq1, ha1⟩ := dp_items h1 a1
    obtain ⟨b2, x2, rfl, hq2, ha2⟩ := dp_items h2 a2
    refine ⟨_, (pss_cons (ps_asg (pv 1) (pg_seq rfl (pgs_cons (pg_name (i := 2) sc_changed.nd rfl (Or.inl rfl)) (pgs_cons (pg_name (i := 3) sc_changed.nd rfl (Or.inr rfl)) (pgs_cons (pg_name (i := 4) sc_changed.nd rfl (Or.inr rfl)) pgs_nil)))))
  (pss_one (ps_ret (pe_lc (own := [("fact", 5), ("each", 6)]) (tt := tYes) rfl sc_changed.nd (pi_enumS (by rfl) T.enumerate (pa_cons (pv 0) pa_nil)) (blkOk_by (N := N_changed) (sc := defScope S_changed) (by decide +kernel)) (fun _ _ _ _ _ => (show PG _ _ (gTup K 2 _) from (pg_tup rfl (pgs_cons (pg_name (i := 5) sc_changed.nd rfl (Or.inl rfl)) (pgs_cons (pg_name (i := 6) sc_changed.nd rfl (Or.inl rfl)) pgs_nil))))) (fun _ _ _ _ _ => pts_nil) (fun _ _ _ _ _ => (pe_or (pe_cmpR (r := rIn K false) op_in_seq (pv 5) (pv 3) (by with_unfolding_all rfl)) (pe_one (pe_and (pv 6) (pe_one (pe_cmpR (r := rIn K true) op_notIn_seq (pv 5) (pv 4) (by with_unfolding_all rfl))))))))))), ?_⟩
    refine ⟨_, rfl, b, _, rfl, hq, rfl, _, _, rfl, _, _, rfl, _, _, rfl, rfl, ?_⟩
    dsimp only
    refine tret (lc_enum (K := K) (fun i d => .bool (dHas (dAt r 1) i || (dB d && !dHas (dAt r 2) i))) (fun R k => ⟨_, rfl, k⟩) hqa (dpAll_bits bs) (by unfold bitsD; rw [List.length_map]; exact hbz) (fun i d _ => ⟨0, .bl _⟩) (fun i x d U H2 Qe hd2 s2 hU hx k => ?_) (fun L acc H2 hL s2 hacc hda => ?_))
    · obtain ⟨bb, _, rfl⟩ := bitsD_at hd2
      cases hx
      refine ⟨U, _, rfl, SqT.of hU, rfl, _, _, rfl, _, _, rfl, rfl, rfl, ?_⟩
      have m1 : dHas (dAt r 1) i = es1.any fun e => dVal e == (i : Int) := by rw [e1]; unfold dHas; rw [a1]; rfl
      have m2 : dHas (dAt r 2) i = es2.any fun e => dVal e == (i : Int) := by rw [e2]; unfold dHas; rw [a2]; rfl
      rw [m1, m2] at k
      refine ⟨_, rfl, _, rfl, in_nums (hq1.same s2) (dpAll_same s2 ha1) i1 ⟨_, rfl, ?_⟩⟩
      show (if (es1.any fun e => dVal e == (i : Int)) = true then _ else _)
      cases q1 : (es1.any fun e => dVal e == (i : Int)) with
      | true =>
        rw [q1] at k
        exact iteT (k _ _ (Same.refl _) (.bl _))
      | false =>
        rw [q1, Bool.false_or] at k
        refine iteF ⟨_, rfl, _, rfl, ?_⟩
        cases bb with
        | false => exact iteF (k _ _ (Same.refl _) (.bl _))
        | true => exact iteT ⟨_, rfl, _, rfl, in_nums (hq2.same s2) (dpAll_same s2 ha2) i2 (k _ _ (Same.refl _) (.bl _))⟩
    · have eb : acc = (chg r bs).map V.bl := bools_of (by rw [chg_bits] at hda; exact hda)
      subst eb
      exact kq L H2 s2 hacc
theorem hu_in {k : Nat} {A : Around} (hr : Room k A) : A.units + 65 < cLine := by have := hr.un; omega
/-- facts_world(facts, deeds) -/
def spFactsWorld (K : PySem.W.Frag) (C : Addr) (cs : Nat → Addr) (n : Nat) : Sp := fun vs H Q E => ∃ (xf xd : V) (df dd : PyData), vs = [xf, xd] ∧ Dp K H xf df ∧ Dp K H xd dd ∧ Wf n df ∧ Wf n dd ∧
  (match errFw df dd with
   | none => ∀ a H', Same H H' → WorldAt K C a (dVal df) (fwS (dVal df).toNat) (fwM (dVal df).toNat dd) H' → Q (.ref a) H'
   | some (c, fs) => ∀ d H', Same H H' → H d = none → H' d = some (.xd fs) → E (.ref (cs c)) (some d) H')
theorem bit_at (k f : Nat) (hk : k < 16) (hf : f < 4) : (Builtin.bitAnd ((0 + (k : Int)) / 2 ^ ((0 + (f : Int))).toNat) 1 = 1) ↔ k.testBit f = true := by
  have hk' : k = 0 ∨ k = 1 ∨ k = 2 ∨ k = 3 ∨ k = 4 ∨ k = 5 ∨ k = 6 ∨ k = 7 ∨ k = 8 ∨ k = 9 ∨ k = 10 ∨ k = 11 ∨ k = 12 ∨ k = 13 ∨ k = 14 ∨ k = 15 := by omega
  have hf' : f = 0 ∨ f = 1 ∨ f = 2 ∨ f = 3 := by omega
  rcases hf' with rfl | rfl | rfl | rfl <;> rcases hk' with rfl | rfl | rfl | rfl | rfl | rfl | rfl | rfl | rfl | rfl | rfl | rfl | rfl | rfl | rfl | rfl <;> decide +kernel
end
end Mw
set_option Elab.async false
set_option maxRecDepth 100000
set_option maxHeartbeats 1000000
namespace Mw
open PySem L2
abbrev S_every_facts : Stmt := topS 15
abbrev N_every_facts : List Str := ["facts", "at", "fact"]
abbrev P_every_facts : List Str := ["facts"]
theorem sc_every_facts : FnScope N_every_facts P_every_facts (defScope S_every_facts) := ⟨rfl, rfl, rfl, by decide +kernel, rfl, by decide +kernel, by decide +kernel⟩
section
variable {P : Program} {w : World} {K : PySem.W.Frag} {mg : Str → Option Value} {base : Heap}
def toV : PyData → V
  | .bool b => .bl b
  | .int i => .int i
  | .str x => .str x
  | _ => .non
def flatD : PyData → Bool
  | .none => true
  | .bool _ => true
  | .int _ => true
  | .str _ => true
  | _ => false
theorem flat_of {H : Hp} : ∀ {vs : List V} {ds : List PyData}, (∀ d ∈ ds, flatD d = true) → DpAll K H vs ds → vs = ds.map toV
  | _, [], _, h => by cases h; rfl
  | _, d :: ds, hf, h => by
    cases h with
    | cons h1 h2 =>
      have h3 := hf d List.mem_cons_self
      rw [List.map_cons, ← flat_of (fun e he => hf e (List.mem_cons_of_mem _ he)) h2]
      cases h1 <;> first | rfl | cases h3
theorem dpAll_flat {H : Hp} : ∀ {ds : List PyData}, (∀ d ∈ ds, flatD d = true) → DpAll K H (ds.map toV) ds
  | [], _ => .nil
  | d :: ds, hf => by
    have h3 := hf d List.mem_cons_self
    refine .cons ?_ (dpAll_flat fun e he => hf e (List.mem_cons_of_mem _ he))
    cases d <;> first | exact .non | exact .bl _ | exact .int _ | exact .str _ | cases h3
/-- a list of lists of flat data -/
theorem dp_lists {H : Hp} {D : Addr} {ps : List Addr} {rows : List (List PyData)} (hD : H D = some (.lst (ps.map V.ref))) (hl : ps.length = rows.length) (hf : ∀ r ∈ rows, ∀ d ∈ r, flatD d = true)
    (hp : ∀ (i : Nat) p r, ps[i]? = some p → rows[i]? = some r → H p = some (.lst (r.map toV))) : Dp K H (.ref D) (.list (rows.map PyData.list)) := by
  refine .lst (SqL.of hD) ?_
  clear hD
  induction ps generalizing rows with
  | nil => cases rows with
    | nil => exact .nil
    | cons r rs => cases hl
  | cons p ps ih => cases rows with
    | nil => cases hl
    | cons r rs =>
      exact .cons (.lst (SqL.of (hp 0 p r rfl rfl)) (dpAll_flat (hf r List.mem_cons_self))) (ih (by simpa using hl) (fun r' h' => hf r' (List.mem_cons_of_mem _ h')) fun i p' r' h1 h2 => hp (i + 1) p' r' (by simpa using h1) (by simpa using h2))
theorem statesL_len (f : Nat) : (statesL f).length = 2 ^ f := by unfold statesL; rw [List.length_map, List.length_range]
theorem statesL_at {f i : Nat} (h : i < 2 ^ f) : (statesL f)[i]? = some ((List.range f).map fun j => i.testBit j) := by
  unfold statesL
  rw [List.getElem?_map, List.getElem?_range h]; rfl
theorem statesL_mem {f : Nat} {bs : List Bool} (h : bs ∈ statesL f) : bs.length = f := by
  unfold statesL at h
  obtain ⟨k, _, rfl⟩ := List.mem_map.mp h
  rw [List.length_map, List.length_range]
theorem pow16 {f : Nat} (h : f ≤ 4) : 1 ≤ 2 ^ f ∧ 2 ^ f ≤ 16 := by
  have : f = 0 ∨ f = 1 ∨ f = 2 ∨ f = 3 ∨ f = 4 := by omega
  rcases this with rfl | rfl | rfl | rfl | rfl <;> decide
theorem chg_len (r : PyData) (bs : List Bool) : (chg r bs).length = bs.length := by unfold chg; rw [List.length_mapIdx]
theorem shaped_states : ∀ f : Nat, f ≤ 4 → SeqAt.shaped (.list ((statesL f).map fun bs => PyData.list (bitsD bs))) = true := by
  intro f h
  have : f = 0 ∨ f = 1 ∨ f = 2 ∨ f = 3 ∨ f = 4 := by omega
  rcases this with rfl | rfl | rfl | rfl | rfl <;> decide +kernel
theorem shaped_bits (bs : List Bool) : SeqAt.shaped (.list (bitsD bs)) = true := by
  unfold SeqAt.shaped
  have h1 : PyData.canLay0 (.list (bitsD bs)) = PyData.canLayAll0 (bitsD bs) := by first | rfl | simp [PyData.canLay0]
  have h2 : PyData.depth (.list (bitsD bs)) = PyData.depthAll (bitsD bs) + 1 := by first | rfl | simp [PyData.depth]
  have h3 := depth_bits bs
  rw [h1, canLay_bits, h2, Bool.true_and]
  exact decide_eq_true (by omega)
theorem eqv_bits (a b : List Bool) : PyData.eqv (.list (bitsD a)) (.list (bitsD b)) = decide (a = b) := by
  have h : PyData.eqv (.list (bitsD a)) (.list (bitsD b)) = PyData.eqvAll (bitsD a) (bitsD b) := by first | rfl | simp [PyData.eqv]
  rw [h, eqvAll_bits]
theorem plain_flat : ∀ {ds : List PyData}, (∀ d ∈ ds, flatD d = true) → ds.map dPlain = ds
  | [], _ => rfl
  | d :: ds, h => by
    have h3 := h d List.mem_cons_self
    rw [List.map_cons, plain_flat fun e he => h e (List.mem_cons_of_mem _ he)]
    cases d <;> first | rfl | cases h3
theorem plain_lists {rows : List (List PyData)} (h : ∀ r ∈ rows, ∀ d ∈ r, flatD d = true) : dPlain (.list (rows.map PyData.list)) = .tuple (rows.map PyData.tuple) := by
  show PyData.tuple (dPlains _) = _
  rw [dPlains_map, List.map_map]
  congr 1
  refine List.map_congr_left fun r hr => ?_
  show PyData.tuple (dPlains r) = _
  rw [dPlains_map, plain_flat (h r hr)]
theorem wf_lists {rows : List (List PyData)} (hl : rows.length ≤ 1000) (h : ∀ r ∈ rows, r.length ≤ 1000 ∧ ∀ d ∈ r, flatD d = true) {n : Nat} : Wf (n + 2) (.list (rows.map PyData.list)) := by
  refine .lst (by rw [List.length_map]; exact hl) fun d hd => ?_
  obtain ⟨r, hr, rfl⟩ := List.mem_map.mp hd
  refine .lst (h r hr).1 fun e he => ?_
  have h3 := (h r hr).2 e he
  cases e <;> first | exact .non | exact .bl _ | exact .int _ | exact .str _ | cases h3
/-- the rows of the states, the rows of the moves -/
def sRows (f : Nat) : List (List PyData) := (statesL f).map bitsD
def mRows (f : Nat) (rs : List PyData) : List (List PyData) := (statesL f).map fun bs => rs.map fun r => fwMove f r bs
theorem fwMove_flat (f : Nat) (r : PyData) (bs : List Bool) : flatD (fwMove f r bs) = true := by unfold fwMove; split <;> rfl
theorem sRows_flat {f : Nat} : ∀ r ∈ sRows f, ∀ d ∈ r, flatD d = true := by
  intro r hr d hd
  obtain ⟨bs, _, rfl⟩ := List.mem_map.mp hr
  obtain ⟨b, _, rfl⟩ := List.mem_map.mp hd
  rfl
theorem mRows_flat {f : Nat} {rs : List PyData} : ∀ r ∈ mRows f rs, ∀ d ∈ r, flatD d = true := by
  intro r hr d hd
  obtain ⟨bs, _, rfl⟩ := List.mem_map.mp hr
  obtain ⟨b, _, rfl⟩ := List.mem_map.mp hd
  exact fwMove_flat ..
theorem row_list {ds : List PyData} {i j : Int} (h1 : i ≤ (ds.length : Int)) (h2 : (ds.length : Int) ≤ j) : dRow (.list ds) i j = true := by
  show (decide (i ≤ (ds.length : Int)) && decide ((ds.length : Int) ≤ j)) = true
  rw [decide_eq_true h1, decide_eq_true h2]; rfl
theorem errW_fw {f : Nat} {rs : List PyData} (hf : f ≤ 4) (h1 : 1 ≤ rs.length) (h5 : rs.length ≤ 5) : errWorld (.int (f : Int)) (.list ((sRows f).map PyData.list)) (.list ((mRows f rs).map PyData.list)) = none := by
  obtain ⟨p1, p2⟩ := pow16 hf
  have ls : ((sRows f).map PyData.list).length = 2 ^ f := by unfold sRows; rw [List.length_map, List.length_map, statesL_len]
  have lm : ((mRows f rs).map PyData.list).length = 2 ^ f := by unfold mRows; rw [List.length_map, List.length_map, statesL_len]
  have e1 : dBtw (.int (f : Int)) 0 4 = true := by
    show (decide ((0 : Int) ≤ f) && decide ((f : Int) ≤ 4)) = true
    rw [decide_eq_true (by omega), decide_eq_true (by omega)]; rfl
  have e2 : errStates (.list ((sRows f).map PyData.list)) (f : Int) = none := by
    unfold errStates
    rw [if_pos (row_list (by rw [ls]; omega) (by rw [ls]; omega))]
    show ((firstBad _ ((sRows f).map PyData.list)).bind _) = none
    rw [firstBad_none fun d hd => ?_]; rfl
    obtain ⟨r, hr, rfl⟩ := List.mem_map.mp hd
    obtain ⟨bs, hb, rfl⟩ := List.mem_map.mp hr
    have hl := statesL_mem hb
    unfold dFacts
    have lb : (bitsD bs).length = f := by unfold bitsD; rw [List.length_map, hl]
    rw [row_list (by rw [lb]; exact Int.le_refl _) (by rw [lb]; exact Int.le_refl _), Bool.true_and]
    show (bitsD bs).all dBool = true
    exact List.all_eq_true.mpr fun x hx => by obtain ⟨b, _, rfl⟩ := List.mem_map.mp hx; rfl
  have e3 : dLen (.list ((sRows f).map PyData.list)) = ((2 ^ f : Nat) : Int) := by show ((((sRows f).map PyData.list).length : Nat) : Int) = _; rw [ls]
  have e4 : errMoves (.list ((mRows f rs).map PyData.list)) ((2 ^ f : Nat) : Int) = none := by
    have m0 : ∃ bs, dAt (.list ((mRows f rs).map PyData.list)) 0 = .list (rs.map fun r => fwMove f r bs) := by
      have := statesL_at (f := f) (i := 0) (by omega)
      refine ⟨(List.range f).map fun j => Nat.testBit 0 j, ?_⟩
      show (((mRows f rs).map PyData.list).getD 0 .none) = _
      unfold mRows
      rw [List.getD_eq_getElem?_getD, List.getElem?_map, List.getElem?_map, this]; rfl
    obtain ⟨bs0, m0⟩ := m0
    have l0 : dLen (.list (rs.map fun r => fwMove f r bs0)) = (rs.length : Int) := by show (((rs.map _).length : Nat) : Int) = _; rw [List.length_map]
    unfold errMoves
    rw [if_pos (row_list (by rw [lm]; exact Int.le_refl _) (by rw [lm]; exact Int.le_refl _)), m0, if_pos (row_list (by rw [List.length_map]; omega) (by rw [List.length_map]; omega)), l0]
    show ((firstBad _ ((mRows f rs).map PyData.list)).bind _) = none
    rw [firstBad_none fun d hd => ?_]; rfl
    obtain ⟨r, hr, rfl⟩ := List.mem_map.mp hd
    obtain ⟨bs, hb, rfl⟩ := List.mem_map.mp hr
    unfold dMoves
    rw [row_list (by rw [List.length_map]; exact Int.le_refl _) (by rw [List.length_map]; exact Int.le_refl _), Bool.true_and]
    refine List.all_eq_true.mpr fun x hx => ?_
    obtain ⟨rr, _, rfl⟩ := List.mem_map.mp hx
    unfold fwMove
    by_cases c : dHolds (dAt rr 0) bs = true
    · rw [if_pos c]
      have hm := states_all f hf (chg rr bs) (by rw [chg_len, statesL_mem hb])
      have hi := List.idxOf_lt_length_of_mem hm
      rw [statesL_len] at hi
      show (false || (decide ((0 : Int) ≤ (((statesL f).idxOf (chg rr bs) : Nat) : Int)) && decide ((((statesL f).idxOf (chg rr bs) : Nat) : Int) ≤ ((2 ^ f : Nat) : Int) - 1))) = true
      rw [Bool.false_or, decide_eq_true (by omega), decide_eq_true (by omega)]; rfl
    · rw [if_neg c]; rfl
  unfold errWorld
  rw [if_pos e1]
  show (match errStates _ (f : Int) with | some e => some e | none => errMoves _ _) = none
  rw [e2, e3]
  exact e4
/-- every_facts(facts): a list of new lists -/
def spEvery : Sp := fun vs H Q _ => ∃ f : Nat, vs = [.int (f : Int)] ∧ f ≤ 4 ∧ ∀ (D2 : Addr) (ps : List Addr) (H4 : Hp), H D2 = none → Same H H4 → H4 D2 = some (.lst (ps.map V.ref)) → ps.length = 2 ^ f →
  (∀ (i : Nat) (p : Addr), ps[i]? = some p → H4 p = some (.lst (((List.range f).map fun j => i.testBit j).map V.bl)) ∧ H p = none) → Q (.ref D2) H4
theorem cal_every_facts (T : Bi mg) (D : Def K mg "every_facts" S_every_facts P_every_facts) : Cal P w K mg base CX0 "every_facts" 1 P_every_facts spEvery := by
  refine D.cal sc_every_facts (fun vs H Q E h => ?_) (fun fa cdv A outer s H vs Q E hr h => ?_)
  · obtain ⟨f, rfl, _⟩ := h; rfl
  · obtain ⟨f, rfl, f4, kq⟩ := h
    obtain ⟨p1, p2⟩ := pow16 f4
    refine ⟨_, (pss_one (ps_ret (pe_lc (own := [("at", 1)]) (tt := tYes) rfl sc_every_facts.nd (pi_range1 (by rfl) T.range (pa_cons (pe_op op_shl pe_int (pv 0)) pa_nil)) (blkOk_by (N := N_every_facts) (sc := defScope S_every_facts) (by decide +kernel)) (fun _ _ _ _ _ => (pg_name (i := 1) sc_every_facts.nd rfl (Or.inr rfl))) (fun _ _ _ _ _ => pts_nil) (fun _ _ _ _ _ => (pe_lc (own := [("fact", 2)]) (tt := tYes) rfl sc_every_facts.nd (pi_range1 (by rfl) T.range (pa_cons (pv 0) pa_nil)) (blkOk_by (N := N_every_facts) (sc := { kind := .function, names := [(PySem.Str.ofString ".0", .local), (PySem.Str.ofString "at", .cell), (PySem.Str.ofString "range", .globalImplicit), (PySem.Str.ofString "facts", .cell)], isGenerator := false, isCoroutine := false }) (by decide +kernel)) (fun _ _ _ _ _ => (pg_name (i := 2) sc_every_facts.nd rfl (Or.inl rfl))) (fun _ _ _ _ _ => pts_nil) (fun _ _ _ _ _ => (pe_cmpR op_eq (pe_op op_and (pe_op op_shr (pv 1) (pv 2)) pe_int) pe_int (nomark _)))))))), ?_⟩
    refine tret (lc_rngL (2 ^ f) (fun k => ((List.range f).map fun j => k.testBit j).map V.bl) (j := 1 * 2 ^ ((f : Int)).toNat) (fun R k => ⟨_, rfl, _, _, rfl, rfl, ⟨by omega, by omega, by decide⟩, k⟩) (by rw [Int.one_mul, Int.toNat_natCast]; norm_cast) ?_ (by omega) (fun x => rfl) (fun k H4 Qe hk s4 kk => ?_) (fun D2 ps H4 hD2 s4 hD4 hpl hps => kq D2 ps H4 hD2 s4 hD4 hpl hps))
    · rw [Int.one_mul]
      exact Int.le_trans (by decide) (Int.pow_nonneg (by decide))
    · refine lc_rng (K := K) (j := (f : Int)) f (fun j => .bool (k.testBit j)) (fun R k => ⟨_, rfl, k⟩) (by omega) (by omega) (by omega) (fun i _ => ⟨0, .bl _⟩) (fun x => rfl) (fun j H5 Qe hj s5 k5 => ?_) (fun L5 acc5 H5 hL5 s5 hacc5 hda5 => ?_)
      · refine ⟨_, rfl, _, rfl, _, _, rfl, rfl, by show (0 : Int) ≤ 0 + (j : Int); omega, _, _, rfl, rfl, rfl, ?_⟩
        have e9 : decide (V.int (Builtin.bitAnd ((0 + (k : Int)) / 2 ^ ((0 + (j : Int))).toNat) 1) = V.int 1) = k.testBit j := by
          have b9 := bit_at k j (by omega) (by omega)
          cases q9 : k.testBit j with
          | true => rw [b9.mpr q9]; rfl
          | false =>
            refine decide_eq_false fun z => ?_
            rw [b9.mp (by injection z)] at q9; cases q9
        rw [e9]
        exact k5 _ _ (Same.refl _) (.bl _)
      · have e9 : acc5 = ((List.range f).map fun j => k.testBit j).map V.bl := bools_of (by rw [List.map_map]; exact hda5)
        rw [e9] at hacc5
        exact kk L5 H5 s5 hL5 hacc5
theorem world_facts {C : Addr} {cs : Nat → Addr} {n : Nat} (T : Bi mg) (X_BadValue : ExC P w K mg base "BadValue" (cs 0) ["self", "at"] (spIni1 K (cs 0) "at"))
    (C_is_between : Cal P w K mg base CX0 "is_between" (n + 12) P_is_between (spB3 K dBtw)) (C_is_row : Cal P w K mg base CX0 "is_row" (n + 12) P_is_row (spB3 K dRow)) (C_is_deed_rule : Cal P w K mg base CX0 "is_deed_rule" (n + 12) P_is_deed_rule (spB2 K dRule))
    (C_holds : Cal P w K mg base CX0 "holds" (n + 12) P_holds (spHolds K)) (C_changed : Cal P w K mg base CX0 "changed" (n + 12) P_changed (spChanged K)) (C_every_facts : Cal P w K mg base CX0 "every_facts" (n + 12) P_every_facts spEvery) (N_World : CCal P w K mg base (L2.CX P w) "World" C (n + 11) ["self", "facts", "states", "moves"] (spWorldInit K C cs (n + 3)))
    (D : Def K mg "facts_world" S_facts_world P_facts_world) : Cal P w K mg base (L2.CX P w) "facts_world" (n + 13) P_facts_world (spFactsWorld K C cs (n + 3)) := by
  refine D.calX sc_facts_world (fun vs H Q E h => ?_) (fun fa cdv A outer s H vs Q E hr h => ?_)
  · obtain ⟨xf, xd, df, dd, rfl, _⟩ := h; rfl
  · obtain ⟨xf, xd, df, dd, rfl, hf, hd, wf, wd, kq⟩ := h
    refine ⟨_, (pss_cons (ps_if (pt_not (pt_val (pe_fn C_is_between hr (pa_cons (pv 0) (pa_cons pe_int (pa_cons (pe_const T.g_MOST_FACTS) pa_nil)))))) (pss_one (ps_raise rfl (takes_of rfl rfl rfl rfl) (pmk_ex (k := 1) X_BadValue (hr.mono (by omega)) (pa_cons pe_int pa_nil)))) pss_nil)
  (pss_cons (ps_if (PW.pt (pw_or (pt_not (pt_val (pe_fn C_is_row hr (pa_cons (pv 1) (pa_cons pe_int (pa_cons (pe_const T.g_MOST_DEEDS) pa_nil)))))) (pw_or1 (pt_not (pt_val (pe_callB (id := "all") (cr_all rfl) (by rfl) T.all (by decide +kernel) (pa_cons (pe_lc (own := [("rule", 5)]) (tt := tYes) rfl sc_facts_world.nd (pi_seq (pv 1)) (blkOk_by (N := N_facts_world) (sc := defScope S_facts_world) (by decide +kernel)) (fun _ _ _ _ _ => (pg_name (i := 5) sc_facts_world.nd rfl (Or.inl rfl))) (fun _ _ _ _ _ => pts_nil) (fun _ _ _ _ _ => (pe_fn C_is_deed_rule hr (pa_cons (pv 5) (pa_cons (pv 0) pa_nil))))) pa_nil))))))) (pss_one (ps_raise rfl (takes_of rfl rfl rfl rfl) (pmk_ex (k := 1) X_BadValue (hr.mono (by omega)) (pa_cons pe_int pa_nil)))) pss_nil)
  (pss_cons (ps_set (i := 2) sc_facts_world.nd rfl (Or.inr rfl) (pe_fn C_every_facts hr (pa_cons (pv 0) pa_nil)))
  (pss_cons (ps_set (i := 3) sc_facts_world.nd rfl (Or.inl rfl) (pe_lst pa_nil))
  (pss_cons (ps_for (passes_of rfl) rfl (pi_list (pv 2)) (pg_name (i := 4) sc_facts_world.nd rfl (Or.inr rfl)) (pss_one (ps_expr (pe_bm PySem.F.plainAttrs_list PySem.F.slot_list_append PySem.F.type_list_append mt_append (pv 3) (pa_cons (pe_lc (own := [("rule", 5)]) (tt := tYes) rfl sc_facts_world.nd (pi_seq (pv 1)) (blkOk_by (N := N_facts_world) (sc := defScope S_facts_world) (by decide +kernel)) (fun _ _ _ _ _ => (pg_name (i := 5) sc_facts_world.nd rfl (Or.inl rfl))) (fun _ _ _ _ _ => pts_nil) (fun _ _ _ _ _ => (pe_ifExp (pt_val (pe_fn C_holds hr (pa_cons (pe_ix (r := rIx K) ix_seq (pv 5) pe_int (fun _ _ => rfl)) (pa_cons (pv 4) pa_nil)))) (show PE _ _ (tBM K _ (rIndexD K) _ _) from (pe_bm PySem.F.plainAttrs_list PySem.F.slot_list_index PySem.F.type_list_index (mt_indexD (hu_in hr)) (pv 2) (pa_cons (pe_fn C_changed hr (pa_cons (pv 4) (pa_cons (pv 5) pa_nil))) pa_nil))) pe_non))) pa_nil)))))
  (pss_one (ps_ret (pe_new N_World hr (passes_tk (takes_of rfl rfl rfl rfl)) (pa_cons (pv 0) (pa_cons (pv 2) (pa_cons (pv 3) pa_nil))))))))))), ?_⟩
    refine ⟨_, rfl, xf, df, n + 3, 0, 4, rfl, hf, wf, fun H1 s1 => ⟨_, rfl, ?_⟩⟩
    refine ite2 (fun c => ?_) (fun c => ?_)
    · have er : errFw df dd = fValue 1 := by unfold errFw; rw [not_false' c]; rfl
      rw [er] at kq
      exact ⟨by show 1 ≤ 1000; decide, made1 fun e H' s2 n2 e2 => kq e H' (s1.trans s2) (s1.free n2) e2⟩
    · have c1 := not_true c
      obtain ⟨i, rfl⟩ : ∃ i, df = .int i := by cases df <;> first | exact ⟨_, rfl⟩ | cases c1
      cases hf
      have c1' : (decide ((0 : Int) ≤ i) && decide (i ≤ 4)) = true := c1
      obtain ⟨q1, q2⟩ := Bool.and_eq_true_iff.mp c1'
      have i0 := of_decide_eq_true q1
      have i4 := of_decide_eq_true q2
      obtain ⟨f, rfl⟩ : ∃ f : Nat, i = (f : Int) := ⟨i.toNat, by omega⟩
      have f4 : f ≤ 4 := by omega
      have er : errFw (.int (f : Int)) dd = (if (dRow dd 1 5 && dAll (fun r => dRule r (f : Int)) dd) = true then none else fValue 2) := by unfold errFw; rw [if_pos c1]; rfl
      refine tnx ?_
      dsimp only
      refine ⟨_, rfl, xd, dd, n + 3, 1, 5, rfl, dp_same s1 hd, wd, fun H2 s2 => ⟨_, rfl, ?_⟩⟩
      have s12 := s1.trans s2
      refine ite2 (fun c2 => ?_) (fun c2 => ?_)
      · rw [er, not_false' c2] at kq
        exact iteT ⟨by show 1 ≤ 1000; decide, made1 fun e H' s3 n3 e3 => kq e H' (s12.trans s3) (s12.free n3) e3⟩
      obtain ⟨rs, e, l1, l2⟩ := row_items (not_true c2)
      obtain ⟨a, xs, rfl, hq, ha⟩ := dp_items (dp_same s12 hd) e
      obtain ⟨hz, m', em, hwi⟩ := wf_items wd e
      have eall : dAll (fun r => dRule r (f : Int)) dd = (rs.map fun r => dRule r (f : Int)).all id := by unfold dAll; rw [e, List.all_map]; rfl
      refine tcb1 (lc_dpS (fun r => .bool (dRule r (f : Int))) (fun R k => ⟨_, rfl, k⟩) hq ha hz (fun e _ => ⟨0, .bl _⟩) (fun x => rfl) (fun j y e' H3 Qe he s3 hy k => ?_) (fun L acc H3 hL s3 hacc hda => ?_))
      · exact ⟨_, rfl, _, rfl, y, e', m', (f : Int), rfl, hy, hwi e' (List.mem_of_getElem? he), fun H4 s4 => k _ _ s4 (.bl _)⟩
      have eb : acc = (rs.map fun r => dRule r (f : Int)).map V.bl := bools_of (by rw [List.map_map]; exact hda)
      subst eb
      have s13 := s12.trans s3
      refine ⟨L, _, rfl, SqL.of hacc, _, rfl, ?_⟩
      refine ite2 (fun c3 => ?_) (fun c3 => ?_)
      · rw [er, not_true c2, Bool.true_and, eall, not_false' c3] at kq
        exact ⟨by show 1 ≤ 1000; decide, made1 fun e H' s4 n4 e4 => kq e H' (s13.trans s4) (s13.free n4) e4⟩
      have hall : ∀ r ∈ rs, dRule r (f : Int) = true := fun r hr => by
        have := not_true c3
        rw [List.all_map] at this
        exact List.all_eq_true.mp this r hr
      have er2 : errFw (.int (f : Int)) dd = none := by rw [er, not_true c2, Bool.true_and, eall, not_true c3]; rfl
      rw [er2] at kq
      have hq3 := hq.same s3
      have ha3 := dpAll_same s3 ha
      obtain ⟨p1, p2⟩ := pow16 f4
      refine tnx ?_
      dsimp only
      refine tseq (tasg ⟨_, rfl, f, rfl, f4, fun D2 ps H4 hD2 s4 hD4 hpl hps => ?_⟩)
      have s14 := s13.trans s4
      have stf : ∀ (i : Nat) (p : Addr) (r : List PyData), ps[i]? = some p → (sRows f)[i]? = some r → H4 p = some (.lst (r.map toV)) := fun i p r h1 h2 => by
        have hi : i < 2 ^ f := by rw [← hpl]; exact (List.getElem?_eq_some_iff.mp h1).1
        have h3 := (hps i p h1).1
        unfold sRows at h2
        rw [List.getElem?_map, statesL_at hi] at h2
        obtain rfl := Option.some.inj h2
        rw [h3]
        unfold bitsD
        rw [List.map_map, List.map_map, List.map_map]; rfl
      have dpS : Dp K H4 (.ref D2) (.list ((sRows f).map PyData.list)) := dp_lists hD4 (by unfold sRows; rw [List.length_map, statesL_len, hpl]) sRows_flat stf
      have eS : (sRows f).map PyData.list = (statesL f).map fun bs => PyData.list (bitsD bs) := by unfold sRows; rw [List.map_map]; rfl
      refine ⟨Nat.zero_le _, fun M hM => ?_⟩
      have sM : Same H4 (upd H4 M (.lst [])) := Same.new hM
      refine ⟨_, rfl, D2, rfl, ⟨_, SqL.of (sM _ _ hD4)⟩, for_list (K := K) (a := D2) (xs := ps.map V.ref) (fun i σ H' => (∃ v4 v5 : Option V, σ = [some (.int (f : Int)), some (.ref a), some (.ref D2), some (.ref M), v4, v5]) ∧ Same H4 H' ∧ ∃ qs : List Addr, H' M = some (.lst (qs.map V.ref)) ∧ qs.length = i ∧ ∀ (k : Nat) (q : Addr) (r : List PyData), qs[k]? = some q → (mRows f rs)[k]? = some r → H' q = some (.lst (r.map toV)) ∧ q ≠ M)
        ⟨⟨_, _, rfl⟩, sM, [], upd_same, rfl, fun k q r h => by simp at h⟩ (fun i σ H' _ p => SqL.of (p.2.1 _ _ hD4)) ?_ ?_⟩
      · rintro i y σ H5 hi ⟨⟨v4, v5, rfl⟩, s5, qs, hqM, hql, hqs⟩
        obtain ⟨p, hp, rfl⟩ : ∃ p, ps[i]? = some p ∧ y = V.ref p := by
          rw [List.getElem?_map] at hi
          cases q : ps[i]? with
          | none => rw [q] at hi; cases hi
          | some p => rw [q] at hi; exact ⟨p, rfl, (Option.some.inj hi).symm⟩
        have hi2 : i < 2 ^ f := by rw [← hpl]; exact (List.getElem?_eq_some_iff.mp hp).1
        obtain ⟨bs, hbs, hbm, hbl⟩ : ∃ bs, (statesL f)[i]? = some bs ∧ bs ∈ statesL f ∧ bs.length = f := by
          have := statesL_at hi2
          exact ⟨_, this, List.mem_of_getElem? this, statesL_mem (List.mem_of_getElem? this)⟩
        have hpb : H5 p = some (.lst (bs.map V.bl)) := by
          have h3 := s5 _ _ (hps i p hp).1
          have := statesL_at hi2
          rw [hbs] at this
          rw [h3, ← Option.some.inj this]
        have s15 := s14.trans s5
        refine ⟨_, rfl, .inl ⟨rfl, _, SqL.of hqM⟩, ?_⟩
        refine tcons1 (lc_dpS (fun r => fwMove f r bs) (fun R k => ⟨_, rfl, k⟩) (hq3.same (s4.trans s5)) (dpAll_same (s4.trans s5) ha3) hz (fun r _ => ⟨0, by unfold fwMove; split; exact .int _; exact .non⟩) (fun x => rfl) (fun j y r H6 Qe he s6 hy k => ?_) (fun L6 acc6 H6 hL6 s6 hacc6 hda6 => ?_))
        · have hr := hall r (List.mem_of_getElem? he)
          have wr := hwi r (List.mem_of_getElem? he)
          obtain ⟨d0, d1, d2, es1, es2, er', e0, e1, e2, cc, _⟩ := rule_items hr
          obtain ⟨b, ys, rfl, hqb, hab⟩ := dp_items hy er'
          obtain ⟨v0, h0, hv0⟩ := dp_at er' hab (i := 0) (by show 0 < 3; decide)
          obtain ⟨m2, em2⟩ : ∃ m2, m' = m2 + 1 := by
            obtain ⟨_, m2, em2, _⟩ := wf_items wr er'
            exact ⟨m2, em2⟩
          have hpb6 := s6 _ _ hpb
          refine ⟨_, rfl, seq_ix hqb (at_of (j := 0) rfl h0) ⟨_, rfl, v0, dAt r 0, m2, p, bs, rfl, hv0, wf_at (by rw [← em2]; exact wr) 0, .inl (SqL.of hpb6), by rw [hbl, e0]; exact cc, fun H7 s7 => ⟨_, rfl, ?_⟩⟩⟩
          have sf : Same H4 H7 := (s5.trans s6).trans s7
          refine ite2 (fun c7 => ?_) (fun c7 => ?_)
          · have ef : fwMove f r bs = .int (((statesL f).idxOf (chg r bs) : Nat) : Int) := by unfold fwMove; rw [if_pos c7]
            refine ⟨_, rfl, .inl ⟨rfl, _, SqL.of (sf _ _ hD4)⟩, _, rfl, _, rfl, .ref b, r, m', p, bs, rfl, dp_same s7 hy, wr, .inl (SqL.of (s7 _ _ hpb6)), by omega, by rw [hbl]; exact hr, fun q H8 s8 hq8 => ?_⟩
            have hm := states_all f f4 (chg r bs) (by rw [chg_len, hbl])
            have hix := List.idxOf_lt_length_of_mem hm
            have hget : (statesL f)[(statesL f).idxOf (chg r bs)]? = some (chg r bs) := by
              rw [List.getElem?_eq_getElem hix, List.getElem_idxOf]
            refine ⟨D2, .ref q, .list (bitsD (chg r bs)), (statesL f).map fun bs => PyData.list (bitsD bs), (statesL f).idxOf (chg r bs), .list (bitsD (chg r bs)), rfl, rfl, by rw [← eS]; exact dp_same (sf.trans s8) dpS, .lst (SqL.of hq8) (dpAll_bools _), shaped_states f f4, shaped_bits _, ?_, ?_, ?_, ?_⟩
            · rw [List.getElem?_map, hget]; rfl
            · rw [eqv_bits]; exact decide_eq_true rfl
            · intro m z' hm' hz'
              rw [List.getElem?_map] at hz'
              cases q9 : (statesL f)[m]? with
              | none => rw [q9] at hz'; cases hz'
              | some b9 =>
                rw [q9] at hz'
                obtain rfl := Option.some.inj hz'
                rw [eqv_bits]
                refine decide_eq_false fun z => ?_
                subst z
                exact absurd (idxOf_le9 q9) (Nat.not_le.mpr hm')
            · rw [ef] at k
              exact k _ _ (s7.trans s8) (.int _)
          · have ef : fwMove f r bs = .none := by unfold fwMove; rw [if_neg c7]
            rw [ef] at k
            exact k _ _ s7 .non
        · have e6 : acc6 = (rs.map fun r => fwMove f r bs).map toV := flat_of (fun d hd => by obtain ⟨r, _, rfl⟩ := List.mem_map.mp hd; exact fwMove_flat ..) hda6
          subst e6
          have hqM6 := s6 _ _ hqM
          have nLM : L6 ≠ M := fun z => by rw [z, hqM] at hL6; cases hL6
          refine ⟨M, qs.map V.ref, .ref L6, rfl, rfl, hqM6, by rw [List.length_map, hql]; exact Nat.lt_of_le_of_lt (by omega : i ≤ 1000) (by decide), ?_⟩
          refine ⟨⟨_, _, rfl⟩, fun b o e9 => by rw [upd_ne (ne_of_none e9 hM)]; exact (s5.trans s6) _ _ e9, qs ++ [L6], by rw [upd_same, List.map_append]; rfl, by rw [List.length_append, hql]; rfl, fun k q r h1 h2 => ?_⟩
          by_cases hk : k < qs.length
          · rw [List.getElem?_append_left hk] at h1
            obtain ⟨h3, h4⟩ := hqs k q r h1 h2
            exact ⟨by rw [upd_ne h4]; exact s6 _ _ h3, h4⟩
          · have hk2 : k = qs.length := by
              have := (List.getElem?_eq_some_iff.mp h1).1
              rw [List.length_append] at this
              simp at this; omega
            subst hk2
            rw [List.getElem?_append_right (Nat.le_refl _)] at h1
            simp at h1
            subst h1
            unfold mRows at h2
            rw [List.getElem?_map, hql, hbs] at h2
            obtain rfl := Option.some.inj h2
            exact ⟨by rw [upd_ne nLM]; exact hacc6, nLM⟩
      · rintro σ H5 ⟨⟨v4, v5, rfl⟩, s5, qs, hqM, hql, hqs⟩
        rw [List.length_map, hpl] at hql
        have dpM : Dp K H5 (.ref M) (.list ((mRows f rs).map PyData.list)) := dp_lists hqM (by unfold mRows; rw [List.length_map, statesL_len, hql]) mRows_flat fun i p r h1 h2 => (hqs i p r h1 h2).1
        refine ⟨_, rfl, _, rfl, _, rfl, fun x dx hx hdx hne => ?_⟩
        have sN : Same H5 (upd (upd H5 dx (.own x)) x (.ins C dx [])) := fun b o e9 => by rw [upd_ne (ne_of_none e9 hx), upd_ne (ne_of_none e9 hdx)]; exact e9
        have sz : (sRows f).length ≤ 1000 := by unfold sRows; rw [List.length_map, statesL_len]; omega
        have mz : (mRows f rs).length ≤ 1000 := by unfold mRows; rw [List.length_map, statesL_len]; omega
        refine ⟨x, dx, .int (f : Int), .ref D2, .ref M, .int (f : Int), _, _, rfl, upd_same, .int _, dp_same (s5.trans sN) dpS, dp_same sN dpM, .int _, wf_lists (n := n + 1) sz (fun r hr => ⟨?_, sRows_flat r hr⟩), wf_lists (n := n + 1) mz (fun r hr => ⟨?_, mRows_flat r hr⟩), ?_⟩
        · obtain ⟨bs, hb, rfl⟩ := List.mem_map.mp hr
          unfold bitsD
          rw [List.length_map, statesL_mem hb]; omega
        · obtain ⟨bs, hb, rfl⟩ := List.mem_map.mp hr
          rw [List.length_map]; omega
        · rw [errW_fw f4 (by omega) (by omega)]
          intro H6 b6 w6
          refine ⟨rfl, kq x H6 (fun b o e9 => b6 _ _ (ne_of_none ((s14.trans s5) _ _ e9) hx) (sN _ _ ((s14.trans s5) _ _ e9))) ?_⟩
          rw [plain_lists sRows_flat, plain_lists mRows_flat] at w6
          have eS2 : (sRows f).map PyData.tuple = (statesL f).map fun bs => PyData.tuple (bitsD bs) := by unfold sRows; rw [List.map_map]; rfl
          have eM2 : (mRows f rs).map PyData.tuple = (statesL f).map fun bs => PyData.tuple (((dItems dd).getD []).map fun r => fwMove f r bs) := by unfold mRows; rw [List.map_map, e]; rfl
          rw [eS2, eM2] at w6
          exact w6
end
end Mw
set_option Elab.async false
set_option maxRecDepth 100000
set_option maxHeartbeats 1000000
namespace Mw
open PySem L2
/-! ### the row of drawn numbers, a draw, the next one -/
abbrev S_law_numbers : Stmt := topS 33
abbrev N_law_numbers : List Str := ["script", "row", "cell", "left", "k", "mixed"]
abbrev P_law_numbers : List Str := ["script"]
theorem sc_law_numbers : FnScope N_law_numbers P_law_numbers (defScope S_law_numbers) := ⟨rfl, rfl, rfl, by decide +kernel, rfl, by decide +kernel, by decide +kernel⟩
abbrev S_law_draw : Stmt := topS 34
abbrev N_law_draw : List Str := ["row", "at", "limit", "mixed"]
abbrev P_law_draw : List Str := ["row", "at", "limit"]
theorem sc_law_draw : FnScope N_law_draw P_law_draw (defScope S_law_draw) := ⟨rfl, rfl, rfl, by decide +kernel, rfl, by decide +kernel, by decide +kernel⟩
abbrev S_law_take : Stmt := topS 35
abbrev N_law_take : List Str := ["row", "spot", "limit"]
abbrev P_law_take : List Str := ["row", "spot", "limit"]
theorem sc_law_take : FnScope N_law_take P_law_take (defScope S_law_take) := ⟨rfl, rfl, rfl, by decide +kernel, rfl, by decide +kernel, by decide +kernel⟩
theorem small_log {i : Int} (h0 : 0 ≤ i) (h : i < 4294967296) : i.natAbs.log2 < 64 := PySem.Flt.log2_lt_of (by decide) (by omega)
theorem mulB_small {i j : Int} (h0 : 0 ≤ i) (h1 : i < 4294967296) (h2 : 0 ≤ j) (h3 : j < 4294967296) : CMulB i j := by
  have a := small_log h0 h1
  have b := small_log h2 h3
  unfold CMulB
  omega
theorem nums_at {ns : List Int} {i : Nat} (h : i < ns.length) : ∃ z, ns[i]? = some z ∧ (ns.map V.int)[i]? = some (V.int z) ∧ z ∈ ns :=
  ⟨ns[i], by simp [h], by simp [h], List.getElem_mem h⟩
theorem bits_log {z : Int} (h : Builtin.Int.intBits z ≤ 1048576) : z.natAbs.log2 < 1048577 := by
  by_cases z0 : z = 0
  · subst z0; decide
  · unfold Builtin.Int.intBits at h
    rw [if_neg (by simpa using z0)] at h
    omega
/-- the row so far -/
def Row0 (m : Nat) (ns : List Int) : Prop := ns.length ≤ m ∧ ∀ n ∈ ns, 0 ≤ n ∧ n < 2147483648
theorem Row0.more {m : Nat} {ns : List Int} {x : Int} (h : Row0 m ns) (h0 : 0 ≤ x) (h1 : x < 2147483648) : Row0 (m + 1) (ns ++ [x]) := by
  refine ⟨by rw [List.length_append, List.length_singleton]; have := h.1; omega, fun n hn => ?_⟩
  rcases List.mem_append.mp hn with q | q
  · exact h.2 n q
  · rw [List.mem_singleton.mp q]; exact ⟨h0, h1⟩
theorem Row0.mono {m m' : Nat} {ns : List Int} (h : Row0 m ns) (hm : m ≤ m') : Row0 m' ns := ⟨Nat.le_trans h.1 hm, h.2⟩
section
variable {P : Program} {w : World} {K : PySem.W.Frag} {mg : Str → Option Value} {base : Heap}
theorem cal_numbers (T : Bi mg) (D : Def K mg "_law_numbers" S_law_numbers P_law_numbers) : Cal P w K mg base CX0 "_law_numbers" 1 P_law_numbers (spNumbers K) := by
  refine D.cal sc_law_numbers (fun vs H Q E h => ?_) (fun f cdv A outer s H vs Q E hr h => ?_)
  · obtain ⟨a, ns, rfl, _⟩ := h; rfl
  · obtain ⟨a, ns, rfl, hS, hl, hb, kq⟩ := h
    refine ⟨_, (pss_cons (ps_set (i := 1) sc_law_numbers.nd rfl (Or.inl rfl) (pe_lst pa_nil))
  (pss_cons (ps_for PassesOwn.never rfl (pi_list (pe_slice sl_list (pv 0) po_none (po_some pe_int))) (pg_name (i := 2) sc_law_numbers.nd rfl (Or.inl rfl)) (pss_one (ps_if (pt_cmpR op_ge (pv 2) (pe_op op_pow pe_int pe_int) (nomark _)) (pss_cons (ps_set (i := 3) sc_law_numbers.nd rfl (Or.inl rfl) (pv 2))
  (pss_one (ps_for PassesOwn.never rfl (pi_range1 (by rfl) T.range (pa_cons pe_int pa_nil)) (pg_name (i := 4) sc_law_numbers.nd rfl (Or.inl rfl)) (pss_cons (ps_if (pt_cmpR op_eq (pv 3) pe_int (nomark _)) (pss_one ps_break) pss_nil)
  (pss_cons (ps_expr (pe_bm PySem.F.plainAttrs_list PySem.F.slot_list_append PySem.F.type_list_append mt_append (pv 1) (pa_cons (pe_op op_mod (pe_callTy (T := "int") call_int1 (by rfl) T.int (by decide +kernel) (pa_cons (pv 3) pa_nil)) pe_int) pa_nil)))
  (pss_one (ps_set (i := 3) sc_law_numbers.nd rfl (Or.inl rfl) (pe_op op_fdiv (pv 3) pe_int)))))))) (pss_one (ps_for PassesOwn.never rfl (pi_range1 (by rfl) T.range (pa_cons pe_int pa_nil)) (pg_name (i := 4) sc_law_numbers.nd rfl (Or.inl rfl)) (pss_cons (ps_set (i := 5) sc_law_numbers.nd rfl (Or.inl rfl) (pe_op op_mod (pe_callTy (T := "int") call_int1 (by rfl) T.int (by decide +kernel) (pa_cons (pe_op op_add (pe_op op_add (pe_op op_mulB (pv 2) pe_int) (pe_op op_mulB (pv 4) pe_int)) pe_int) pa_nil)) pe_int))
  (pss_one (ps_expr (pe_bm PySem.F.plainAttrs_list PySem.F.slot_list_append PySem.F.type_list_append mt_append (pv 1) (pa_cons (pe_op op_mod (pe_callTy (T := "int") call_int1 (by rfl) T.int (by decide +kernel) (pa_cons (pe_op op_add (pe_op op_mulB (pv 5) pe_int) (pv 4)) pa_nil)) pe_int) pa_nil))))))))))
  (pss_cons (ps_if (pt_cmpR op_eq (pe_callB (id := "len") call_len_seq (by rfl) T.len (by decide +kernel) (pa_cons (pv 1) pa_nil)) pe_int (nomark _)) (pss_one (ps_expr (pe_bm PySem.F.plainAttrs_list PySem.F.slot_list_append PySem.F.type_list_append mt_append (pv 1) (pa_cons pe_int pa_nil)))) pss_nil)
  (pss_one (ps_ret (pv 1)))))), ?_⟩
    refine ⟨Nat.zero_le _, fun p hp => ?_⟩
    have hS1 : SqL K (upd H p (.lst [])) a (ns.map V.int) := (Same.new hp).seq hS
    refine ⟨_, rfl, 63, rfl, a, _, rfl, hS1, fun q hq => ?_⟩
    have pq : p ≠ q := ne_of_none upd_same hq
    obtain ⟨ms, hms, hml, hmb⟩ : ∃ ms : List Int, cutV (ns.map V.int) none (some 63) = ms.map V.int ∧ ms.length ≤ 63 ∧ ∀ z ∈ ms, Builtin.Int.intBits z ≤ 1048576 := by
      refine ⟨(ns.drop (HT.sIx (ns.map V.int).length 0 none)).take (HT.sIx (ns.map V.int).length (ns.map V.int).length (some 63) - HT.sIx (ns.map V.int).length 0 none), ?_, ?_, fun z hz => ?_⟩
      · unfold cutV; rw [← List.map_drop, ← List.map_take]
      · rw [List.length_take, List.length_drop]; omega
      · exact hb z (List.mem_of_mem_drop (List.mem_of_mem_take hz))
    have s0 : Same H (upd (upd H p (.lst [])) q (.lst (cutV (ns.map V.int) none (some 63)))) := (Same.new hp).trans (Same.new hq)
    refine ⟨q, rfl, ⟨_, SqL.of upd_same⟩, for_list (K := K) (a := q) (xs := ms.map V.int) (fun i σ H' => ∃ (rs : List Int) (v2 v3 v4 v5 : Option V), σ = [some (.ref a), some (.ref p), v2, v3, v4, v5] ∧ Row0 (60 * i) rs ∧ H' p = some (.lst (rs.map V.int)) ∧ H' q = some (.lst (ms.map V.int)) ∧ (∀ b o, H b = some o → H' b = some o))
      ⟨[], none, none, none, none, rfl, ⟨Nat.zero_le _, fun n hn => nomatch hn⟩, by rw [upd_ne pq]; exact upd_same, by rw [← hms]; exact upd_same, s0⟩ (fun i σ H' _ ⟨_, _, _, _, _, _, _, _, e, _⟩ => SqL.of e) ?_ ?_⟩
    · rintro i y σ H1 hi ⟨rs, v2, v3, v4, v5, rfl, hr0, h1p, h1q, h1s⟩
      have him : i < ms.length := by
        have z := (List.getElem?_eq_some_iff.mp hi).1
        rw [List.length_map] at z; exact z
      obtain ⟨z, _, e2, hz⟩ := nums_at him
      rw [e2] at hi
      obtain rfl := Option.some.inj hi
      have hzb := bits_log (hmb z hz)
      have c48 : (48271 : Int).natAbs.log2 < 64 := small_log (by decide) (by decide)
      -- what both inner loops keep
      refine ⟨_, rfl, _, _, rfl, rfl, ⟨by decide, by decide, by decide⟩, _, _, rfl, rfl, _, rfl, ?_⟩
      refine ite2 (fun _ => ?_) (fun _ => ?_)
      · refine ⟨_, rfl, 60, rfl, by decide, by decide, for_range (lo := 0) (n := 60) (fun j σ H' => ∃ (rs : List Int) (l : Int) (v4 v5 : Option V), σ = [some (.ref a), some (.ref p), some (.int z), some (.int l), v4, v5] ∧ Row0 (60 * i + j) rs ∧ H' p = some (.lst (rs.map V.int)) ∧ H' q = some (.lst (ms.map V.int)) ∧ (∀ b o, H b = some o → H' b = some o))
          ⟨rs, z, v4, v5, rfl, hr0, h1p, h1q, h1s⟩ ?_ ?_⟩
        · rintro j σ H2 hj ⟨rs, l, v4, v5, rfl, hr0, h2p, h2q, h2s⟩
          refine ⟨_, rfl, rfl, _, rfl, ?_⟩
          refine ite2 (fun _ => ?_) (fun _ => ?_)
          · exact ⟨rs, _, _, _, _, rfl, hr0.mono (by omega), h2p, h2q, h2s⟩
          · have l0 : 0 ≤ l % 997 := Int.emod_nonneg _ (by decide)
            have l1 : l % 997 < 997 := Int.emod_lt_of_pos _ (by decide)
            refine ⟨_, rfl, .inl ⟨rfl, _, SqL.of h2p⟩, _, rfl, .inl ⟨_, rfl, _, _, rfl, rfl, by show (0 : Int) < 997; decide, p, _, _, rfl, rfl, h2p, ?_, ?_⟩⟩
            · rw [List.length_map]; exact Nat.lt_of_le_of_lt hr0.1 (Nat.lt_of_le_of_lt (by omega : 60 * i + j ≤ 4000) (by decide))
            · refine ⟨_, rfl, _, _, rfl, rfl, ⟨by decide, by decide⟩, ?_⟩
              refine ⟨rs ++ [l % 997], _, _, _, rfl, hr0.more l0 (by omega), ?_, ?_, fun b o e => ?_⟩
              · rw [upd_same, List.map_append]; rfl
              · rw [upd_ne pq.symm]; exact h2q
              · rw [upd_ne (ne_of_none e hp)]; exact h2s b o e
        · rintro σ H2 ⟨rs, l, v4, v5, rfl, hr0, h2p, h2q, h2s⟩
          exact ⟨rs, _, _, _, _, rfl, hr0.mono (by omega), h2p, h2q, h2s⟩
      · refine ⟨4, rfl, by decide, by decide, for_range (lo := 0) (n := 4) (fun j σ H' => ∃ (rs : List Int) (v3 v4 v5 : Option V), σ = [some (.ref a), some (.ref p), some (.int z), v3, v4, v5] ∧ Row0 (60 * i + j) rs ∧ H' p = some (.lst (rs.map V.int)) ∧ H' q = some (.lst (ms.map V.int)) ∧ (∀ b o, H b = some o → H' b = some o))
          ⟨rs, v3, v4, v5, rfl, hr0, h1p, h1q, h1s⟩ ?_ ?_⟩
        · rintro j σ H2 hj ⟨rs, v3, v4, v5, rfl, hr0, h2p, h2q, h2s⟩
          refine ⟨_, rfl, _, _, rfl, rfl, ?_, _, rfl, _, _, rfl, rfl, ?_, ?_⟩
          · show z.natAbs.log2 + (48271 : Int).natAbs.log2 < 100000000; omega
          · exact mulB_small (by omega) (by omega) (by decide) (by decide)
          · have m0 : 0 ≤ (z * 48271 + (0 + (j : Int)) * 69621 + 11) % 2147483647 := Int.emod_nonneg _ (by decide)
            have m1 : (z * 48271 + (0 + (j : Int)) * 69621 + 11) % 2147483647 < 2147483647 := Int.emod_lt_of_pos _ (by decide)
            refine ⟨_, _, rfl, rfl, _, _, rfl, rfl, .inl ⟨_, rfl, _, _, rfl, rfl, by show (0 : Int) < 2147483647; decide, ?_⟩⟩
            refine ⟨_, rfl, .inl ⟨rfl, _, SqL.of h2p⟩, _, rfl, _, _, rfl, rfl, mulB_small m0 (by omega) (by decide) (by decide), _, rfl, _, _, rfl, rfl, .inl ⟨_, rfl, _, _, rfl, rfl, by show (0 : Int) < 2147483629; decide, p, _, _, rfl, rfl, h2p, ?_, ?_⟩⟩
            · rw [List.length_map]; exact Nat.lt_of_le_of_lt hr0.1 (Nat.lt_of_le_of_lt (by omega : 60 * i + j ≤ 4000) (by decide))
            · have x0 : 0 ≤ ((z * 48271 + (0 + (j : Int)) * 69621 + 11) % 2147483647 * 16807 + (0 + (j : Int))) % 2147483629 := Int.emod_nonneg _ (by decide)
              have x1 : ((z * 48271 + (0 + (j : Int)) * 69621 + 11) % 2147483647 * 16807 + (0 + (j : Int))) % 2147483629 < 2147483629 := Int.emod_lt_of_pos _ (by decide)
              refine ⟨rs ++ [((z * 48271 + (0 + (j : Int)) * 69621 + 11) % 2147483647 * 16807 + (0 + (j : Int))) % 2147483629], _, _, _, rfl, hr0.more x0 (by omega), ?_, ?_, fun b o e => ?_⟩
              · rw [upd_same, List.map_append]; rfl
              · rw [upd_ne pq.symm]; exact h2q
              · rw [upd_ne (ne_of_none e hp)]; exact h2s b o e
        · rintro σ H2 ⟨rs, v3, v4, v5, rfl, hr0, h2p, h2q, h2s⟩
          exact ⟨rs, _, _, _, _, rfl, hr0.mono (by omega), h2p, h2q, h2s⟩
    · rintro σ H1 ⟨rs, v2, v3, v4, v5, rfl, hr0, h1p, h1q, h1s⟩
      refine ⟨_, rfl, p, _, rfl, .inl (SqL.of h1p), rfl, _, rfl, ?_⟩
      rw [List.length_map] at hr0
      refine ite2 (fun c => ?_) (fun c => ?_)
      · refine ⟨_, rfl, .inl ⟨rfl, _, SqL.of h1p⟩, p, _, _, rfl, rfl, h1p, ?_, ?_⟩
        · rw [List.length_map]; exact Nat.lt_of_le_of_lt hr0.1 (Nat.lt_of_le_of_lt (by omega : 60 * ms.length ≤ 4000) (by decide))
        · refine ⟨_, rfl, kq _ p (rs ++ [0]) (fun b o e => ?_) hp ⟨by rw [List.length_append, List.length_singleton]; omega, ?_, fun n hn => ?_⟩ ?_⟩
          · rw [upd_ne (ne_of_none e hp)]; exact h1s b o e
          · have := hr0.1; rw [List.length_append, List.length_singleton]; omega
          · exact (hr0.more (x := 0) (by decide) (by decide)).2 n hn
          · rw [upd_same, List.map_append]; rfl
      · refine ⟨_, rfl, kq _ p rs h1s hp ⟨?_, ?_, hr0.2⟩ h1p⟩
        · rcases Nat.eq_zero_or_pos rs.length with z | z
          · exact absurd (by rw [List.length_map, z]; rfl) c
          · exact z
        · have := hr0.1; omega
theorem cal_draw (T : Bi mg) (D : Def K mg "_law_draw" S_law_draw P_law_draw) : Cal P w K mg base CX0 "_law_draw" 1 P_law_draw (spDraw K) := by
  refine D.cal sc_law_draw (fun vs H Q E h => ?_) (fun f cdv A outer s H vs Q E hr h => ?_)
  · obtain ⟨r, ns, n, lim, rfl, _⟩ := h; rfl
  · obtain ⟨r, ns, n, lim, rfl, hS, ok, hlim, kq⟩ := h
    have hlim' : (fun (_ : Int) j => 0 < j) (0 : Int) lim := hlim
    refine ⟨_, (pss_cons (ps_if (pt_cmpR op_lt (pv 1) (pe_callB (id := "len") call_len_seq (by rfl) T.len (by decide +kernel) (pa_cons (pv 0) pa_nil)) (nomark _)) (pss_one (ps_ret (pe_op op_mod (pe_callTy (T := "int") call_int1 (by rfl) T.int (by decide +kernel) (pa_cons (pe_ix ix_list (pv 0) (pv 1) (fun _ _ => rfl)) pa_nil)) (pv 2)))) pss_nil)
  (pss_cons (ps_set (i := 3) sc_law_draw.nd rfl (Or.inl rfl) (pe_op op_mod (pe_callTy (T := "int") call_int1 (by rfl) T.int (by decide +kernel) (pa_cons (pe_op op_add (pe_op op_add (pe_op op_mul (pe_ix ix_list (pv 0) (pe_op op_mod (pe_callTy (T := "int") call_int1 (by rfl) T.int (by decide +kernel) (pa_cons (pv 1) pa_nil)) (pe_callB (id := "len") call_len_seq (by rfl) T.len (by decide +kernel) (pa_cons (pv 0) pa_nil))) (fun _ _ => rfl)) pe_int) (pe_op op_mul (pv 1) pe_int)) pe_int) pa_nil)) pe_int))
  (pss_one (ps_ret (pe_op op_mod (pe_callTy (T := "int") call_int1 (by rfl) T.int (by decide +kernel) (pa_cons (pe_op op_mod (pe_callTy (T := "int") call_int1 (by rfl) T.int (by decide +kernel) (pa_cons (pe_op op_add (pe_op op_mul (pv 3) pe_int) (pv 1)) pa_nil)) pe_int) pa_nil)) (pv 2)))))), ?_⟩
    refine ⟨_, rfl, _, rfl, r, _, rfl, .inl hS, _, _, rfl, rfl, _, rfl, ?_⟩
    refine ite2 (fun c => ?_) (fun c => ?_)
    · have c' : n < ns.length := by
        have z := of_decide_eq_true c
        rw [List.length_map] at z
        omega
      obtain ⟨z, _, hz, _⟩ := nums_at c'
      refine ⟨_, rfl, _, rfl, r, _, _, _, rfl, rfl, hS, at_of rfl hz, .inl ⟨_, rfl, _, rfl, _, _, rfl, rfl, hlim, ?_⟩⟩
      exact kq _ (Int.emod_nonneg _ (by omega)) (Int.emod_lt_of_pos _ hlim)
    · have hl : (0 : Int) < ((ns.map V.int).length : Int) := by rw [List.length_map]; have := ok.1; omega
      have hm : n % ns.length < ns.length := Nat.mod_lt _ ok.1
      obtain ⟨z, _, hz, hzm⟩ := nums_at hm
      have e : ((n : Int) % ((ns.map V.int).length : Int)) = ((n % ns.length : Nat) : Int) := by rw [List.length_map]; omega
      refine ⟨_, rfl, _, rfl, .inl ⟨_, rfl, _, rfl, r, _, rfl, .inl hS, _, _, rfl, rfl, hl, r, _, _, _, rfl, rfl, hS, at_of e hz, _, _, rfl, rfl, .inr ⟨by decide, by decide⟩, _, rfl, _, _, rfl, rfl, .inr ⟨by decide, by decide⟩, _, _, rfl, rfl, _, _, rfl, rfl,
        .inl ⟨_, rfl, _, _, rfl, rfl, by show (0 : Int) < 2147483399; decide, ?_⟩⟩⟩
      refine ⟨_, rfl, _, _, rfl, rfl, .inr ⟨by decide, by decide⟩, _, rfl, _, _, rfl, rfl, .inl ⟨_, rfl, _, _, rfl, rfl, by show (0 : Int) < 2147483647; decide, .inl ⟨_, rfl, _, rfl, _, _, rfl, rfl, hlim, ?_⟩⟩⟩
      exact kq _ (Int.emod_nonneg _ (by omega)) (Int.emod_lt_of_pos _ hlim)
theorem cal_take (T : Bi mg) (C_law_draw : Cal P w K mg base CX0 "_law_draw" 1 P_law_draw (spDraw K)) (D : Def K mg "_law_take" S_law_take P_law_take) : Cal P w K mg base CX0 "_law_take" 2 P_law_take spTake := by
  refine D.cal sc_law_take (fun vs H Q E h => ?_) (fun f cdv A outer s H vs Q E hr h => ?_)
  · obtain ⟨r, sp, lim, rfl, _⟩ := h; rfl
  · obtain ⟨r, sp, lim, rfl, ⟨ne, ⟨ns, ok, er⟩, n, en⟩, hlim, kq⟩ := h
    refine ⟨_, (pss_cons (ps_asg (pe_op op_add (pe_ix ix_list (pv 1) pe_int (fun _ _ => rfl)) pe_int) (pg_sub (pv 1) pe_int set_list))
  (pss_one (ps_ret (pe_fn C_law_draw hr (pa_cons (pv 0) (pa_cons (pe_op op_sub (pe_ix ix_list (pv 1) pe_int (fun _ _ => rfl)) pe_int) (pa_cons (pv 2) pa_nil))))))), ?_⟩
    refine ⟨_, rfl, sp, _, _, _, rfl, rfl, SqL.of en, at_of (j := 0) rfl rfl, _, _, rfl, rfl, _, rfl, sp, _, _, 0, rfl, rfl, en, rfl, ?_⟩
    have e2 : upd H sp (.lst ([V.int (n : Int)].set 0 (.int ((n : Int) + 1)))) sp = some (.lst [.int (((n + 1 : Nat) : Int))]) := by rw [upd_same]; rfl
    have er2 : upd H sp (.lst ([V.int (n : Int)].set 0 (.int ((n : Int) + 1)))) r = some (.lst (ns.map V.int)) := by rw [upd_ne ne]; exact er
    refine ⟨_, rfl, _, rfl, sp, _, _, _, rfl, rfl, SqL.of e2, at_of (j := 0) rfl rfl, _, _, rfl, rfl, _, rfl, r, ns, n, lim, ?_, SqL.of er2, ok, hlim, fun x h0 h1 => ?_⟩
    · show [V.ref r, V.int (((n + 1 : Nat) : Int) - 1), V.int lim] = _
      rw [show (((n + 1 : Nat) : Int) - 1) = (n : Int) by omega]
    · exact kq x _ h0 h1 Grow.at ⟨ne, ⟨ns, ok, er2⟩, n + 1, e2⟩ fun b hb => upd_ne hb
end
/-! ### the law's own comparison of data -/
abbrev S_law_so : Stmt := topS 32
abbrev N_law_so : List Str := ["found", "meant", "k"]
abbrev P_law_so : List Str := ["found", "meant"]
theorem sc_law_so : FnScope N_law_so P_law_so (defScope S_law_so) := ⟨rfl, rfl, rfl, by decide +kernel, rfl, by decide +kernel, by decide +kernel⟩
section
variable {P : Program} {w : World} {K : PySem.W.Frag} {mg : Str → Option Value} {base : Heap}
theorem cal_so (T : Bi mg) (D : Def K mg "_law_so" S_law_so P_law_so) : ∀ n : Nat, Cal P w K mg base CX0 "_law_so" n P_law_so (spSo K n)
  | 0 => D.never fun vs H Q E h => by obtain ⟨_, _, _, m, _, _, _, _, hm, _⟩ := h; omega
  | n + 1 => by
    have C_law_so := cal_so T D n
    refine D.cal sc_law_so (fun vs H Q E h => ?_) (fun f cdv A outer s H vs Q E hr h => ?_)
    · obtain ⟨x, y, d, m, rfl, _⟩ := h; rfl
    · obtain ⟨x, y, d, m, rfl, hx, hy, td, hm, kq⟩ := h
      refine ⟨_, (pss_cons (ps_if (pt_cmp (pc_isN (pv 1))) (pss_one (ps_ret (pe_cmp (pc_isN (pv 0))))) pss_nil)
  (pss_cons (ps_if (pt_val (pe_callB (id := "isinstance") call_isi (by rfl) T.isinstance (by decide +kernel) (pa_cons (pv 1) (pa_cons (pe_bltn (v := .ty "tuple") (by rfl) T.tuple (by decide +kernel) rfl) pa_nil)))) (pss_cons (ps_if (PW.pt (pw_or (pt_not (pt_val (pe_callB (id := "isinstance") call_isi (by rfl) T.isinstance (by decide +kernel) (pa_cons (pv 0) (pa_cons (pe_bltn (v := .ty "tuple") (by rfl) T.tuple (by decide +kernel) rfl) pa_nil))))) (pw_or1 (pt_cmpR op_ne (pe_callB (id := "len") call_len_seq (by rfl) T.len (by decide +kernel) (pa_cons (pv 0) pa_nil)) (pe_callB (id := "len") call_len_seq (by rfl) T.len (by decide +kernel) (pa_cons (pv 1) pa_nil)) (nomark _))))) (pss_one (ps_ret pe_bl)) pss_nil)
  (pss_cons (ps_for PassesOwn.never rfl (pi_range1 (by rfl) T.range (pa_cons (pe_callB (id := "len") call_len_seq (by rfl) T.len (by decide +kernel) (pa_cons (pv 1) pa_nil)) pa_nil)) (pg_name (i := 2) sc_law_so.nd rfl (Or.inl rfl)) (pss_one (ps_if (pt_not (pt_val (pe_fn C_law_so hr (pa_cons (pe_ix ix_tup (pv 0) (pv 2) (fun _ _ => rfl)) (pa_cons (pe_ix ix_tup (pv 1) (pv 2) (fun _ _ => rfl)) pa_nil))))) (pss_one (ps_ret pe_bl)) pss_nil)))
  (pss_one (ps_ret pe_bl)))) pss_nil)
  (pss_cons (ps_if (PW.pt (pw_or (pt_val (pe_callB (id := "isinstance") call_isi (by rfl) T.isinstance (by decide +kernel) (pa_cons (pv 1) (pa_cons (pe_bltn (v := .ty "bool") (by rfl) T.bool (by decide +kernel) rfl) pa_nil)))) (pw_or1 (pt_val (pe_callB (id := "isinstance") call_isi (by rfl) T.isinstance (by decide +kernel) (pa_cons (pv 0) (pa_cons (pe_bltn (v := .ty "bool") (by rfl) T.bool (by decide +kernel) rfl) pa_nil))))))) (pss_one (ps_ret (pe_and (pe_callB (id := "isinstance") call_isi (by rfl) T.isinstance (by decide +kernel) (pa_cons (pv 1) (pa_cons (pe_bltn (v := .ty "bool") (by rfl) T.bool (by decide +kernel) rfl) pa_nil))) (pe_and (pe_callB (id := "isinstance") call_isi (by rfl) T.isinstance (by decide +kernel) (pa_cons (pv 0) (pa_cons (pe_bltn (v := .ty "bool") (by rfl) T.bool (by decide +kernel) rfl) pa_nil))) (pe_one (pe_cmpR op_eq (pv 0) (pv 1) (nomark _))))))) pss_nil)
  (pss_cons (ps_if (pt_val (pe_callB (id := "isinstance") call_isi (by rfl) T.isinstance (by decide +kernel) (pa_cons (pv 1) (pa_cons (pe_bltn (v := .ty "int") (by rfl) T.int (by decide +kernel) rfl) pa_nil)))) (pss_one (ps_ret (pe_and (pe_callB (id := "isinstance") call_isi (by rfl) T.isinstance (by decide +kernel) (pa_cons (pv 0) (pa_cons (pe_bltn (v := .ty "int") (by rfl) T.int (by decide +kernel) rfl) pa_nil))) (pe_one (pe_cmpR op_eq (pv 0) (pv 1) (nomark _)))))) pss_nil)
  (pss_one (ps_ret (pe_and (pe_callB (id := "isinstance") call_isi (by rfl) T.isinstance (by decide +kernel) (pa_cons (pv 1) (pa_cons (pe_bltn (v := .ty "str") (by rfl) T.str (by decide +kernel) rfl) pa_nil))) (pe_and (pe_callB (id := "isinstance") call_isi (by rfl) T.isinstance (by decide +kernel) (pa_cons (pv 0) (pa_cons (pe_bltn (v := .ty "str") (by rfl) T.str (by decide +kernel) rfl) pa_nil))) (pe_one (pe_cmpR op_eq (pv 0) (pv 1) (nomark _))))))))))), ?_⟩
      cases hy with
      | non =>
        cases hx
        exact ⟨_, rfl, _, rfl, iteT ⟨_, rfl, kq⟩⟩
      | bl b =>
        cases hx
        refine ⟨_, rfl, _, rfl, iteF ⟨_, rfl, _, _, _, _, _, rfl, .ty "tuple", .base (.bl b), kit_ty (r := false) (by decide +kernel), _, rfl, iteF ?_⟩⟩
        refine ⟨_, rfl, _, _, _, _, _, rfl, .ty "bool", .base (.bl b), kit_ty (r := true) (by decide +kernel), _, rfl, iteT (iteT ?_)⟩
        refine ⟨_, rfl, _, _, _, _, _, rfl, .ty "bool", .base (.bl b), kit_ty (r := true) (by decide +kernel), _, rfl, iteT ?_⟩
        refine ⟨_, rfl, _, _, _, _, _, rfl, .ty "bool", .base (.bl b), kit_ty (r := true) (by decide +kernel), _, rfl, iteT ?_⟩
        refine ⟨_, rfl, _, rfl, rfl, ?_⟩
        rw [decide_eq_true rfl]; exact kq
      | int i =>
        cases hx
        refine ⟨_, rfl, _, rfl, iteF ⟨_, rfl, _, _, _, _, _, rfl, .ty "tuple", .base (.int i), kit_ty (r := false) (by decide +kernel), _, rfl, iteF ?_⟩⟩
        refine ⟨_, rfl, _, _, _, _, _, rfl, .ty "bool", .base (.int i), kit_ty (r := false) (by decide +kernel), _, rfl, iteF ?_⟩
        refine ⟨_, rfl, _, _, _, _, _, rfl, .ty "bool", .base (.int i), kit_ty (r := false) (by decide +kernel), _, rfl, iteF ?_⟩
        refine ⟨_, rfl, _, _, _, _, _, rfl, .ty "int", .base (.int i), kit_ty (r := true) (by decide +kernel), _, rfl, iteT ?_⟩
        refine ⟨_, rfl, _, _, _, _, _, rfl, .ty "int", .base (.int i), kit_ty (r := true) (by decide +kernel), _, rfl, iteT ?_⟩
        refine ⟨_, rfl, _, rfl, rfl, ?_⟩
        rw [decide_eq_true rfl]; exact kq
      | str z =>
        cases hx
        refine ⟨_, rfl, _, rfl, iteF ⟨_, rfl, _, _, _, _, _, rfl, .ty "tuple", .base (.str z), kit_ty (r := false) (by decide +kernel), _, rfl, iteF ?_⟩⟩
        refine ⟨_, rfl, _, _, _, _, _, rfl, .ty "bool", .base (.str z), kit_ty (r := false) (by decide +kernel), _, rfl, iteF ?_⟩
        refine ⟨_, rfl, _, _, _, _, _, rfl, .ty "bool", .base (.str z), kit_ty (r := false) (by decide +kernel), _, rfl, iteF ?_⟩
        refine ⟨_, rfl, _, _, _, _, _, rfl, .ty "int", .base (.str z), kit_ty (r := false) (by decide +kernel), _, rfl, iteF ?_⟩
        refine ⟨_, rfl, _, _, _, _, _, rfl, .ty "str", .base (.str z), kit_ty (r := true) (by decide +kernel), _, rfl, iteT ?_⟩
        refine ⟨_, rfl, _, _, _, _, _, rfl, .ty "str", .base (.str z), kit_ty (r := true) (by decide +kernel), _, rfl, iteT ?_⟩
        refine ⟨_, rfl, _, rfl, rfl, ?_⟩
        rw [decide_eq_true rfl]; exact kq
      | lst _ _ => cases td
      | @tup a ys ds hT hA =>
        cases hx with
        | @tup a' xs _ hT' hA' =>
          have el : xs.length = ys.length := (dpAll_len hA').trans (dpAll_len hA).symm
          cases td with
          | @tup m' _ hz htd =>
            refine ⟨_, rfl, _, rfl, iteF ⟨_, rfl, _, _, _, _, _, rfl, .ty "tuple", ty_tup hT, kit_ty (r := true) (by decide +kernel), _, rfl, iteT ?_⟩⟩
            refine ⟨_, rfl, _, _, _, _, _, rfl, .ty "tuple", ty_tup hT', kit_ty (r := true) (by decide +kernel), _, rfl, iteF ?_⟩
            refine ⟨_, rfl, a', xs, rfl, .inr hT', _, rfl, a, ys, rfl, .inr hT, rfl, _, rfl, ?_⟩
            rw [el, decide_eq_true rfl]
            refine iteF ⟨_, rfl, a, ys, rfl, .inr hT, _, rfl, by omega, ?_, for_range (lo := 0) (n := ys.length) (fun j σ H' => ∃ v : Option V, σ = [some (.ref a'), some (.ref a), v] ∧ H' = H) ⟨none, rfl, rfl⟩ ?_ ?_⟩
            · have := dpAll_len hA
              show (ys.length : Int) < 2 ^ 62
              have e62 : (2 : Int) ^ 62 = 4611686018427387904 := by decide
              omega
            · rintro j σ H1 hj ⟨v, rfl, rfl⟩
              have hjd : j < ds.length := by rw [← dpAll_len hA]; exact hj
              obtain ⟨v1, h1, p1⟩ := dpAll_get hA' (k := j) (d := ds[j]) (by simp [hjd])
              obtain ⟨v2, h2, p2⟩ := dpAll_get hA (k := j) (d := ds[j]) (by simp [hjd])
              refine ⟨_, rfl, _, rfl, a', xs, _, v1, rfl, rfl, hT', at_of (by omega) h1, _, rfl, _, rfl, a, ys, _, v2, rfl, rfl, hT, at_of (by omega) h2, v1, v2, ds[j], m', rfl, p1, p2, htd _ (List.getElem_mem hjd), by omega, _, rfl, iteF ?_⟩
              exact ⟨_, rfl, rfl⟩
            · rintro σ H1 ⟨v, rfl, rfl⟩
              exact kq
end
/-! ### what the law draws -/
abbrev S_law_loose : Stmt := topS 36
abbrev N_law_loose : List Str := ["value", "turn", "made", "one"]
abbrev P_law_loose : List Str := ["value", "turn"]
theorem sc_law_loose : FnScope N_law_loose P_law_loose (defScope S_law_loose) := ⟨rfl, rfl, rfl, by decide +kernel, rfl, by decide +kernel, by decide +kernel⟩
abbrev S_law_cond : Stmt := topS 37
abbrev N_law_cond : List Str := ["row", "spot", "facts", "made", "k", "style"]
abbrev P_law_cond : List Str := ["row", "spot", "facts"]
theorem sc_law_cond : FnScope N_law_cond P_law_cond (defScope S_law_cond) := ⟨rfl, rfl, rfl, by decide +kernel, rfl, by decide +kernel, by decide +kernel⟩
section
variable {P : Program} {w : World} {K : PySem.W.Frag} {mg : Str → Option Value} {base : Heap}
theorem cal_loose (T : Bi mg) (D : Def K mg "_law_loose" S_law_loose P_law_loose) : ∀ n : Nat, Cal P w K mg base CX0 "_law_loose" n P_law_loose (spLoose K n)
  | 0 => D.never fun vs H Q E h => by obtain ⟨_, _, m, _, _, _, _, hm, _⟩ := h; omega
  | n + 1 => by
    have C_law_loose := cal_loose T D n
    refine D.cal sc_law_loose (fun vs H Q E h => ?_) (fun f cdv A outer s H vs Q E hr h => ?_)
    · obtain ⟨x, d, m, t, rfl, _⟩ := h; rfl
    · obtain ⟨x, d, m, t, rfl, hd, td, hm, kq⟩ := h
      refine ⟨_, (pss_cons (ps_if (pt_val (pe_callB (id := "isinstance") call_isi (by rfl) T.isinstance (by decide +kernel) (pa_cons (pv 0) (pa_cons (pe_bltn (v := .ty "tuple") (by rfl) T.tuple (by decide +kernel) rfl) pa_nil)))) (pss_cons (ps_setLc (i := 2) (own := [("one", 3)]) (tt := tYes) rfl sc_law_loose.nd rfl rfl (sw_true rfl rfl rfl (by decide +kernel)) (pi_seq (pv 0)) (blkOk_by (N := N_law_loose) (sc := defScope S_law_loose) (by decide +kernel)) (fun _ _ _ _ _ => (pg_name (i := 3) sc_law_loose.nd rfl (Or.inl rfl))) (fun _ _ _ _ _ => pts_nil) (fun _ _ _ _ _ => (pe_fn C_law_loose hr (pa_cons (pv 3) (pa_cons (pe_op op_add (pv 1) pe_int) pa_nil)))))
  (pss_one (ps_ret (pe_ifExp (pt_cmpR op_eq (pe_op op_mod (pe_callTy (T := "int") call_int1 (by rfl) T.int (by decide +kernel) (pa_cons (pv 1) pa_nil)) pe_int) pe_int (nomark _)) (pv 2) (pe_callTy (T := "tuple") call_tuple_of (by rfl) T.tuple (by decide +kernel) (pa_cons (pv 2) pa_nil)))))) pss_nil)
  (pss_one (ps_ret (pv 0)))), ?_⟩
      refine ⟨_, rfl, _, _, _, _, _, rfl, .ty "tuple", dp_ty hd, kit_tuple hd, _, rfl, ?_⟩
      refine ite2 (fun c => ?_) (fun c => ?_)
      · cases td with
        | non => cases c
        | bl b => cases c
        | int i => cases c
        | str x => cases c
        | @tup m' ds hz htd =>
          cases hd with
          | @tup a xs _ hT hA =>
            refine tseq (tasg (lc_dpF (fun e => dLoose e (t + 1)) (fun R k => ⟨_, rfl, k⟩) (.inr hT) hA hz (fun x => rfl) (fun i y e H2 Qe he s2 hy k => ?_) (fun L acc H2 hL s2 hacc hda => ?_)))
            · exact ⟨_, rfl, _, rfl, _, _, rfl, rfl, y, e, m', t + 1, rfl, hy, htd e (List.mem_of_getElem? he), by omega, fun z H3 s3 hz3 => k z H3 s3 hz3⟩
            · have hsub : ∀ b o, del (noLst H H2) L b = some o → noLst H H2 b = some o := fun b o e => by
                have bL : b ≠ L := fun z => by rw [z, del_same] at e; cases e
                rw [del_ne bL] at e; exact e
              have nL : noLst H H2 L = some (.lst acc) := noLst_of hacc fun l q => by rw [hL] at q; cases q
              dsimp only
              refine ⟨_, rfl, .inl ⟨_, rfl, _, _, rfl, rfl, by show (0 : Int) < 2; decide, rfl, _, rfl, ?_⟩⟩
              have hl := loose_tup ds t
              refine ite2 (fun c2 => ?_) (fun c2 => ?_)
              · have ct : t % 2 = 0 := by have := of_decide_eq_true c2; injection this
                rw [if_pos ct] at hl
                refine ⟨_, rfl, kq _ _ s2 ?_⟩
                rw [hl]
                exact .lst (SqL.of nL) (dpAll_same hsub hda)
              · have ct : ¬ t % 2 = 0 := fun z => c2 (decide_eq_true (by show V.int (t % 2) = V.int 0; rw [z]))
                rw [if_neg ct] at hl
                refine ⟨_, rfl, L, acc, rfl, .inl ⟨SqL.of hacc, fun l hl2 => kq _ _ (s2.trans (Same.new hl2)) ?_⟩⟩
                rw [hl]
                have hn : H l = none := s2.free hl2
                refine .tup (SqT.of (noLst_of upd_same fun l' q => by rw [hn] at q; cases q)) (dpAll_same (fun b o e => ?_) hda)
                obtain ⟨e1, e2⟩ := noLst_some (hsub b o e)
                exact noLst_of (Same.new hl2 b o e1) e2
      · have e : dLoose d t = d := by cases d <;> first | rfl | exact absurd rfl c
        refine ⟨_, rfl, kq _ _ (Same.refl _) ?_⟩
        rw [e]
        exact td_fresh td (Same.refl _) hd
/-- a drawn condition for f facts -/
structure CondD (c : PyData) (f : Int) : Prop where
  td : Td 2 c
  ok : dCond c f = true
  tup : ∃ es, c = .tuple es
def spCond (K : PySem.W.Frag) : Sp := fun vs H Q _ => ∃ (r sp : Addr) (f : Int), vs = [.ref r, .ref sp, .int f] ∧ Rolls r sp H ∧ 0 ≤ f ∧ f ≤ 4 ∧ ∀ (c : PyData) (y : V) (H' : Hp), CondD c f → Grow sp H H' → Rolls r sp H' → Dp K H' y c → Q y H'
theorem ascI_snoc : ∀ (l : List Int) (k : Int), ascI l = true → (∀ x ∈ l, x < k) → ascI (l ++ [k]) = true
  | [], _, _, _ => rfl
  | [a], k, _, h => by show (decide (a < k) && true) = true; rw [decide_eq_true (h a List.mem_cons_self)]; rfl
  | a :: b :: r, k, h, hk => by
    obtain ⟨h1, h2⟩ := Bool.and_eq_true_iff.mp (show (decide (a < b) && ascI (b :: r)) = true from h)
    show (decide (a < b) && ascI (b :: r ++ [k])) = true
    rw [h1, ascI_snoc (b :: r) k h2 fun x hx => hk x (List.mem_cons_of_mem _ hx)]; rfl
/-- the pairs so far, the facts below j -/
structure Cond0 (es : List PyData) (f : Int) (j : Nat) : Prop where
  len : es.length ≤ j
  all : ∀ e ∈ es, ∃ (i : Int) (b : Bool), e = .tuple [.int i, .bool b] ∧ 0 ≤ i ∧ i < f ∧ i < (j : Int)
  asc : ascI (es.map fun e => dVal (dAt e 0)) = true
theorem Cond0.td {es : List PyData} {f : Int} {j : Nat} (h : Cond0 es f j) : ∀ d ∈ es, ∃ n, Td n d := fun d hd => by
  obtain ⟨i, b, rfl, _⟩ := h.all d hd
  exact ⟨1, .tup (n := 0) (by simp) fun x hx => by
    simp at hx
    rcases hx with rfl | rfl
    · exact .int _
    · exact .bl _⟩
theorem Cond0.next {es : List PyData} {f : Int} {j : Nat} (h : Cond0 es f j) : Cond0 es f (j + 1) := ⟨Nat.le_succ_of_le h.len, fun e he => by
  obtain ⟨i, b, q, i0, i1, i2⟩ := h.all e he
  exact ⟨i, b, q, i0, i1, by omega⟩, h.asc⟩
theorem Cond0.more {es : List PyData} {f : Int} {j : Nat} (h : Cond0 es f j) (hj : (j : Int) < f) (b : Bool) : Cond0 (es ++ [.tuple [.int (j : Int), .bool b]]) f (j + 1) := by
  refine ⟨by rw [List.length_append]; have := h.len; simp; omega, fun e he => ?_, ?_⟩
  · rcases List.mem_append.mp he with q | q
    · obtain ⟨i, b, q, i0, i1, i2⟩ := h.all e q
      exact ⟨i, b, q, i0, i1, by omega⟩
    · rw [List.mem_singleton.mp q]
      exact ⟨j, b, rfl, by omega, hj, by omega⟩
  · rw [List.map_append]
    refine ascI_snoc _ _ h.asc fun x hx => ?_
    obtain ⟨e, he, rfl⟩ := List.mem_map.mp hx
    obtain ⟨i, b, rfl, i0, i1, i2⟩ := h.all e he
    exact i2
theorem Cond0.ok {es : List PyData} {f : Int} {j : Nat} (h : Cond0 es f j) (hj : j ≤ 1000) : CondD (.tuple es) f := by
  refine ⟨.tup (by have := h.len; omega) fun d hd => ?_, ?_, es, rfl⟩
  · obtain ⟨i, b, rfl, _⟩ := h.all d hd
    exact .tup (n := 0) (by simp) fun x hx => by
      simp at hx
      rcases hx with rfl | rfl
      · exact .int _
      · exact .bl _
  · unfold dCond
    have e1 : dAll (fun e => dWanted e f) (.tuple es) = true := by
      show es.all (fun e => dWanted e f) = true
      refine List.all_eq_true.mpr fun e he => ?_
      obtain ⟨i, b, rfl, i0, i1, _⟩ := h.all e he
      show ((decide ((2 : Int) ≤ (([PyData.int i, PyData.bool b].length : Nat) : Int)) && decide ((([PyData.int i, PyData.bool b].length : Nat) : Int) ≤ 2)) && ((decide (0 ≤ i) && decide (i ≤ f - 1)) && true)) = true
      rw [decide_eq_true i0, decide_eq_true (by omega : i ≤ f - 1)]; rfl
    rw [e1]
    exact h.asc
theorem cal_cond (T : Bi mg) (C_law_take : Cal P w K mg base CX0 "_law_take" 2 P_law_take spTake) (D : Def K mg "_law_cond" S_law_cond P_law_cond) : Cal P w K mg base CX0 "_law_cond" 3 P_law_cond (spCond K) := by
  refine D.cal sc_law_cond (fun vs H Q E h => ?_) (fun fa cdv A outer s H vs Q E hr h => ?_)
  · obtain ⟨r, sp, f, rfl, _⟩ := h; rfl
  · obtain ⟨r, sp, f, rfl, R, f0, f4, kq⟩ := h
    obtain ⟨l, hl⟩ := R.lst
    refine ⟨_, (pss_cons (ps_set (i := 3) sc_law_cond.nd rfl (Or.inl rfl) (pe_lst pa_nil))
  (pss_cons (ps_for PassesOwn.never rfl (pi_range1 (by rfl) T.range (pa_cons (pv 2) pa_nil)) (pg_name (i := 4) sc_law_cond.nd rfl (Or.inl rfl)) (pss_cons (ps_set (i := 5) sc_law_cond.nd rfl (Or.inl rfl) (pe_fn C_law_take hr (pa_cons (pv 0) (pa_cons (pv 1) (pa_cons pe_int pa_nil)))))
  (pss_one (ps_if (pt_cmpR op_gt (pv 5) pe_int (nomark _)) (pss_one (ps_expr (pe_bm PySem.F.plainAttrs_list PySem.F.slot_list_append PySem.F.type_list_append mt_append (pv 3) (pa_cons (pe_tup (pa_cons (pv 4) (pa_cons (pe_cmpR op_eq (pv 5) pe_int (nomark _)) pa_nil))) pa_nil)))) pss_nil))))
  (pss_one (ps_ret (pe_callTy (T := "tuple") call_tuple_of (by rfl) T.tuple (by decide +kernel) (pa_cons (pv 3) pa_nil)))))), ?_⟩
    refine ⟨Nat.zero_le _, fun M hM => ?_⟩
    have e62 : (2 : Int) ^ 62 = 4611686018427387904 := by decide
    have nspM : sp ≠ M := ne_of_none hl hM
    refine ⟨_, rfl, f, rfl, by omega, by omega, ?_⟩
    refine for_range (lo := 0) (n := f.toNat) (fun j σ H' => (∃ v4 v5 : Option V, σ = [some (.ref r), some (.ref sp), some (.int f), some (.ref M), v4, v5]) ∧ Grow sp H H' ∧ Rolls r sp H' ∧ ∃ acc es, H' M = some (.lst acc) ∧ DpAll K H' acc es ∧ Cond0 es f j)
      ⟨⟨_, _, rfl⟩, Grow.new hM, R.new hM, [], [], upd_same, .nil, Nat.le_refl _, fun e he => (by cases he), rfl⟩ ?_ ?_
    · rintro j σ H1 hj ⟨⟨v4, v5, rfl⟩, g1, R1, acc, es, hacc, hda, c0⟩
      obtain ⟨l1, hl1⟩ := R1.lst
      refine ⟨_, rfl, _, rfl, r, sp, 5, rfl, R1, by decide, fun x H2 x0 x1 g2 R2 e2 => ?_⟩
      have acc2 : H2 M = some (.lst acc) := g2 _ _ nspM.symm hacc
      have hda2 := dpAll_grow hl1 g2 c0.td hda
      refine ⟨_, rfl, _, _, rfl, rfl, _, rfl, ?_⟩
      refine ite2 (fun c => ?_) (fun c => ?_)
      · refine ⟨_, rfl, .inl ⟨rfl, _, SqL.of acc2⟩, _, rfl, _, rfl, rfl, by show 2 ≤ sizeLine; decide, fun p hp => ?_⟩
        have pM : M ≠ p := ne_of_none acc2 hp
        refine ⟨M, acc, .ref p, rfl, rfl, by rw [upd_ne pM]; exact acc2, ?_, ?_⟩
        · have := dpAll_len hda2
          have := c0.len
          exact Nat.lt_of_le_of_lt (by omega : acc.length ≤ 1000) (by decide)
        · have sp2 : Same H2 (upd H2 p (.tup [.int (0 + (j : Int)), .bl (decide (V.int x = V.int 3))])) := Same.new hp
          have g3 : Grow sp H (upd H2 p (.tup [.int (0 + (j : Int)), .bl (decide (V.int x = V.int 3))])) := (g1.trans g2).trans (Grow.new hp)
          obtain ⟨lr, hlr⟩ := R.rowAt
          have hpair : Dp K (upd H2 p (.tup [.int (0 + (j : Int)), .bl (decide (V.int x = V.int 3))])) (.ref p) (.tuple [.int (j : Int), .bool (decide (V.int x = V.int 3))]) := by
            refine .tup (SqT.of upd_same) (.cons ?_ (.cons (.bl _) .nil))
            rw [Int.zero_add]; exact .int _
          have cm := c0.more (by omega : (j : Int) < f) (decide (V.int x = V.int 3))
          refine ⟨⟨_, _, rfl⟩, g3.put hM, (R2.new hp).put (ne_of_none hlr hM) nspM, acc ++ [.ref p], es ++ [.tuple [.int (j : Int), .bool (decide (V.int x = V.int 3))]], upd_same, ?_, cm⟩
          exact dpAll_put cm.td (by rw [upd_ne pM]; exact acc2) (dpAll_append (dpAll_same sp2 hda2) (dpAll_one hpair))
      · exact ⟨⟨_, _, rfl⟩, g1.trans g2, R2, acc, es, acc2, hda2, c0.next⟩
    · rintro σ H1 ⟨⟨v4, v5, rfl⟩, g1, R1, acc, es, hacc, hda, c0⟩
      refine ⟨_, rfl, M, acc, rfl, .inl ⟨SqL.of hacc, fun p hp => ?_⟩⟩
      exact kq (.tuple es) _ _ (c0.ok (by omega)) (g1.trans (Grow.new hp)) (R1.new hp) (.tup (SqT.of upd_same) (dpAll_same (Same.new hp) hda))
end
end Mw
set_option Elab.async false
set_option maxRecDepth 100000
set_option maxHeartbeats 1000000
namespace Mw
open PySem L2
abbrev S_law_true : Stmt := topS 38
abbrev N_law_true : List Str := ["cond", "facts", "pair"]
abbrev P_law_true : List Str := ["cond", "facts"]
theorem sc_law_true : FnScope N_law_true P_law_true (defScope S_law_true) := ⟨rfl, rfl, rfl, by decide +kernel, rfl, by decide +kernel, by decide +kernel⟩
abbrev S_law_facts : Stmt := topS 39
abbrev N_law_facts : List Str := ["count", "number", "made", "k"]
abbrev P_law_facts : List Str := ["count", "number"]
theorem sc_law_facts : FnScope N_law_facts P_law_facts (defScope S_law_facts) := ⟨rfl, rfl, rfl, by decide +kernel, rfl, by decide +kernel, by decide +kernel⟩
abbrev S_law_power : Stmt := topS 40
abbrev N_law_power : List Str := ["count", "made", "k"]
abbrev P_law_power : List Str := ["count"]
theorem sc_law_power : FnScope N_law_power P_law_power (defScope S_law_power) := ⟨rfl, rfl, rfl, by decide +kernel, rfl, by decide +kernel, by decide +kernel⟩
abbrev S_law_same_world : Stmt := topS 41
abbrev N_law_same_world : List Str := ["told", "world"]
abbrev P_law_same_world : List Str := ["told", "world"]
theorem sc_law_same_world : FnScope N_law_same_world P_law_same_world (defScope S_law_same_world) := ⟨rfl, rfl, rfl, by decide +kernel, rfl, by decide +kernel, by decide +kernel⟩
section
variable {P : Program} {w : World} {K : PySem.W.Frag} {mg : Str → Option Value} {base : Heap}
/-- _law_true(cond, facts): both tuples -/
def spTrue (K : PySem.W.Frag) : Sp := fun vs H Q _ => ∃ (x : V) (c : PyData) (n : Int) (a : Addr) (bs : List Bool), vs = [x, .ref a] ∧ Dp K H x c ∧ CondD c n ∧ SqT K H a (bs.map V.bl) ∧ (bs.length : Int) = n ∧ ∀ H', Same H H' → Q (.bl (dHolds c bs)) H'
theorem cal_true (T : Bi mg) (D : Def K mg "_law_true" S_law_true P_law_true) : Cal P w K mg base CX0 "_law_true" 1 P_law_true (spTrue K) := by
  refine D.cal sc_law_true (fun vs H Q E h => ?_) (fun fa cdv A outer s H vs Q E hr h => ?_)
  · obtain ⟨x, c, n, a, bs, rfl, _⟩ := h; rfl
  · obtain ⟨x, c, n, a, bs, rfl, hd, cd, hq, rfl, kq⟩ := h
    obtain ⟨es, rfl⟩ := cd.tup
    obtain ⟨es', e, hall⟩ := cond_items cd.ok
    obtain rfl := Option.some.inj e
    refine ⟨_, (pss_cons (ps_for PassesOwn.never rfl (pi_tup (pv 0)) (pg_name (i := 2) sc_law_true.nd rfl (Or.inl rfl)) (pss_one (ps_if (pt_cmpR op_ne (pe_ix ix_tup (pv 1) (pe_ix ix_tup (pv 2) pe_int (fun _ _ => rfl)) (fun _ _ => rfl)) (pe_ix ix_tup (pv 2) pe_int (fun _ _ => rfl)) (nomark _)) (pss_one (ps_ret pe_bl)) pss_nil)))
  (pss_one (ps_ret pe_bl))), ?_⟩
    cases hd with
    | @tup b xs _ hT hA =>
      have el := dpAll_len hA
      refine ⟨_, rfl, b, rfl, ⟨_, hT⟩, for_tup (K := K) (a := b) (xs := xs) (fun i σ H' => (∃ v2 : Option V, σ = [some (.ref b), some (.ref a), v2]) ∧ H' = H ∧ ∀ e ∈ es.take i, (bs.getD (dVal (dAt e 0)).toNat false == dB (dAt e 1)) = true) ⟨⟨_, rfl⟩, rfl, fun e he => by simp at he⟩ (fun i σ H' _ p => by rw [p.2.1]; exact hT) ?_ ?_⟩
      · rintro i y σ H1 hy ⟨⟨v2, rfl⟩, rfl, ht⟩
        have hi : i < es.length := by rw [← el]; exact (List.getElem?_eq_some_iff.mp hy).1
        have hid : es[i]? = some es[i] := by simp [hi]
        obtain ⟨v, hv, hvd⟩ := dpAll_get hA hid
        rw [hy] at hv
        obtain rfl := Option.some.inj hv
        obtain ⟨ys, i1, b1, ey, rfl, e0, e1, i0, il⟩ := wanted_items (hall es[i] (List.getElem_mem hi))
        have etup : es[i] = .tuple [.int i1, .bool b1] := by
          cases cd.td with
          | tup z h =>
            have := h es[i] (List.getElem_mem hi)
            cases q : es[i] <;> rw [q] at ey this <;> first | (cases ey; done) | skip
            · cases this
            · cases ey; rfl
        rw [etup] at hvd
        cases hvd with
        | @tup u zs _ hqu hau =>
          cases hau with
          | cons h1 h2 =>
            cases h2 with
            | cons h3 h4 =>
              cases h4
              cases h1
              cases h3
              refine ⟨_, rfl, _, rfl, u, _, _, _, rfl, rfl, hqu, at_of (j := 0) rfl rfl, a, _, _, _, rfl, rfl, hq, at_of (j := i1.toNat) (by omega) (getDb i0 il), _, rfl, u, _, _, _, rfl, rfl, hqu, at_of (j := 1) rfl rfl, rfl, _, rfl, ?_⟩
              have ee : decide (V.bl (bs.getD i1.toNat false) = V.bl b1) = (bs.getD (dVal (dAt es[i] 0)).toNat false == dB (dAt es[i] 1)) := by
                rw [e0, e1]
                show _ = (bs.getD i1.toNat false == b1)
                cases bs.getD i1.toNat false <;> cases b1 <;> rfl
              rw [ee]
              refine ite2 (fun c => ?_) (fun c => ?_)
              · have k := kq H1 (Same.refl _)
                have ef : dHolds (.tuple es) bs = false := by
                  unfold dHolds
                  exact all_false (List.getElem_mem hi) (not_false' c)
                rw [ef] at k; exact k
              · refine ⟨⟨_, rfl⟩, rfl, fun e' he' => ?_⟩
                rw [take_succ_of hid] at he'
                rcases List.mem_append.mp he' with q | q
                · exact ht e' q
                · rw [List.mem_singleton.mp q]; exact not_true c
      · rintro σ H1 ⟨⟨v2, rfl⟩, rfl, ht⟩
        rw [el, List.take_length] at ht
        have k := kq H1 (Same.refl _)
        have ef : dHolds (.tuple es) bs = true := by unfold dHolds; exact List.all_eq_true.mpr ht
        rw [ef] at k; exact k
/-- _law_facts(count, number): a new tuple of bits -/
def spFacts : Sp := fun vs H Q _ => ∃ (f k : Nat), vs = [.int f, .int k] ∧ f ≤ 4 ∧ ∀ H' p, Same H H' → H' p = some (.tup (((List.range f).map fun j => k.testBit j).map V.bl)) → Q (.ref p) H'
theorem cal_facts (T : Bi mg) (D : Def K mg "_law_facts" S_law_facts P_law_facts) : Cal P w K mg base CX0 "_law_facts" 1 P_law_facts spFacts := by
  refine D.cal sc_law_facts (fun vs H Q E h => ?_) (fun fa cdv A outer s H vs Q E hr h => ?_)
  · obtain ⟨f, k, rfl, _⟩ := h; rfl
  · obtain ⟨f, k, rfl, f4, kq⟩ := h
    refine ⟨_, (pss_cons (ps_set (i := 2) sc_law_facts.nd rfl (Or.inl rfl) (pe_lst pa_nil))
  (pss_cons (ps_for PassesOwn.never rfl (pi_range1 (by rfl) T.range (pa_cons (pv 0) pa_nil)) (pg_name (i := 3) sc_law_facts.nd rfl (Or.inl rfl)) (pss_cons (ps_expr (pe_bm PySem.F.plainAttrs_list PySem.F.slot_list_append PySem.F.type_list_append mt_append (pv 2) (pa_cons (pe_cmpR op_eq (pe_op op_mod (pe_callTy (T := "int") call_int1 (by rfl) T.int (by decide +kernel) (pa_cons (pv 1) pa_nil)) pe_int) pe_int (nomark _)) pa_nil)))
  (pss_one (ps_set (i := 1) sc_law_facts.nd rfl (Or.inl rfl) (pe_op op_fdiv (pv 1) pe_int)))))
  (pss_one (ps_ret (pe_callTy (T := "tuple") call_tuple_of (by rfl) T.tuple (by decide +kernel) (pa_cons (pv 2) pa_nil)))))), ?_⟩
    refine ⟨Nat.zero_le _, fun M hM => ?_⟩
    have e62 : (2 : Int) ^ 62 = 4611686018427387904 := by decide
    refine ⟨_, rfl, (f : Int), rfl, by omega, by omega, ?_⟩
    rw [Int.toNat_natCast]
    refine for_range (lo := 0) (n := f) (fun j σ H' => (∃ v3 : Option V, σ = [some (.int f), some (.int ((k / 2 ^ j : Nat) : Int)), some (.ref M), v3]) ∧ Same H H' ∧ H' M = some (.lst (((List.range j).map fun j => k.testBit j).map V.bl)))
      ⟨⟨_, by rw [Nat.pow_zero, Nat.div_one]; rfl⟩, Same.new hM, upd_same⟩ ?_ ?_
    · rintro j σ H1 hj ⟨⟨v3, rfl⟩, s1, h1⟩
      refine ⟨_, rfl, .inl ⟨rfl, _, SqL.of h1⟩, _, rfl, .inl ⟨_, rfl, _, _, rfl, rfl, by show (0 : Int) < 2; decide, rfl, M, _, _, rfl, rfl, h1, ?_, ?_⟩⟩
      · rw [List.length_map, List.length_map, List.length_range]; exact Nat.lt_of_le_of_lt (by omega : j ≤ 1000) (by decide)
      · refine ⟨_, rfl, _, _, rfl, rfl, ⟨by decide, by decide⟩, ?_⟩
        have eb : decide (V.int (((k / 2 ^ j : Nat) : Int) % 2) = V.int 1) = k.testBit j := by
          rw [Nat.testBit_eq_decide_div_mod_eq]
          have : (((k / 2 ^ j : Nat) : Int) % 2) = ((k / 2 ^ j % 2 : Nat) : Int) := by omega
          rw [this]
          by_cases q : k / 2 ^ j % 2 = 1
          · rw [q]; rfl
          · rw [decide_eq_false q]
            refine decide_eq_false fun z => q ?_
            injection z with z
            omega
        refine ⟨⟨some (V.int (0 + (j : Int))), ?_⟩, fun b o e => by rw [upd_ne (ne_of_none e hM)]; exact s1 b o e, ?_⟩
        · have : ((k / 2 ^ j : Nat) : Int) / 2 = ((k / 2 ^ (j + 1) : Nat) : Int) := by
            rw [Nat.pow_succ, ← Nat.div_div_eq_div_mul]; omega
          show [some (V.int f), some (V.int (((k / 2 ^ j : Nat) : Int) / 2)), some (V.ref M), _] = _
          rw [this]
        · rw [upd_same, List.range_succ, List.map_append, List.map_append]
          show some (HO.lst (_ ++ [V.bl (decide (V.int (((k / 2 ^ j : Nat) : Int) % 2) = V.int 1))])) = _
          rw [eb]; rfl
    · rintro σ H1 ⟨⟨v3, rfl⟩, s1, h1⟩
      exact ⟨_, rfl, M, _, rfl, .inl ⟨SqL.of h1, fun p hp => kq _ p (s1.trans (Same.new hp)) upd_same⟩⟩
/-- _law_power(count) -/
def spPower : Sp := fun vs H Q _ => ∃ f : Nat, vs = [.int f] ∧ f ≤ 4 ∧ Q (.int ((2 ^ f : Nat) : Int)) H
theorem cal_power (T : Bi mg) (D : Def K mg "_law_power" S_law_power P_law_power) : Cal P w K mg base CX0 "_law_power" 1 P_law_power spPower := by
  refine D.cal sc_law_power (fun vs H Q E h => ?_) (fun fa cdv A outer s H vs Q E hr h => ?_)
  · obtain ⟨f, rfl, _⟩ := h; rfl
  · obtain ⟨f, rfl, f4, kq⟩ := h
    refine ⟨_, (pss_cons (ps_set (i := 1) sc_law_power.nd rfl (Or.inl rfl) pe_int)
  (pss_cons (ps_for PassesOwn.never rfl (pi_range1 (by rfl) T.range (pa_cons (pv 0) pa_nil)) (pg_name (i := 2) sc_law_power.nd rfl (Or.inl rfl)) (pss_one (ps_set (i := 1) sc_law_power.nd rfl (Or.inl rfl) (pe_op op_mul (pv 1) pe_int))))
  (pss_one (ps_ret (pv 1))))), ?_⟩
    have e62 : (2 : Int) ^ 62 = 4611686018427387904 := by decide
    refine ⟨_, rfl, (f : Int), rfl, by omega, by omega, ?_⟩
    rw [Int.toNat_natCast]
    refine for_range (lo := 0) (n := f) (fun j σ H' => (∃ v2 : Option V, σ = [some (.int f), some (.int ((2 ^ j : Nat) : Int)), v2]) ∧ H' = H) ⟨⟨_, rfl⟩, rfl⟩ ?_ ?_
    · rintro j σ H1 hj ⟨⟨v2, rfl⟩, rfl⟩
      refine ⟨_, rfl, _, _, rfl, rfl, .inr ⟨by decide, by decide⟩, ⟨some (V.int (0 + (j : Int))), ?_⟩, rfl⟩
      have : ((2 ^ j : Nat) : Int) * 2 = ((2 ^ (j + 1) : Nat) : Int) := by rw [Nat.pow_succ]; omega
      show [some (V.int f), some (V.int (((2 ^ j : Nat) : Int) * 2)), _] = _
      rw [this]
    · rintro σ H1 ⟨⟨v2, rfl⟩, rfl⟩
      exact ⟨_, rfl, kq⟩
end
end Mw
set_option Elab.async false
set_option maxRecDepth 100000
set_option maxHeartbeats 1000000
namespace Mw
open PySem L2
abbrev S_World_facts : Stmt := inClass (topS 27) 1
abbrev N_World_facts : List Str := ["self"]
abbrev P_World_facts : List Str := ["self"]
theorem sc_World_facts : FnScope N_World_facts P_World_facts (defScope S_World_facts) := ⟨rfl, rfl, rfl, by decide +kernel, rfl, by decide +kernel, by decide +kernel⟩
abbrev S_World_states : Stmt := inClass (topS 27) 2
abbrev N_World_states : List Str := ["self"]
abbrev P_World_states : List Str := ["self"]
theorem sc_World_states : FnScope N_World_states P_World_states (defScope S_World_states) := ⟨rfl, rfl, rfl, by decide +kernel, rfl, by decide +kernel, by decide +kernel⟩
abbrev S_World_moves : Stmt := inClass (topS 27) 3
abbrev N_World_moves : List Str := ["self"]
abbrev P_World_moves : List Str := ["self"]
theorem sc_World_moves : FnScope N_World_moves P_World_moves (defScope S_World_moves) := ⟨rfl, rfl, rfl, by decide +kernel, rfl, by decide +kernel, by decide +kernel⟩
abbrev S_law : Stmt := topS 42
abbrev N_law : List Str := ["script", "row", "spot", "facts", "deeds", "k", "sets", "clears", "j", "style", "states", "moves", "one", "mine", "deed", "aim", "after"]
abbrev P_law : List Str := ["script"]
theorem sc_law : FnScope N_law P_law (defScope S_law) := ⟨rfl, rfl, rfl, by decide +kernel, rfl, by decide +kernel, by decide +kernel⟩
section
variable {P : Program} {w : World} {K : PySem.W.Frag} {mg : Str → Option Value} {base : Heap}
theorem get_facts {C : Addr} (D : PDef K C "facts" "World.facts" S_World_facts) (wa : WAttr K C) : PCal P w K mg base C "facts" (getSp C "_facts") := by
  have cl := D.1
  refine D.ok (N := N_World_facts) sc_World_facts (fun vs H Q E h => ?_) (fun f cdv A outer s H vs Q E hr h => ?_)
  · obtain ⟨a, dx, fs, v, rfl, _⟩ := h; rfl
  · obtain ⟨a, dx, fs, v, rfl, ea, l, q⟩ := h
    exact ⟨_, (pss_one (ps_ret (pe_fld (pv 0) rfl))), _, rfl, a, C, dx, fs, v, rfl, ea, cl, wa.f, l, q⟩
theorem get_states {C : Addr} (D : PDef K C "states" "World.states" S_World_states) (wa : WAttr K C) : PCal P w K mg base C "states" (getSp C "_states") := by
  have cl := D.1
  refine D.ok (N := N_World_states) sc_World_states (fun vs H Q E h => ?_) (fun f cdv A outer s H vs Q E hr h => ?_)
  · obtain ⟨a, dx, fs, v, rfl, _⟩ := h; rfl
  · obtain ⟨a, dx, fs, v, rfl, ea, l, q⟩ := h
    exact ⟨_, (pss_one (ps_ret (pe_fld (pv 0) rfl))), _, rfl, a, C, dx, fs, v, rfl, ea, cl, wa.s, l, q⟩
theorem get_moves {C : Addr} (D : PDef K C "moves" "World.moves" S_World_moves) (wa : WAttr K C) : PCal P w K mg base C "moves" (getSp C "_moves") := by
  have cl := D.1
  refine D.ok (N := N_World_moves) sc_World_moves (fun vs H Q E h => ?_) (fun f cdv A outer s H vs Q E hr h => ?_)
  · obtain ⟨a, dx, fs, v, rfl, _⟩ := h; rfl
  · obtain ⟨a, dx, fs, v, rfl, ea, l, q⟩ := h
    exact ⟨_, (pss_one (ps_ret (pe_fld (pv 0) rfl))), _, rfl, a, C, dx, fs, v, rfl, ea, cl, wa.m, l, q⟩
theorem look_f {f s m : V} : ([(("_facts" : Str), f), (("_states" : Str), s), (("_moves" : Str), m)] : List (Str × V)).lookup ("_facts" : Str) = some f := rfl
theorem look_s {f s m : V} : ([(("_facts" : Str), f), (("_states" : Str), s), (("_moves" : Str), m)] : List (Str × V)).lookup ("_states" : Str) = some s := by
  rw [lookup_put, if_neg (by decide +kernel), lookup_put, if_pos rfl]
theorem look_m {f s m : V} : ([(("_facts" : Str), f), (("_states" : Str), s), (("_moves" : Str), m)] : List (Str × V)).lookup ("_moves" : Str) = some m := by
  rw [lookup_put, if_neg (by decide +kernel), lookup_put, if_neg (by decide +kernel), lookup_put, if_pos rfl]
/-- _law_same_world(told, world): the same: True -/
def spSameWorld (K : PySem.W.Frag) (C : Addr) (n : Nat) : Sp := fun vs H Q _ => ∃ (a t : Addr) (f : Int) (ds dm : PyData) (ys ym : V), vs = [.ref a, .ref t] ∧ WorldAt K C a f ds dm H ∧ SqT K H t [.int f, ys, ym] ∧ Dp K H ys ds ∧ Dp K H ym dm ∧ Td n ds ∧ Td n dm ∧ Q (.bl true) H
theorem cal_same_world {C : Addr} {n : Nat} (T : Bi mg) (C_law_so : Cal P w K mg base CX0 "_law_so" (n + 2) P_law_so (spSo K (n + 1))) (G_facts : PCal P w K mg base C "facts" (getSp C "_facts")) (G_states : PCal P w K mg base C "states" (getSp C "_states")) (G_moves : PCal P w K mg base C "moves" (getSp C "_moves"))
    (D : Def K mg "_law_same_world" S_law_same_world P_law_same_world) : Cal P w K mg base CX0 "_law_same_world" (n + 3) P_law_same_world (spSameWorld K C n) := by
  refine D.cal sc_law_same_world (fun vs H Q E h => ?_) (fun fa cdv A outer s H vs Q E hr h => ?_)
  · obtain ⟨a, t, f, ds, dm, ys, ym, rfl, _⟩ := h; rfl
  · obtain ⟨a, t, f, ds, dm, ys, ym, rfl, ⟨dx, zs, zm, ea, hs, hm⟩, ht, hys, hym, ts, tm, kq⟩ := h
    refine ⟨_, (pss_one (ps_ret (pe_and (pe_fn C_law_so hr (pa_cons (pe_get G_facts hr (pv 0)) (pa_cons (pe_ix ix_tup (pv 1) pe_int (fun _ _ => rfl)) pa_nil))) (pe_and (pe_fn C_law_so hr (pa_cons (pe_get G_states hr (pv 0)) (pa_cons (pe_ix ix_tup (pv 1) pe_int (fun _ _ => rfl)) pa_nil))) (pe_one (pe_fn C_law_so hr (pa_cons (pe_get G_moves hr (pv 0)) (pa_cons (pe_ix ix_tup (pv 1) pe_int (fun _ _ => rfl)) pa_nil)))))))), ?_⟩
    refine ⟨_, rfl, a, dx, _, rfl, ea, a, dx, _, _, rfl, ea, look_f, _, rfl, t, _, _, _, rfl, rfl, ht, at_of (j := 0) rfl rfl, _, _, .int f, 0, rfl, .int f, .int f, .int f, by omega, _, rfl, iteT ?_⟩
    refine ⟨_, rfl, a, dx, _, rfl, ea, a, dx, _, _, rfl, ea, look_s, _, rfl, t, _, _, _, rfl, rfl, ht, at_of (j := 1) rfl rfl, _, _, ds, n, rfl, hs, hys, ts, by omega, _, rfl, iteT ?_⟩
    exact ⟨_, rfl, a, dx, _, rfl, ea, a, dx, _, _, rfl, ea, look_m, _, rfl, t, _, _, _, rfl, rfl, ht, at_of (j := 2) rfl rfl, _, _, dm, n, rfl, hm, hym, tm, by omega, kq⟩
/-- numbers chosen: ascending, below j -/
structure Nums0 (ss : List Int) (j : Nat) : Prop where
  len : ss.length ≤ j
  all : ∀ x ∈ ss, 0 ≤ x ∧ x < (j : Int)
  asc : ascI ss = true
theorem Nums0.next {ss : List Int} {j : Nat} (h : Nums0 ss j) : Nums0 ss (j + 1) := ⟨by have := h.len; omega, fun x hx => by have := h.all x hx; omega, h.asc⟩
theorem Nums0.more {ss : List Int} {j : Nat} (h : Nums0 ss j) : Nums0 (ss ++ [(j : Int)]) (j + 1) := by
  refine ⟨by rw [List.length_append]; have := h.len; simp; omega, fun x hx => ?_, ascI_snoc _ _ h.asc fun x hx => (h.all x hx).2⟩
  rcases List.mem_append.mp hx with q | q
  · have := h.all x q; omega
  · rw [List.mem_singleton.mp q]; omega
theorem Nums0.dasc {ss : List Int} {j : Nat} (h : Nums0 ss j) : dAscNums (.tuple (ss.map PyData.int)) (j : Int) = true := by
  unfold dAscNums
  have e1 : dNums (.tuple (ss.map PyData.int)) (j : Int) = true := by
    show (ss.map PyData.int).all (fun e => dNum e (j : Int)) = true
    rw [List.all_map]
    refine List.all_eq_true.mpr fun x hx => ?_
    have := h.all x hx
    show (decide (0 ≤ x) && decide (x ≤ (j : Int) - 1)) = true
    rw [decide_eq_true this.1, decide_eq_true (by omega)]; rfl
  rw [e1]
  show ascI ((ss.map PyData.int).map dVal) = true
  rw [List.map_map, show (dVal ∘ PyData.int) = id from rfl, List.map_id]
  exact h.asc
theorem has_ints (ss : List Int) (j : Int) : dHas (.tuple (ss.map PyData.int)) j = ss.any (· == j) := by
  show (ss.map PyData.int).any (fun e => dVal e == j) = _
  rw [List.any_map]; rfl
/-- a drawn deed -/
structure DeedD (d : PyData) (f : Nat) : Prop where
  ex : ∃ (c : PyData) (ss cc : List Int), d = .tuple [c, .tuple (ss.map PyData.int), .tuple (cc.map PyData.int)] ∧ CondD c (f : Int) ∧ Nums0 ss f ∧ Nums0 cc f ∧ ∀ x ∈ ss, ¬ x ∈ cc
theorem td_ints (ss : List Int) (h : ss.length ≤ 1000) : Td 1 (.tuple (ss.map PyData.int)) := .tup (n := 0) (by rw [List.length_map]; exact h) fun d hd => by obtain ⟨i, _, rfl⟩ := List.mem_map.mp hd; exact .int i
theorem DeedD.td {d : PyData} {f : Nat} (h : DeedD d f) (hf : f ≤ 1000) : Td 3 d := by
  obtain ⟨c, ss, cc, rfl, hc, hs, hcc, _⟩ := h.ex
  refine .tup (by simp) fun x hx => ?_
  simp at hx
  rcases hx with rfl | rfl | rfl
  · exact hc.td
  · exact (td_ints ss (by have := hs.len; omega)).mono (by omega)
  · exact (td_ints cc (by have := hcc.len; omega)).mono (by omega)
theorem DeedD.rule {d : PyData} {f : Nat} (h : DeedD d f) : dRule d (f : Int) = true := by
  obtain ⟨c, ss, cc, rfl, hc, hs, hcc, hd⟩ := h.ex
  unfold dRule
  have e0 : dAt (.tuple [c, .tuple (ss.map PyData.int), .tuple (cc.map PyData.int)]) 0 = c := rfl
  have e1 : dAt (.tuple [c, .tuple (ss.map PyData.int), .tuple (cc.map PyData.int)]) 1 = .tuple (ss.map PyData.int) := rfl
  have e2 : dAt (.tuple [c, .tuple (ss.map PyData.int), .tuple (cc.map PyData.int)]) 2 = .tuple (cc.map PyData.int) := rfl
  rw [e0, e1, e2, hc.ok, hs.dasc, hcc.dasc]
  have e3 : (((dItems (.tuple (ss.map PyData.int))).getD []).any fun e => dHas (.tuple (cc.map PyData.int)) (dVal e)) = false := by
    show (ss.map PyData.int).any _ = false
    rw [List.any_map]
    refine List.any_eq_false.mpr fun x hx => ?_
    show ¬ dHas (.tuple (cc.map PyData.int)) x = true
    rw [has_ints]
    intro z
    obtain ⟨y, hy, e⟩ := List.any_eq_true.mp z
    have : y = x := by simpa using e
    exact hd x hx (this ▸ hy)
  rw [e3]; rfl
theorem eqv_bitsT (a b : List Bool) : PyData.eqv (.tuple (bitsD a)) (.tuple (bitsD b)) = decide (a = b) := by
  have h : PyData.eqv (.tuple (bitsD a)) (.tuple (bitsD b)) = PyData.eqvAll (bitsD a) (bitsD b) := by first | rfl | simp [PyData.eqv]
  rw [h, eqvAll_bits]
theorem shaped_statesT : ∀ f : Nat, f ≤ 4 → SeqAt.shaped (.list ((statesL f).map fun bs => PyData.tuple (bitsD bs))) = true := by
  intro f h
  have : f = 0 ∨ f = 1 ∨ f = 2 ∨ f = 3 ∨ f = 4 := by omega
  rcases this with rfl | rfl | rfl | rfl | rfl <;> decide +kernel
theorem shaped_bitsT (bs : List Bool) : SeqAt.shaped (.tuple (bitsD bs)) = true := by
  unfold SeqAt.shaped
  have h1 : PyData.canLay0 (.tuple (bitsD bs)) = PyData.canLayAll0 (bitsD bs) := by first | rfl | simp [PyData.canLay0]
  have h2 : PyData.depth (.tuple (bitsD bs)) = PyData.depthAll (bitsD bs) + 1 := by first | rfl | simp [PyData.depth]
  have h3 := depth_bits bs
  rw [h1, canLay_bits, h2, Bool.true_and]
  exact decide_eq_true (by omega)
theorem td_bits (bs : List Bool) (h : bs.length ≤ 1000) : Td 1 (.tuple (bitsD bs)) := .tup (n := 0) (by unfold bitsD; rw [List.length_map]; exact h) fun d hd => by obtain ⟨i, _, rfl⟩ := List.mem_map.mp hd; exact .bl i
theorem td_fwS {f : Nat} (h : f ≤ 4) : Td 2 (fwS f) := by
  obtain ⟨p1, p2⟩ := pow16 h
  refine .tup (by rw [List.length_map, statesL_len]; omega) fun d hd => ?_
  obtain ⟨bs, hb, rfl⟩ := List.mem_map.mp hd
  exact td_bits bs (by rw [statesL_mem hb]; omega)
theorem td_move (f : Nat) (r : PyData) (bs : List Bool) : Td 0 (fwMove f r bs) := by unfold fwMove; split; exact .int _; exact .non
theorem td_fwM {f : Nat} {ds : List PyData} (h : f ≤ 4) (hl : ds.length ≤ 1000) : Td 2 (fwM f (.tuple ds)) := by
  obtain ⟨p1, p2⟩ := pow16 h
  refine .tup (by rw [List.length_map, statesL_len]; omega) fun d hd => ?_
  obtain ⟨bs, hb, rfl⟩ := List.mem_map.mp hd
  refine .tup (n := 0) (by show (ds.map _).length ≤ 1000; rw [List.length_map]; exact hl) fun e he => ?_
  obtain ⟨r, _, rfl⟩ := List.mem_map.mp (show e ∈ ds.map _ from he)
  exact td_move ..
/-- the law's own bits behind a deed -/
theorem after_bits {d : PyData} {f : Nat} (h : DeedD d f) {bs : List Bool} (hb : bs.length = f) : ((List.range f).map fun j => (bs.getD j false || dHas (dAt d 1) j) && !dHas (dAt d 2) j) = chg d bs := by
  obtain ⟨c, ss, cc, rfl, hc, hs, hcc, hd⟩ := h.ex
  have e1 : dAt (.tuple [c, .tuple (ss.map PyData.int), .tuple (cc.map PyData.int)]) 1 = .tuple (ss.map PyData.int) := rfl
  have e2 : dAt (.tuple [c, .tuple (ss.map PyData.int), .tuple (cc.map PyData.int)]) 2 = .tuple (cc.map PyData.int) := rfl
  unfold chg
  rw [e1, e2]
  apply List.ext_getElem?
  intro j
  by_cases hj : j < f
  · rw [List.getElem?_map, List.getElem?_range hj, List.getElem?_mapIdx]
    have hbj : bs[j]? = some (bs.getD j false) := by
      have : j < bs.length := by omega
      simp [this]
    rw [hbj]
    show some ((bs.getD j false || _) && _) = some (_ || (bs.getD j false && _))
    rw [has_ints, has_ints]
    congr 1
    cases q1 : ss.any (· == (j : Int)) with
    | false => simp
    | true =>
      obtain ⟨y, hy, e⟩ := List.any_eq_true.mp q1
      have ey : y = (j : Int) := by simpa using e
      have q2 : cc.any (· == (j : Int)) = false := by
        refine List.any_eq_false.mpr fun x hx z => ?_
        have ex : x = (j : Int) := by simpa using z
        exact hd y hy (by rw [ey, ← ex]; exact hx)
      rw [q2]; simp
  · rw [List.getElem?_eq_none (by rw [List.length_map, List.length_range]; omega), List.getElem?_eq_none (by rw [List.length_mapIdx]; omega)]
end
end Mw
set_option Elab.async false
set_option maxRecDepth 100000
set_option maxHeartbeats 1000000
namespace Mw
open PySem L2
section
variable {P : Program} {w : World} {K : PySem.W.Frag} {mg : Str → Option Value} {base : Heap}
theorem getDn {bs : List Bool} {j : Nat} (h : j < bs.length) : (bs.map V.bl)[j]? = some (.bl (bs.getD j false)) := by
  rw [List.getElem?_map]; simp [h]
theorem Rolls.same {r sp : Addr} {H H' : Hp} (R : Rolls r sp H) (s : Same H H') : Rolls r sp H' := by
  obtain ⟨ne, ⟨ns, ok, e⟩, n, en⟩ := R
  exact ⟨ne, ⟨ns, ok, s _ _ e⟩, n, s _ _ en⟩
theorem errFw_law {f : Nat} {es : List PyData} (f4 : f ≤ 4) (h1 : 1 ≤ es.length) (h5 : es.length ≤ 5) (hall : ∀ e ∈ es, DeedD e f) : errFw (.int (f : Int)) (.tuple es) = none := by
  have e1 : dBtw (.int (f : Int)) 0 4 = true := by
    show (decide ((0 : Int) ≤ f) && decide ((f : Int) ≤ 4)) = true
    rw [decide_eq_true (by omega), decide_eq_true (by omega)]; rfl
  have e2 : dRow (.tuple es) 1 5 = true := by
    show (decide ((1 : Int) ≤ (es.length : Int)) && decide ((es.length : Int) ≤ 5)) = true
    rw [decide_eq_true (by omega), decide_eq_true (by omega)]; rfl
  have e3 : dAll (fun r => dRule r (dVal (.int (f : Int)))) (.tuple es) = true := by
    show es.all (fun r => dRule r (f : Int)) = true
    exact List.all_eq_true.mpr fun e he => (hall e he).rule
  unfold errFw
  rw [if_pos e1, e2, e3]; rfl
theorem fn_law {C : Addr} {cs : Nat → Addr} {n m k : Nat} (T : Bi mg) (C_law_numbers : Cal P w K mg base CX0 "_law_numbers" k P_law_numbers (spNumbers K)) (C_law_take : Cal P w K mg base CX0 "_law_take" k P_law_take spTake) (C_law_cond : Cal P w K mg base CX0 "_law_cond" k P_law_cond (spCond K))
    (C_law_facts : Cal P w K mg base CX0 "_law_facts" k P_law_facts spFacts) (C_law_power : Cal P w K mg base CX0 "_law_power" k P_law_power spPower) (C_law_true : Cal P w K mg base CX0 "_law_true" k P_law_true (spTrue K)) (C_law_loose : Cal P w K mg base CX0 "_law_loose" k P_law_loose (spLoose K (n + 5)))
    (C_facts_world : Cal P w K mg base (L2.CX P w) "facts_world" k P_facts_world (spFactsWorld K C cs (n + 4))) (C_law_same_world : Cal P w K mg base CX0 "_law_same_world" k P_law_same_world (spSameWorld K C (m + 2)))
    {fa : Addr} {fd : FuncData} (F : Fun K "law" "law" S_law fa fd) : FnOk P w K mg base CX0 (k + 1) fa fd P_law (spLaw K) := by
  refine F.ok sc_law (fun vs H Q E h => ?_) (fun cdv A outer s H vs Q E hr h => ?_)
  · obtain ⟨a, ns, rfl, _⟩ := h; rfl
  · obtain ⟨a, ns, rfl, hs, hl, hb, kq⟩ := h
    refine ⟨_, (pss_cons (ps_set (i := 1) sc_law.nd rfl (Or.inl rfl) (pe_fn C_law_numbers hr (pa_cons (pv 0) pa_nil)))
  (pss_cons (ps_set (i := 2) sc_law.nd rfl (Or.inl rfl) (pe_lst (pa_cons pe_int pa_nil)))
  (pss_cons (ps_set (i := 3) sc_law.nd rfl (Or.inr rfl) (pe_fn C_law_take hr (pa_cons (pv 1) (pa_cons (pv 2) (pa_cons pe_int pa_nil)))))
  (pss_cons (ps_set (i := 4) sc_law.nd rfl (Or.inl rfl) (pe_lst pa_nil))
  (pss_cons (ps_for PassesOwn.never rfl (pi_range1 (by rfl) T.range (pa_cons (pe_op op_add pe_int (pe_fn C_law_take hr (pa_cons (pv 1) (pa_cons (pv 2) (pa_cons pe_int pa_nil))))) pa_nil)) (pg_name (i := 5) sc_law.nd rfl (Or.inl rfl)) (pss_cons (ps_set (i := 6) sc_law.nd rfl (Or.inl rfl) (pe_lst pa_nil))
  (pss_cons (ps_set (i := 7) sc_law.nd rfl (Or.inl rfl) (pe_lst pa_nil))
  (pss_cons (ps_for PassesOwn.never rfl (pi_range1 (by rfl) T.range (pa_cons (pv 3) pa_nil)) (pg_name (i := 8) sc_law.nd rfl (Or.inl rfl)) (pss_cons (ps_set (i := 9) sc_law.nd rfl (Or.inl rfl) (pe_fn C_law_take hr (pa_cons (pv 1) (pa_cons (pv 2) (pa_cons pe_int pa_nil)))))
  (pss_cons (ps_if (pt_cmpR op_eq (pv 9) pe_int (nomark _)) (pss_one (ps_expr (pe_bm PySem.F.plainAttrs_list PySem.F.slot_list_append PySem.F.type_list_append mt_append (pv 6) (pa_cons (pv 8) pa_nil)))) pss_nil)
  (pss_one (ps_if (pt_cmpR op_eq (pv 9) pe_int (nomark _)) (pss_one (ps_expr (pe_bm PySem.F.plainAttrs_list PySem.F.slot_list_append PySem.F.type_list_append mt_append (pv 7) (pa_cons (pv 8) pa_nil)))) pss_nil)))))
  (pss_one (ps_expr (pe_bm PySem.F.plainAttrs_list PySem.F.slot_list_append PySem.F.type_list_append mt_append (pv 4) (pa_cons (pe_tup (pa_cons (pe_fn C_law_cond hr (pa_cons (pv 1) (pa_cons (pv 2) (pa_cons (pv 3) pa_nil)))) (pa_cons (pe_callTy (T := "tuple") call_tuple_of (by rfl) T.tuple (by decide +kernel) (pa_cons (pv 6) pa_nil)) (pa_cons (pe_callTy (T := "tuple") call_tuple_of (by rfl) T.tuple (by decide +kernel) (pa_cons (pv 7) pa_nil)) pa_nil)))) pa_nil))))))))
  (pss_cons (ps_setLc (i := 10) (own := [("k", 5)]) (tt := tYes) rfl sc_law.nd rfl rfl (sw_true rfl rfl rfl (by decide +kernel)) (pi_range1 (by rfl) T.range (pa_cons (pe_fn C_law_power hr (pa_cons (pv 3) pa_nil)) pa_nil)) (blkOk_by (N := N_law) (sc := defScope S_law) (by decide +kernel)) (fun _ _ _ _ _ => (pg_name (i := 5) sc_law.nd rfl (Or.inl rfl))) (fun _ _ _ _ _ => pts_nil) (fun _ _ _ _ _ => (pe_fn C_law_facts hr (pa_cons (pv 3) (pa_cons (pv 5) pa_nil)))))
  (pss_cons (ps_set (i := 11) sc_law.nd rfl (Or.inl rfl) (pe_lst pa_nil))
  (pss_cons (ps_for PassesOwn.never rfl (pi_list (pv 10)) (pg_name (i := 12) sc_law.nd rfl (Or.inr rfl)) (pss_cons (ps_set (i := 13) sc_law.nd rfl (Or.inl rfl) (pe_lst pa_nil))
  (pss_cons (ps_for PassesOwn.never rfl (pi_list (pv 4)) (pg_name (i := 14) sc_law.nd rfl (Or.inr rfl)) (pss_cons (ps_set (i := 15) sc_law.nd rfl (Or.inl rfl) pe_non)
  (pss_cons (ps_if (pt_val (pe_fn C_law_true hr (pa_cons (pe_ix ix_tup (pv 14) pe_int (fun _ _ => rfl)) (pa_cons (pv 12) pa_nil)))) (pss_cons (ps_set (i := 16) sc_law.nd rfl (Or.inl rfl) (pe_callTy (T := "tuple") call_tuple_of (by rfl) T.tuple (by decide +kernel) (pa_cons (pe_lc (own := [("j", 8)]) (tt := tYes) rfl sc_law.nd (pi_range1 (by rfl) T.range (pa_cons (pv 3) pa_nil)) (blkOk_by (N := N_law) (sc := defScope S_law) (by decide +kernel)) (fun _ _ _ _ _ => (pg_name (i := 8) sc_law.nd rfl (Or.inl rfl))) (fun _ _ _ _ _ => pts_nil) (fun _ _ _ _ _ => (pe_and (pe_or (pe_ix (r := rIxT K) ix_tup (pv 12) (pv 8) (fun _ _ => rfl)) (pe_one (pe_cmpR (r := rIn K false) op_in_seq (pv 8) (pe_ix (r := rIxT K) ix_tup (pv 14) pe_int (fun _ _ => rfl)) (by with_unfolding_all rfl)))) (pe_one (pe_cmpR (r := rIn K true) op_notIn_seq (pv 8) (pe_ix (r := rIxT K) ix_tup (pv 14) pe_int (fun _ _ => rfl)) (by with_unfolding_all rfl)))))) pa_nil)))
  (pss_one (ps_set (i := 15) sc_law.nd rfl (Or.inl rfl) (pe_bm PySem.F.plainAttrs_list PySem.F.slot_list_index PySem.F.type_list_index (mt_indexD (hu_in hr)) (pv 10) (pa_cons (pv 16) pa_nil))))) pss_nil)
  (pss_one (ps_expr (pe_bm PySem.F.plainAttrs_list PySem.F.slot_list_append PySem.F.type_list_append mt_append (pv 13) (pa_cons (pv 15) pa_nil)))))))
  (pss_one (ps_expr (pe_bm PySem.F.plainAttrs_list PySem.F.slot_list_append PySem.F.type_list_append mt_append (pv 11) (pa_cons (pe_callTy (T := "tuple") call_tuple_of (by rfl) T.tuple (by decide +kernel) (pa_cons (pv 13) pa_nil)) pa_nil)))))))
  (pss_one (ps_ret (pe_fn C_law_same_world hr (pa_cons (pe_fnL C_facts_world hr (pa_cons (pv 3) (pa_cons (pe_fn C_law_loose hr (pa_cons (pe_callTy (T := "tuple") call_tuple_of (by rfl) T.tuple (by decide +kernel) (pa_cons (pv 4) pa_nil)) (pa_cons (pe_fn C_law_take hr (pa_cons (pv 1) (pa_cons (pv 2) (pa_cons pe_int pa_nil)))) pa_nil))) pa_nil))) (pa_cons (pe_tup (pa_cons (pv 3) (pa_cons (pe_callTy (T := "tuple") call_tuple_of (by rfl) T.tuple (by decide +kernel) (pa_cons (pv 10) pa_nil)) (pa_cons (pe_callTy (T := "tuple") call_tuple_of (by rfl) T.tuple (by decide +kernel) (pa_cons (pv 11) pa_nil)) pa_nil)))) pa_nil))))))))))))), ?_⟩
    have e62 : (2 : Int) ^ 62 = 4611686018427387904 := by decide
    refine ⟨_, rfl, a, ns, rfl, hs, hl, hb, fun H1 r ms s1 hr0 ok er => ?_⟩
    refine ⟨by show 1 ≤ sizeLine; decide, fun sp hsp => ?_⟩
    have er1 : upd H1 sp (.lst [.int 0]) r = some (.lst (ms.map V.int)) := by rw [upd_ne (ne_of_none er hsp)]; exact er
    have R0 : Rolls r sp (upd H1 sp (.lst [.int 0])) := ⟨ne_of_none er hsp, ⟨ms, ok, er1⟩, 0, upd_same⟩
    refine ⟨_, rfl, _, rfl, r, sp, 5, rfl, R0, by decide, fun x H3 x0 x1 g3 R3 e3 => ?_⟩
    obtain ⟨f, rfl⟩ : ∃ f : Nat, x = (f : Int) := ⟨x.toNat, by omega⟩
    have f4 : f ≤ 4 := by omega
    refine ⟨Nat.zero_le _, fun Dd hDd => ?_⟩
    obtain ⟨l3, hl3⟩ := R3.lst
    obtain ⟨l3r, hl3r⟩ := R3.rowAt
    have nsD : sp ≠ Dd := ne_of_none hl3 hDd
    have nrD : r ≠ Dd := ne_of_none hl3r hDd
    refine ⟨_, rfl, _, rfl, r, sp, 5, rfl, R3.new hDd, by decide, fun y H5 y0 y1 g5 R5 e5 => ⟨_, _, rfl, rfl, _, rfl, by omega, by omega, ?_⟩⟩
    refine for_range (lo := 0) (n := (1 + y).toNat) (fun k σ H' => (∃ v5 v6 v7 v8 v9 : Option V, σ = [some (.ref a), some (.ref r), some (.ref sp), some (.int f), some (.ref Dd), v5, v6, v7, v8, v9, none, none, none, none, none, none, none]) ∧ Rolls r sp H' ∧ ∃ acc es, H' Dd = some (.lst acc) ∧ DpAll K H' acc es ∧ es.length = k ∧ ∀ e ∈ es, DeedD e f)
      ⟨⟨_, _, _, _, _, rfl⟩, R5, [], [], by rw [e5 _ nsD.symm]; exact upd_same, .nil, rfl, fun e he => (by cases he)⟩ ?_ ?_
    · rintro k' σ H6 hk ⟨⟨v5, v6, v7, v8, v9, rfl⟩, R6, acc, es, hacc, hda, hlen, hall⟩
      have hlen5 : es.length ≤ 5 := by omega
      have hDS : ∀ S, H6 S = none → Dd ≠ S := fun S h => ne_of_none hacc h
      have tdall : ∀ d ∈ es, ∃ n, Td n d := fun d hd => ⟨3, (hall d hd).td (by omega)⟩
      obtain ⟨l6, hl6⟩ := R6.lst
      obtain ⟨l6r, hl6r⟩ := R6.rowAt
      refine ⟨Nat.zero_le _, fun S hS => ⟨Nat.zero_le _, fun C' hC' => ?_⟩⟩
      have sS : Same H6 (upd H6 S (.lst [])) := Same.new hS
      have hSC : S ≠ C' := ne_of_none (upd_same (H := H6) (a := S) (o := .lst [])) hC'
      have s67 : Same H6 (upd (upd H6 S (.lst [])) C' (.lst [])) := sS.trans (Same.new hC')
      have nDS : Dd ≠ S := ne_of_none hacc hS
      have nDC : Dd ≠ C' := ne_of_none (sS _ _ hacc) hC'
      have nsS : sp ≠ S := ne_of_none hl6 hS
      have nsC : sp ≠ C' := ne_of_none (sS _ _ hl6) hC'
      have nrS : r ≠ S := ne_of_none hl6r hS
      have nrC : r ≠ C' := ne_of_none (sS _ _ hl6r) hC'
      refine ⟨_, rfl, (f : Int), rfl, by omega, by omega, ?_⟩
      rw [Int.toNat_natCast]
      refine for_range (lo := 0) (n := f) (fun j σ H' => (∃ v5 v8 v9 : Option V, σ = [some (.ref a), some (.ref r), some (.ref sp), some (.int f), some (.ref Dd), v5, some (.ref S), some (.ref C'), v8, v9, none, none, none, none, none, none, none]) ∧ Rolls r sp H' ∧ H' Dd = some (.lst acc) ∧ DpAll K H' acc es ∧ ∃ ss cc : List Int, H' S = some (.lst (ss.map V.int)) ∧ H' C' = some (.lst (cc.map V.int)) ∧ Nums0 ss j ∧ Nums0 cc j ∧ ∀ x ∈ ss, ¬ x ∈ cc)
        ⟨⟨_, _, _, rfl⟩, (R6.new hS).new hC', s67 _ _ hacc, dpAll_same s67 hda, [], [], by rw [upd_ne hSC]; exact upd_same, upd_same, ⟨Nat.zero_le _, fun x hx => (by cases hx), rfl⟩, ⟨Nat.zero_le _, fun x hx => (by cases hx), rfl⟩, fun x hx => (by cases hx)⟩ ?_ ?_
      · rintro j σ H8 hj ⟨⟨v5, v8, v9, rfl⟩, R8, hD8, hda8, ss, cc, hS8, hC8, n1, n2, dj⟩
        refine ⟨_, rfl, _, rfl, r, sp, 4, rfl, R8, by decide, fun z H9 z0 z1 g9 R9 e9 => ?_⟩
        obtain ⟨l8, hl8⟩ := R8.lst
        have hD9 := g9 _ _ nsD.symm hD8
        have hda9 := dpAll_grow hl8 g9 tdall hda8
        have hS9 := g9 _ _ nsS.symm hS8
        have hC9 := g9 _ _ nsC.symm hC8
        have m1 : ∀ x ∈ ss, x ≠ (j : Int) := fun x hx e => by have := (n1.all x hx).2; omega
        have m2 : ∀ x ∈ cc, x ≠ (j : Int) := fun x hx e => by have := (n2.all x hx).2; omega
        have z9 : [V.int (0 + (j : Int))] = [(j : Int)].map V.int := by rw [Int.zero_add]; rfl
        refine ⟨_, rfl, rfl, _, rfl, ?_⟩
        refine ite2 (fun c => ?_) (fun c => ?_)
        · have ez : z = 0 := by have := of_decide_eq_true c; injection this
          refine ⟨_, rfl, .inl ⟨rfl, _, SqL.of hS9⟩, _, rfl, S, _, _, rfl, rfl, hS9, ?_, ?_⟩
          · rw [List.length_map]; have := n1.len; exact Nat.lt_of_le_of_lt (by omega : ss.length ≤ 1000) (by decide)
          · refine ⟨_, rfl, rfl, _, rfl, ?_⟩
            refine ite2 (fun c2 => ?_) (fun c2 => ?_)
            · exact absurd (of_decide_eq_true c2) (by rw [ez]; intro h; injection h with h; cases h)
            · refine ⟨⟨_, _, _, rfl⟩, R9.put nrS nsS, by rw [upd_ne nDS]; exact hD9, dpAll_put tdall hS9 hda9, ss ++ [(j : Int)], cc, ?_, by rw [upd_ne hSC.symm]; exact hC9, n1.more, n2.next, ?_⟩
              · rw [upd_same, List.map_append, ← z9]
              · intro x hx hxc
                rcases List.mem_append.mp hx with q | q
                · exact dj x q hxc
                · rw [List.mem_singleton.mp q] at hxc; exact m2 _ hxc rfl
        · refine tnx ?_
          dsimp only
          refine ⟨_, rfl, rfl, _, rfl, ?_⟩
          refine ite2 (fun c2 => ?_) (fun c2 => ?_)
          · refine ⟨_, rfl, .inl ⟨rfl, _, SqL.of hC9⟩, _, rfl, C', _, _, rfl, rfl, hC9, ?_, ?_⟩
            · rw [List.length_map]; have := n2.len; exact Nat.lt_of_le_of_lt (by omega : cc.length ≤ 1000) (by decide)
            · refine ⟨⟨_, _, _, rfl⟩, R9.put nrC nsC, by rw [upd_ne nDC]; exact hD9, dpAll_put tdall hC9 hda9, ss, cc ++ [(j : Int)], by rw [upd_ne hSC]; exact hS9, ?_, n1.next, n2.more, ?_⟩
              · rw [upd_same, List.map_append, ← z9]
              · intro x hx hxc
                rcases List.mem_append.mp hxc with q | q
                · exact dj x hx q
                · rw [List.mem_singleton.mp q] at hx; exact m1 _ hx rfl
          · exact ⟨⟨_, _, _, rfl⟩, R9, hD9, hda9, ss, cc, hS9, hC9, n1.next, n2.next, dj⟩
      · rintro σ H8 ⟨⟨v5, v8, v9, rfl⟩, R8, hD8, hda8, ss, cc, hS8, hC8, n1, n2, dj⟩
        refine ⟨_, rfl, .inl ⟨rfl, _, SqL.of hD8⟩, _, rfl, _, rfl, _, rfl, r, sp, (f : Int), rfl, R8, by omega, by omega, fun c y9 H9 cd g9 R9 hy => ?_⟩
        obtain ⟨l8, hl8⟩ := R8.lst
        have hD9 := g9 _ _ nsD.symm hD8
        have hda9 := dpAll_grow hl8 g9 tdall hda8
        have hS9 := g9 _ _ nsS.symm hS8
        have hC9 := g9 _ _ nsC.symm hC8
        refine ⟨_, rfl, S, _, rfl, .inl ⟨SqL.of hS9, fun p hp => ⟨_, rfl, C', _, rfl, .inl ⟨SqL.of (Same.new hp _ _ hC9), fun q hq => ⟨by show 3 ≤ sizeLine; decide, fun t ht => ?_⟩⟩⟩⟩⟩
        have s2 := (Same.new (o := .tup (ss.map V.int)) hp).trans (Same.new (o := .tup (cc.map V.int)) hq)
        have s3 := s2.trans (Same.new (o := .tup [y9, .ref p, .ref q]) ht)
        have hpp := Same.new (o := .tup [y9, .ref p, .ref q]) ht _ _ (Same.new (o := .tup (cc.map V.int)) hq _ _ (upd_same (H := H9) (a := p) (o := .tup (ss.map V.int))))
        have hqq := Same.new (o := .tup [y9, .ref p, .ref q]) ht _ _ (upd_same (H := upd H9 p (.tup (ss.map V.int))) (a := q) (o := .tup (cc.map V.int)))
        have hdeed : Dp K (upd (upd (upd H9 p (.tup (ss.map V.int))) q (.tup (cc.map V.int))) t (.tup [y9, .ref p, .ref q])) (.ref t) (.tuple [c, .tuple (ss.map PyData.int), .tuple (cc.map PyData.int)]) :=
          .tup (SqT.of upd_same) (.cons (dp_same s3 hy) (.cons (.tup (SqT.of hpp) (dpAll_ints _)) (.cons (.tup (SqT.of hqq) (dpAll_ints _)) .nil)))
        have dd : DeedD (.tuple [c, .tuple (ss.map PyData.int), .tuple (cc.map PyData.int)]) f := ⟨c, ss, cc, rfl, cd, n1, n2, dj⟩
        have hall2 : ∀ e ∈ es ++ [.tuple [c, .tuple (ss.map PyData.int), .tuple (cc.map PyData.int)]], DeedD e f := fun e he => by
          rcases List.mem_append.mp he with q | q
          · exact hall e q
          · rw [List.mem_singleton.mp q]; exact dd
        refine ⟨Dd, acc, .ref t, rfl, rfl, s3 _ _ hD9, ?_, ⟨_, _, _, _, _, rfl⟩, (((R9.new hp).new hq).new ht).put nrD nsD, acc ++ [.ref t], es ++ [.tuple [c, .tuple (ss.map PyData.int), .tuple (cc.map PyData.int)]], upd_same, dpAll_put (fun d hd => ⟨3, (hall2 d hd).td (by omega)⟩) (s3 _ _ hD9) (dpAll_append (dpAll_same s3 hda9) (dpAll_one hdeed)), by rw [List.length_append, hlen]; rfl, hall2⟩
        have := dpAll_len hda9
        exact Nat.lt_of_le_of_lt (by omega : acc.length ≤ 1000) (by decide)
    · rintro σ H6 ⟨⟨v5, v6, v7, v8, v9, rfl⟩, R6, acc, es, hD6, hda6, hlen, hall⟩
      have hel5 : es.length ≤ 5 := by omega
      have hel1 : 1 ≤ es.length := by omega
      have tdall : ∀ d ∈ es, ∃ n, Td n d := fun d hd => ⟨3, (hall d hd).td (by omega)⟩
      have tdes : Td 4 (.tuple es) := .tup (by omega) fun d hd => (hall d hd).td (by omega)
      obtain ⟨l6, hl6⟩ := R6.lst
      obtain ⟨p1, p2⟩ := pow16 f4
      dsimp only
      refine tseq (tasg (lc_rng (K := K) (j := ((2 ^ f : Nat) : Int)) (2 ^ f) (fun k => .tuple (bitsD ((List.range f).map fun j => k.testBit j))) (fun R k => ⟨_, rfl, f, rfl, f4, k⟩) (by omega) (by omega) (by omega) (fun i _ => ⟨1, td_bits _ (by rw [List.length_map, List.length_range]; omega)⟩) (fun x => rfl) (fun i H7 Qe hi s7 k => ?_) (fun St accS H7 hSt s7 hS7 hdS => ?_)))
      · exact ⟨_, rfl, _, rfl, f, i, by rw [Int.zero_add]; rfl, f4, fun H8 p s8 hp8 => k _ _ s8 (.tup (SqT.of hp8) (dpAll_bools _))⟩
      have eS : (List.range (2 ^ f)).map (fun k => PyData.tuple (bitsD ((List.range f).map fun j => k.testBit j))) = (statesL f).map fun bs => PyData.tuple (bitsD bs) := by unfold statesL; rw [List.map_map]; rfl
      rw [eS] at hdS
      have elS : accS.length = 2 ^ f := by rw [dpAll_len hdS, List.length_map, statesL_len]
      refine ⟨Nat.zero_le _, fun Mv hMv => ?_⟩
      have hD7 := s7 _ _ hD6
      have hda7 := dpAll_same s7 hda6
      have sMv : Same H7 (upd H7 Mv (.lst [])) := Same.new hMv
      refine ⟨_, rfl, St, rfl, ⟨_, SqL.of (sMv _ _ hS7)⟩, for_list (K := K) (a := St) (xs := accS) (fun i σ H' => (∃ v12 v13 v14 v15 v16 : Option V, σ = [some (.ref a), some (.ref r), some (.ref sp), some (.int f), some (.ref Dd), v5, v6, v7, v8, v9, some (.ref St), some (.ref Mv), v12, v13, v14, v15, v16]) ∧ Same H7 H' ∧ ∃ accM, H' Mv = some (.lst accM) ∧ DpAll K H' accM (((statesL f).take i).map fun bs => .tuple (es.map fun d => fwMove f d bs)))
        ⟨⟨_, _, _, _, _, rfl⟩, sMv, [], upd_same, .nil⟩ (fun i σ H' _ p => SqL.of (p.2.1 _ _ hS7)) ?_ ?_⟩
      · rintro i y σ H8 hi ⟨⟨v12, v13, v14, v15, v16, rfl⟩, s8, accM, hM8, hdM⟩
        have hi2 : i < 2 ^ f := by rw [← elS]; exact (List.getElem?_eq_some_iff.mp hi).1
        obtain ⟨bs, hbs, hbl⟩ : ∃ bs, (statesL f)[i]? = some bs ∧ bs.length = f := ⟨_, statesL_at hi2, by rw [List.length_map, List.length_range]⟩
        have hdi : ((statesL f).map fun bs => PyData.tuple (bitsD bs))[i]? = some (.tuple (bitsD bs)) := by rw [List.getElem?_map, hbs]; rfl
        obtain ⟨v, hv, hvd⟩ := dpAll_get hdS hdi
        rw [hi] at hv
        obtain rfl := Option.some.inj hv
        cases hvd with
        | @tup o xs _ hqo hao =>
        obtain rfl : xs = bs.map V.bl := bools_of hao
        refine ⟨Nat.zero_le _, fun Mi hMi => ?_⟩
        have s9 : Same H8 (upd H8 Mi (.lst [])) := Same.new hMi
        refine ⟨_, rfl, Dd, rfl, ⟨_, SqL.of ((s8.trans s9) _ _ hD7)⟩, for_list (K := K) (a := Dd) (xs := acc) (fun j σ H' => (∃ v14 v15 v16 : Option V, σ = [some (.ref a), some (.ref r), some (.ref sp), some (.int f), some (.ref Dd), v5, v6, v7, v8, v9, some (.ref St), some (.ref Mv), some (.ref o), some (.ref Mi), v14, v15, v16]) ∧ Same H8 H' ∧ H' Mi = some (.lst (((es.take j).map fun d => fwMove f d bs).map toV)))
          ⟨⟨_, _, _, rfl⟩, s9, upd_same⟩ (fun j σ H' _ p => SqL.of (p.2.1 _ _ (s8 _ _ hD7))) ?_ ?_⟩
        · rintro j z σ H10 hj ⟨⟨v14, v15, v16, rfl⟩, s10, hM10⟩
          have s710 := s8.trans s10
          have hjl : j < es.length := by rw [← dpAll_len hda7]; exact (List.getElem?_eq_some_iff.mp hj).1
          obtain ⟨d, hdj⟩ : ∃ d, es[j]? = some d := ⟨es[j], by simp [hjl]⟩
          obtain ⟨v, hv, hvd⟩ := dpAll_get hda7 hdj
          rw [hj] at hv
          obtain rfl := Option.some.inj hv
          have dd := hall d (List.mem_of_getElem? hdj)
          have dd' := dd
          have emap : ((es.take (j + 1)).map fun d => fwMove f d bs).map toV = ((es.take j).map fun d => fwMove f d bs).map toV ++ [toV (fwMove f d bs)] := by
            rw [take_succ_of hdj, List.map_append, List.map_append]; rfl
          have llen : (((es.take j).map fun d => fwMove f d bs).map toV).length ≤ 5 := by rw [List.length_map, List.length_map, List.length_take]; omega
          obtain ⟨c, ss, cc, rfl, cd, n1, n2, dj⟩ := dd'.ex
          cases hvd with
          | @tup b xs _ hqb hab =>
          cases hab with
          | @cons v0 vr _ _ h0 hab =>
          cases hab with
          | @cons v1 vr _ _ h1 hab =>
          cases hab with
          | @cons v2 vr _ _ h2 hab =>
          cases hab
          cases h1 with
          | @tup u1 x1 _ hq1 ha1 =>
          cases h2 with
          | @tup u2 x2 _ hq2 ha2 =>
          have hi9 : ∀ is : List Int, is.map PyData.int = ((is.map PyData.int).map dVal).map PyData.int := fun is => by
            have e1 : (is.map PyData.int).map dVal = is := by rw [List.map_map, show (dVal ∘ PyData.int) = id from rfl, List.map_id]
            rw [e1]
          refine ⟨_, rfl, b, _, _, _, rfl, rfl, sqT_same s710 hqb, at_of (j := 0) rfl rfl, _, rfl, v0, c, (f : Int), o, bs, rfl, dp_same s710 h0, cd, sqT_same s710 hqo, by rw [hbl], fun H11 s11 => ⟨_, rfl, ?_⟩⟩
          have fin : ∀ (H11 : Hp) (v14 v15 v16 : Option V) , Same H10 H11 → (∃ a1 b1 c1 : Option V, [some (V.ref a), some (.ref r), some (.ref sp), some (.int f), some (.ref Dd), v5, v6, v7, v8, v9, some (.ref St), some (.ref Mv), some (.ref o), some (.ref Mi), v14, v15, v16] = [some (.ref a), some (.ref r), some (.ref sp), some (.int f), some (.ref Dd), v5, v6, v7, v8, v9, some (.ref St), some (.ref Mv), some (.ref o), some (.ref Mi), a1, b1, c1]) ∧ Same H8 (upd H11 Mi (.lst (((es.take j).map fun d => fwMove f d bs).map toV ++ [toV (fwMove f (.tuple [c, .tuple (ss.map PyData.int), .tuple (cc.map PyData.int)]) bs)]))) ∧ (upd H11 Mi (.lst (((es.take j).map fun d => fwMove f d bs).map toV ++ [toV (fwMove f (.tuple [c, .tuple (ss.map PyData.int), .tuple (cc.map PyData.int)]) bs)]))) Mi = some (.lst (((es.take (j + 1)).map fun d => fwMove f d bs).map toV)) := fun H11 v14 v15 v16 s11 =>
            ⟨⟨_, _, _, rfl⟩, fun b o e => by rw [upd_ne (ne_of_none e hMi)]; exact s11 _ _ (s10 _ _ e), by rw [upd_same, emap]⟩
          have s711 := s710.trans s11
          refine ite2 (fun c7 => ?_) (fun c7 => ?_)
          · have ef : fwMove f (.tuple [c, .tuple (ss.map PyData.int), .tuple (cc.map PyData.int)]) bs = .int (((statesL f).idxOf (chg (.tuple [c, .tuple (ss.map PyData.int), .tuple (cc.map PyData.int)]) bs) : Nat) : Int) := by
              unfold fwMove; rw [if_pos (show dHolds (dAt (.tuple [c, .tuple (ss.map PyData.int), .tuple (cc.map PyData.int)]) 0) bs = true from c7)]
            have em0 := after_bits dd hbl
            have hm := states_all f f4 (chg (.tuple [c, .tuple (ss.map PyData.int), .tuple (cc.map PyData.int)]) bs) (by rw [chg_len, hbl])
            have ed1 : ∀ q : Int, (dHas (dAt (.tuple [c, .tuple (ss.map PyData.int), .tuple (cc.map PyData.int)]) 1) q) = (ss.map PyData.int).any fun e => dVal e == q := fun q => rfl
            have ed2 : ∀ q : Int, (dHas (dAt (.tuple [c, .tuple (ss.map PyData.int), .tuple (cc.map PyData.int)]) 2) q) = (cc.map PyData.int).any fun e => dVal e == q := fun q => rfl
            generalize hdd : (PyData.tuple [c, .tuple (ss.map PyData.int), .tuple (cc.map PyData.int)]) = d at ef em0 hm ed1 ed2
            rw [hdd] at fin
            refine tseq (tasg (tcb1 (lc_rng (K := K) (j := (f : Int)) f (fun j => .bool ((bs.getD j false || dHas (dAt d 1) j) && !dHas (dAt d 2) j)) (fun R k => ⟨_, rfl, k⟩) (by omega) (by omega) (by omega) (fun i _ => ⟨0, .bl _⟩) (fun x => rfl) (fun jj H12 Qe hjj s12 k => ?_) (fun L12 acc12 H12 hL12 s12 hacc12 hda12 => ?_))))
            · have kk : ∀ q, q = ((bs.getD jj false || dHas (dAt d 1) jj) && !dHas (dAt d 2) jj) → Qe (.bl q) H12 := fun q e => k _ _ (Same.refl _) (by rw [e]; exact .bl _)
              have s712 := s711.trans s12
              rw [Int.zero_add]
              refine ⟨_, rfl, _, rfl, o, _, _, _, rfl, rfl, sqT_same s712 hqo, at_of (j := jj) rfl (getDn (by omega)), _, rfl, ?_⟩
              refine ite2 (fun c1 => ?_) (fun c1 => ?_)
              · refine ⟨_, rfl, iteT ?_⟩
                refine ⟨_, rfl, _, rfl, b, _, _, _, rfl, rfl, sqT_same s712 hqb, at_of (j := 2) rfl rfl, in_nums (.inr (sqT_same s712 hq2)) (dpAll_same s712 ha2) (hi9 _) ?_⟩
                exact kk _ (by rw [c1, ed2]; rfl)
              · refine ⟨_, rfl, _, rfl, b, _, _, _, rfl, rfl, sqT_same s712 hqb, at_of (j := 1) rfl rfl, in_nums (.inr (sqT_same s712 hq1)) (dpAll_same s712 ha1) (hi9 _) ?_⟩
                refine ⟨_, rfl, ite2 (fun c2 => ?_) (fun c2 => ?_)⟩
                · refine ⟨_, rfl, _, rfl, b, _, _, _, rfl, rfl, sqT_same s712 hqb, at_of (j := 2) rfl rfl, in_nums (.inr (sqT_same s712 hq2)) (dpAll_same s712 ha2) (hi9 _) ?_⟩
                  exact kk _ (by rw [eq_false_of_ne_true c1, ed1, ed2]; rw [show ((ss.map PyData.int).any fun e => dVal e == (jj : Int)) = true from c2]; rfl)
                · exact kk _ (by rw [eq_false_of_ne_true c1, ed1]; rw [show ((ss.map PyData.int).any fun e => dVal e == (jj : Int)) = false from eq_false_of_ne_true c2]; rfl)
            · have e12 : acc12 = (chg d bs).map V.bl := bools_of (by rw [← em0, List.map_map]; exact hda12)
              subst e12
              refine ⟨L12, _, rfl, .inl ⟨SqL.of hacc12, fun q hq => ?_⟩⟩
              have sq := s12.trans (Same.new (o := .tup ((chg d bs).map V.bl)) hq)
              have s7q := s711.trans sq
              have hix := List.idxOf_lt_length_of_mem hm
              have hget : (statesL f)[(statesL f).idxOf (chg d bs)]? = some (chg d bs) := by
                rw [List.getElem?_eq_getElem hix, List.getElem_idxOf]
              refine ⟨_, rfl, .inl ⟨rfl, _, SqL.of (s7q _ _ hS7)⟩, _, rfl, St, .ref q, .tuple (bitsD (chg d bs)), (statesL f).map fun bs => PyData.tuple (bitsD bs), (statesL f).idxOf (chg d bs), .tuple (bitsD (chg d bs)), rfl, rfl, .lst (SqL.of (s7q _ _ hS7)) (dpAll_same s7q hdS), .tup (SqT.of upd_same) (dpAll_bools _), shaped_statesT f f4, shaped_bitsT _, ?_, ?_, ?_, ?_⟩
              · rw [List.getElem?_map, hget]; rfl
              · rw [eqv_bitsT]; exact decide_eq_true rfl
              · intro m z' hm' hz'
                rw [List.getElem?_map] at hz'
                cases q9 : (statesL f)[m]? with
                | none => rw [q9] at hz'; cases hz'
                | some b9 =>
                  rw [q9] at hz'
                  obtain rfl := Option.some.inj hz'
                  rw [eqv_bitsT]
                  refine decide_eq_false fun z => ?_
                  subst z
                  exact absurd (idxOf_le9 q9) (Nat.not_le.mpr hm')
              · refine ⟨_, rfl, .inl ⟨rfl, _, SqL.of (sq _ _ (s11 _ _ hM10))⟩, _, rfl, Mi, _, _, rfl, rfl, sq _ _ (s11 _ _ hM10), Nat.lt_of_le_of_lt (by omega : _ ≤ 1000) (by decide), ?_⟩
                have z := fin _ (some (.ref b)) (some (.int (((statesL f).idxOf (chg d bs) : Nat) : Int))) (some (.ref q)) (s11.trans sq)
                rw [ef] at z
                exact z
          · have ef : fwMove f (.tuple [c, .tuple (ss.map PyData.int), .tuple (cc.map PyData.int)]) bs = .none := by
              unfold fwMove; rw [if_neg (show ¬ dHolds (dAt (.tuple [c, .tuple (ss.map PyData.int), .tuple (cc.map PyData.int)]) 0) bs = true from c7)]
            refine tnx ?_
            dsimp only
            refine ⟨_, rfl, .inl ⟨rfl, _, SqL.of (s11 _ _ hM10)⟩, _, rfl, Mi, _, _, rfl, rfl, s11 _ _ hM10, Nat.lt_of_le_of_lt (by omega : _ ≤ 1000) (by decide), ?_⟩
            have z := fin _ (some (.ref b)) (some .non) v16 s11
            rw [ef] at z
            exact z
        · rintro σ H10 ⟨⟨v14, v15, v16, rfl⟩, s10, hM10⟩
          rw [dpAll_len hda7, List.take_length] at hM10
          refine ⟨_, rfl, .inl ⟨rfl, _, SqL.of (s10 _ _ hM8)⟩, _, rfl, Mi, _, rfl, .inl ⟨SqL.of hM10, fun t ht => ?_⟩⟩
          have st := s10.trans (Same.new (o := .tup ((es.map fun d => fwMove f d bs).map toV)) ht)
          have tdM : ∀ bs : List Bool, Td 1 (.tuple (es.map fun d => fwMove f d bs)) := fun bs => .tup (n := 0) (by rw [List.length_map]; omega) fun e he => by
            obtain ⟨r, _, rfl⟩ := List.mem_map.mp he
            exact td_move ..
          have et : (((statesL f).take (i + 1)).map fun bs => PyData.tuple (es.map fun d => fwMove f d bs)) = (((statesL f).take i).map fun bs => PyData.tuple (es.map fun d => fwMove f d bs)) ++ [.tuple (es.map fun d => fwMove f d bs)] := by
            rw [take_succ_of hbs, List.map_append]; rfl
          refine ⟨Mv, accM, .ref t, rfl, rfl, st _ _ hM8, ?_, ⟨_, _, _, _, _, rfl⟩, fun b o e => by rw [upd_ne (ne_of_none e hMv)]; exact st _ _ (s8 _ _ e), accM ++ [.ref t], upd_same, ?_⟩
          · have := dpAll_len hdM
            rw [List.length_map, List.length_take] at this
            exact Nat.lt_of_le_of_lt (by omega : accM.length ≤ 1000) (by decide)
          · rw [et]
            refine dpAll_put (fun d hd => ?_) (st _ _ hM8) (dpAll_append (dpAll_same st hdM) (dpAll_one (.tup (SqT.of upd_same) (dpAll_flat fun d hd => ?_))))
            · rcases List.mem_append.mp hd with q | q
              · obtain ⟨b9, _, rfl⟩ := List.mem_map.mp q
                exact ⟨1, tdM b9⟩
              · rw [List.mem_singleton.mp q]; exact ⟨1, tdM bs⟩
            · obtain ⟨r, _, rfl⟩ := List.mem_map.mp hd
              exact fwMove_flat ..
      · rintro σ H8 ⟨⟨v12, v13, v14, v15, v16, rfl⟩, s8, accM, hM8, hdM⟩
        rw [elS, ← statesL_len f, List.take_length] at hdM
        have R8 : Rolls r sp H8 := (R6.same s7).same s8
        have hD8 := s8 _ _ hD7
        have hda8 := dpAll_same s8 hda7
        have hS8 := s8 _ _ hS7
        have hdS8 := dpAll_same s8 hdS
        have nsSt : sp ≠ St := ne_of_none hl6 hSt
        have nsMv : sp ≠ Mv := ne_of_none (s7 _ _ hl6) hMv
        have tdS : ∀ d ∈ (statesL f).map fun bs => PyData.tuple (bitsD bs), ∃ n, Td n d := fun d hd => by
          obtain ⟨bs, hb, rfl⟩ := List.mem_map.mp hd
          exact ⟨1, td_bits bs (by rw [statesL_mem hb]; omega)⟩
        have tdM : ∀ d ∈ (statesL f).map fun bs => PyData.tuple (es.map fun d => fwMove f d bs), ∃ n, Td n d := fun d hd => by
          obtain ⟨bs, hb, rfl⟩ := List.mem_map.mp hd
          exact ⟨1, .tup (n := 0) (by rw [List.length_map]; omega) fun e he => by
            obtain ⟨r, _, rfl⟩ := List.mem_map.mp he
            exact td_move ..⟩
        dsimp only
        refine tret ?_
        refine ⟨_, rfl, _, rfl, Dd, _, rfl, .inl ⟨SqL.of hD8, fun t ht => ?_⟩⟩
        have st : Same H8 (upd H8 t (.tup acc)) := Same.new ht
        have Rt := R8.new (o := .tup acc) ht
        have hdt : Dp K (upd H8 t (.tup acc)) (.ref t) (.tuple es) := .tup (SqT.of upd_same) (dpAll_same st hda8)
        refine ⟨_, rfl, _, rfl, r, sp, 2, rfl, Rt, by decide, fun x H9 z0 z1 g9 R9 e9 => ?_⟩
        obtain ⟨lt, hlt⟩ := Rt.lst
        have hS9 := g9 _ _ nsSt.symm (st _ _ hS8)
        have hM9 := g9 _ _ nsMv.symm (st _ _ hM8)
        have hdS9 := dpAll_grow hlt g9 tdS (dpAll_same st hdS8)
        have hdM9 := dpAll_grow hlt g9 tdM (dpAll_same st hdM)
        refine ⟨.ref t, .tuple es, 4, x, rfl, dp_grow hlt g9 tdes hdt, tdes, by omega, fun y9 H10 s10 hy => ?_⟩
        have efw : errFw (.int (f : Int)) (dLoose (.tuple es) x) = none := by rw [← errFw_plain, plain_loose tdes, errFw_law f4 hel1 hel5 hall]
        have emv : fwM f (dLoose (.tuple es) x) = fwM f (.tuple es) := by rw [← fwM_plain, plain_loose tdes]
        refine ⟨.int (f : Int), y9, .int (f : Int), dLoose (.tuple es) x, rfl, .int _, dp_fresh hy, .int _, (wf_loose tdes x).mono (by omega), ?_⟩
        rw [efw]
        intro aw H11 s11 hw
        have s911 := s10.trans s11
        refine ⟨_, rfl, _, rfl, St, _, rfl, .inl ⟨SqL.of (s911 _ _ hS9), fun p hp => ?_⟩⟩
        have sp1 := s911.trans (Same.new (o := .tup accS) hp)
        refine ⟨_, rfl, Mv, _, rfl, .inl ⟨SqL.of (sp1 _ _ hM9), fun q hq => ⟨by show 3 ≤ sizeLine; decide, fun t2 ht2 => ?_⟩⟩⟩
        have sq1 := Same.new (o := .tup accM) hq
        have st2 := Same.new (o := .tup [.int (f : Int), .ref p, .ref q]) ht2
        have sall := (sp1.trans sq1).trans st2
        have swt := ((Same.new (o := .tup accS) hp).trans sq1).trans st2
        refine ⟨aw, t2, f, fwS f, fwM f (.tuple es), .ref p, .ref q, rfl, ?_, SqT.of upd_same, ?_, ?_, (td_fwS f4).mono (by omega), (td_fwM f4 (by omega)).mono (by omega), kq _⟩
        · have z := hw.same swt
          rw [show (dVal (.int (f : Int))).toNat = f from Int.toNat_natCast f, emv] at z
          exact z
        · exact .tup (SqT.of (st2 _ _ (sq1 _ _ upd_same))) (dpAll_same sall hdS9)
        · exact .tup (SqT.of (st2 _ _ upd_same)) (dpAll_same sall hdM9)
end
end Mw
set_option Elab.async false
set_option maxRecDepth 100000
set_option maxHeartbeats 4000000
namespace Mw
open PySem L2
theorem all_mk {P : Program} {w : World} {K : PySem.W.Frag} {h : Heap} {mg : Str → Option Value} {fa : Addr} (KX : K.In h) (G : h.Ns mainGlobals mg) (hfa : mg "law" = some (.ref fa))
    {C_MethodError : Addr}
    {f_is_integer : Addr} {oc_is_integer kV_is_integer dc_is_integer pm_is_integer cd_is_integer ct_is_integer : Value} {od_is_integer an_is_integer : Option Addr} {sl_is_integer : Array (Option Value)}
    {f_is_between : Addr} {oc_is_between kV_is_between dc_is_between pm_is_between cd_is_between ct_is_between : Value} {od_is_between an_is_between : Option Addr} {sl_is_between : Array (Option Value)}
    {f_is_number : Addr} {oc_is_number kV_is_number dc_is_number pm_is_number cd_is_number ct_is_number : Value} {od_is_number an_is_number : Option Addr} {sl_is_number : Array (Option Value)}
    {f_is_sequence : Addr} {oc_is_sequence kV_is_sequence dc_is_sequence pm_is_sequence cd_is_sequence ct_is_sequence : Value} {od_is_sequence an_is_sequence : Option Addr} {sl_is_sequence : Array (Option Value)}
    {f_is_row : Addr} {oc_is_row kV_is_row dc_is_row pm_is_row cd_is_row ct_is_row : Value} {od_is_row an_is_row : Option Addr} {sl_is_row : Array (Option Value)}
    {f_is_ascending : Addr} {oc_is_ascending kV_is_ascending dc_is_ascending pm_is_ascending cd_is_ascending ct_is_ascending : Value} {od_is_ascending an_is_ascending : Option Addr} {sl_is_ascending : Array (Option Value)}
    {f_are_numbers : Addr} {oc_are_numbers kV_are_numbers dc_are_numbers pm_are_numbers cd_are_numbers ct_are_numbers : Value} {od_are_numbers an_are_numbers : Option Addr} {sl_are_numbers : Array (Option Value)}
    {f_are_ascending_numbers : Addr} {oc_are_ascending_numbers kV_are_ascending_numbers dc_are_ascending_numbers pm_are_ascending_numbers cd_are_ascending_numbers ct_are_ascending_numbers : Value} {od_are_ascending_numbers an_are_ascending_numbers : Option Addr} {sl_are_ascending_numbers : Array (Option Value)}
    {f_are_facts : Addr} {oc_are_facts kV_are_facts dc_are_facts pm_are_facts cd_are_facts ct_are_facts : Value} {od_are_facts an_are_facts : Option Addr} {sl_are_facts : Array (Option Value)}
    {f_plain : Addr} {oc_plain kV_plain dc_plain pm_plain cd_plain ct_plain : Value} {od_plain an_plain : Option Addr} {sl_plain : Array (Option Value)}
    {f_is_wanted_fact : Addr} {oc_is_wanted_fact kV_is_wanted_fact dc_is_wanted_fact pm_is_wanted_fact cd_is_wanted_fact ct_is_wanted_fact : Value} {od_is_wanted_fact an_is_wanted_fact : Option Addr} {sl_is_wanted_fact : Array (Option Value)}
    {f_is_condition : Addr} {oc_is_condition kV_is_condition dc_is_condition pm_is_condition cd_is_condition ct_is_condition : Value} {od_is_condition an_is_condition : Option Addr} {sl_is_condition : Array (Option Value)}
    {f_holds : Addr} {oc_holds kV_holds dc_holds pm_holds cd_holds ct_holds : Value} {od_holds an_holds : Option Addr} {sl_holds : Array (Option Value)}
    {f_every_facts : Addr} {oc_every_facts kV_every_facts dc_every_facts pm_every_facts cd_every_facts ct_every_facts : Value} {od_every_facts an_every_facts : Option Addr} {sl_every_facts : Array (Option Value)}
    {f_are_moves : Addr} {oc_are_moves kV_are_moves dc_are_moves pm_are_moves cd_are_moves ct_are_moves : Value} {od_are_moves an_are_moves : Option Addr} {sl_are_moves : Array (Option Value)}
    {f_need_states : Addr} {oc_need_states kV_need_states dc_need_states pm_need_states cd_need_states ct_need_states : Value} {od_need_states an_need_states : Option Addr} {sl_need_states : Array (Option Value)}
    {f_need_moves : Addr} {oc_need_moves kV_need_moves dc_need_moves pm_need_moves cd_need_moves ct_need_moves : Value} {od_need_moves an_need_moves : Option Addr} {sl_need_moves : Array (Option Value)}
    {f_is_deed_rule : Addr} {oc_is_deed_rule kV_is_deed_rule dc_is_deed_rule pm_is_deed_rule cd_is_deed_rule ct_is_deed_rule : Value} {od_is_deed_rule an_is_deed_rule : Option Addr} {sl_is_deed_rule : Array (Option Value)}
    {f_changed : Addr} {oc_changed kV_changed dc_changed pm_changed cd_changed ct_changed : Value} {od_changed an_changed : Option Addr} {sl_changed : Array (Option Value)}
    {f_facts_world : Addr} {oc_facts_world kV_facts_world dc_facts_world pm_facts_world cd_facts_world ct_facts_world : Value} {od_facts_world an_facts_world : Option Addr} {sl_facts_world : Array (Option Value)}
    {f_law_numbers : Addr} {oc_law_numbers kV_law_numbers dc_law_numbers pm_law_numbers cd_law_numbers ct_law_numbers : Value} {od_law_numbers an_law_numbers : Option Addr} {sl_law_numbers : Array (Option Value)}
    {f_law_draw : Addr} {oc_law_draw kV_law_draw dc_law_draw pm_law_draw cd_law_draw ct_law_draw : Value} {od_law_draw an_law_draw : Option Addr} {sl_law_draw : Array (Option Value)}
    {f_law_take : Addr} {oc_law_take kV_law_take dc_law_take pm_law_take cd_law_take ct_law_take : Value} {od_law_take an_law_take : Option Addr} {sl_law_take : Array (Option Value)}
    {f_law_so : Addr} {oc_law_so kV_law_so dc_law_so pm_law_so cd_law_so ct_law_so : Value} {od_law_so an_law_so : Option Addr} {sl_law_so : Array (Option Value)}
    {f_law_loose : Addr} {oc_law_loose kV_law_loose dc_law_loose pm_law_loose cd_law_loose ct_law_loose : Value} {od_law_loose an_law_loose : Option Addr} {sl_law_loose : Array (Option Value)}
    {f_law_cond : Addr} {oc_law_cond kV_law_cond dc_law_cond pm_law_cond cd_law_cond ct_law_cond : Value} {od_law_cond an_law_cond : Option Addr} {sl_law_cond : Array (Option Value)}
    {f_law_true : Addr} {oc_law_true kV_law_true dc_law_true pm_law_true cd_law_true ct_law_true : Value} {od_law_true an_law_true : Option Addr} {sl_law_true : Array (Option Value)}
    {f_law_facts : Addr} {oc_law_facts kV_law_facts dc_law_facts pm_law_facts cd_law_facts ct_law_facts : Value} {od_law_facts an_law_facts : Option Addr} {sl_law_facts : Array (Option Value)}
    {f_law_power : Addr} {oc_law_power kV_law_power dc_law_power pm_law_power cd_law_power ct_law_power : Value} {od_law_power an_law_power : Option Addr} {sl_law_power : Array (Option Value)}
    {f_law_same_world : Addr} {oc_law_same_world kV_law_same_world dc_law_same_world pm_law_same_world cd_law_same_world ct_law_same_world : Value} {od_law_same_world an_law_same_world : Option Addr} {sl_law_same_world : Array (Option Value)}
    {f_law : Addr} {oc_law kV_law dc_law pm_law cd_law ct_law : Value} {od_law an_law : Option Addr} {sl_law : Array (Option Value)}
    {C_BadValue : Addr} {nm_BadValue q_BadValue : Str} {N_BadValue : Addr} {bs_BadValue : List Value} {sn_BadValue : List Str} {su_BadValue : List Value} {ab_BadValue : Bool} {co_BadValue : Option Bool} {dd_BadValue : Option Addr} {m0_BadValue m1_BadValue m2_BadValue m3_BadValue m5_BadValue : Option Value}
    {f_BadValue_init : Addr} {oc_BadValue_init kV_BadValue_init dc_BadValue_init pm_BadValue_init cd_BadValue_init ct_BadValue_init : Value} {od_BadValue_init an_BadValue_init : Option Addr} {sl_BadValue_init : Array (Option Value)}
    {C_BadState : Addr} {nm_BadState q_BadState : Str} {N_BadState : Addr} {bs_BadState : List Value} {sn_BadState : List Str} {su_BadState : List Value} {ab_BadState : Bool} {co_BadState : Option Bool} {dd_BadState : Option Addr} {m0_BadState m1_BadState m2_BadState m3_BadState m5_BadState : Option Value}
    {f_BadState_init : Addr} {oc_BadState_init kV_BadState_init dc_BadState_init pm_BadState_init cd_BadState_init ct_BadState_init : Value} {od_BadState_init an_BadState_init : Option Addr} {sl_BadState_init : Array (Option Value)}
    {C_World : Addr}
    {f_World_init : Addr} {oc_World_init kV_World_init dc_World_init pm_World_init cd_World_init ct_World_init : Value} {od_World_init an_World_init : Option Addr} {sl_World_init : Array (Option Value)}
    {f_World_facts : Addr} {oc_World_facts kV_World_facts dc_World_facts pm_World_facts cd_World_facts ct_World_facts : Value} {od_World_facts an_World_facts : Option Addr} {sl_World_facts : Array (Option Value)}
    {p_World_facts : Addr} {r_World_facts : List Value}
    {f_World_states : Addr} {oc_World_states kV_World_states dc_World_states pm_World_states cd_World_states ct_World_states : Value} {od_World_states an_World_states : Option Addr} {sl_World_states : Array (Option Value)}
    {p_World_states : Addr} {r_World_states : List Value}
    {f_World_moves : Addr} {oc_World_moves kV_World_moves dc_World_moves pm_World_moves cd_World_moves ct_World_moves : Value} {od_World_moves an_World_moves : Option Addr} {sl_World_moves : Array (Option Value)}
    {p_World_moves : Addr} {r_World_moves : List Value}
    {t_MOST_STATES : Tok}
    {t_MOST_DEEDS : Tok}
    {t_MOST_FACTS : Tok}
    (a_is_integer : PySem.W.nsIn K mainGlobals "is_integer" = some (some (.ref f_is_integer)))
    (l_is_integer : K.lookup f_is_integer = some ⟨oc_is_integer, od_is_integer, .func (PySem.W.fnOf "is_integer" "is_integer" (defArgs S_is_integer) (defBody S_is_integer) (defScope S_is_integer) .none kV_is_integer dc_is_integer pm_is_integer an_is_integer cd_is_integer ct_is_integer), sl_is_integer⟩)
    (c_is_integer : PySem.W.codeIn K cd_is_integer "is_integer" = true)
    (k_is_integer : PySem.W.keepIn K (.ref f_is_integer) = true)
    (a_is_between : PySem.W.nsIn K mainGlobals "is_between" = some (some (.ref f_is_between)))
    (l_is_between : K.lookup f_is_between = some ⟨oc_is_between, od_is_between, .func (PySem.W.fnOf "is_between" "is_between" (defArgs S_is_between) (defBody S_is_between) (defScope S_is_between) .none kV_is_between dc_is_between pm_is_between an_is_between cd_is_between ct_is_between), sl_is_between⟩)
    (c_is_between : PySem.W.codeIn K cd_is_between "is_between" = true)
    (k_is_between : PySem.W.keepIn K (.ref f_is_between) = true)
    (a_is_number : PySem.W.nsIn K mainGlobals "is_number" = some (some (.ref f_is_number)))
    (l_is_number : K.lookup f_is_number = some ⟨oc_is_number, od_is_number, .func (PySem.W.fnOf "is_number" "is_number" (defArgs S_is_number) (defBody S_is_number) (defScope S_is_number) .none kV_is_number dc_is_number pm_is_number an_is_number cd_is_number ct_is_number), sl_is_number⟩)
    (c_is_number : PySem.W.codeIn K cd_is_number "is_number" = true)
    (k_is_number : PySem.W.keepIn K (.ref f_is_number) = true)
    (a_is_sequence : PySem.W.nsIn K mainGlobals "is_sequence" = some (some (.ref f_is_sequence)))
    (l_is_sequence : K.lookup f_is_sequence = some ⟨oc_is_sequence, od_is_sequence, .func (PySem.W.fnOf "is_sequence" "is_sequence" (defArgs S_is_sequence) (defBody S_is_sequence) (defScope S_is_sequence) .none kV_is_sequence dc_is_sequence pm_is_sequence an_is_sequence cd_is_sequence ct_is_sequence), sl_is_sequence⟩)
    (c_is_sequence : PySem.W.codeIn K cd_is_sequence "is_sequence" = true)
    (k_is_sequence : PySem.W.keepIn K (.ref f_is_sequence) = true)
    (a_is_row : PySem.W.nsIn K mainGlobals "is_row" = some (some (.ref f_is_row)))
    (l_is_row : K.lookup f_is_row = some ⟨oc_is_row, od_is_row, .func (PySem.W.fnOf "is_row" "is_row" (defArgs S_is_row) (defBody S_is_row) (defScope S_is_row) .none kV_is_row dc_is_row pm_is_row an_is_row cd_is_row ct_is_row), sl_is_row⟩)
    (c_is_row : PySem.W.codeIn K cd_is_row "is_row" = true)
    (k_is_row : PySem.W.keepIn K (.ref f_is_row) = true)
    (a_is_ascending : PySem.W.nsIn K mainGlobals "is_ascending" = some (some (.ref f_is_ascending)))
    (l_is_ascending : K.lookup f_is_ascending = some ⟨oc_is_ascending, od_is_ascending, .func (PySem.W.fnOf "is_ascending" "is_ascending" (defArgs S_is_ascending) (defBody S_is_ascending) (defScope S_is_ascending) .none kV_is_ascending dc_is_ascending pm_is_ascending an_is_ascending cd_is_ascending ct_is_ascending), sl_is_ascending⟩)
    (c_is_ascending : PySem.W.codeIn K cd_is_ascending "is_ascending" = true)
    (k_is_ascending : PySem.W.keepIn K (.ref f_is_ascending) = true)
    (a_are_numbers : PySem.W.nsIn K mainGlobals "are_numbers" = some (some (.ref f_are_numbers)))
    (l_are_numbers : K.lookup f_are_numbers = some ⟨oc_are_numbers, od_are_numbers, .func (PySem.W.fnOf "are_numbers" "are_numbers" (defArgs S_are_numbers) (defBody S_are_numbers) (defScope S_are_numbers) .none kV_are_numbers dc_are_numbers pm_are_numbers an_are_numbers cd_are_numbers ct_are_numbers), sl_are_numbers⟩)
    (c_are_numbers : PySem.W.codeIn K cd_are_numbers "are_numbers" = true)
    (k_are_numbers : PySem.W.keepIn K (.ref f_are_numbers) = true)
    (a_are_ascending_numbers : PySem.W.nsIn K mainGlobals "are_ascending_numbers" = some (some (.ref f_are_ascending_numbers)))
    (l_are_ascending_numbers : K.lookup f_are_ascending_numbers = some ⟨oc_are_ascending_numbers, od_are_ascending_numbers, .func (PySem.W.fnOf "are_ascending_numbers" "are_ascending_numbers" (defArgs S_are_ascending_numbers) (defBody S_are_ascending_numbers) (defScope S_are_ascending_numbers) .none kV_are_ascending_numbers dc_are_ascending_numbers pm_are_ascending_numbers an_are_ascending_numbers cd_are_ascending_numbers ct_are_ascending_numbers), sl_are_ascending_numbers⟩)
    (c_are_ascending_numbers : PySem.W.codeIn K cd_are_ascending_numbers "are_ascending_numbers" = true)
    (k_are_ascending_numbers : PySem.W.keepIn K (.ref f_are_ascending_numbers) = true)
    (a_are_facts : PySem.W.nsIn K mainGlobals "are_facts" = some (some (.ref f_are_facts)))
    (l_are_facts : K.lookup f_are_facts = some ⟨oc_are_facts, od_are_facts, .func (PySem.W.fnOf "are_facts" "are_facts" (defArgs S_are_facts) (defBody S_are_facts) (defScope S_are_facts) .none kV_are_facts dc_are_facts pm_are_facts an_are_facts cd_are_facts ct_are_facts), sl_are_facts⟩)
    (c_are_facts : PySem.W.codeIn K cd_are_facts "are_facts" = true)
    (k_are_facts : PySem.W.keepIn K (.ref f_are_facts) = true)
    (a_plain : PySem.W.nsIn K mainGlobals "plain" = some (some (.ref f_plain)))
    (l_plain : K.lookup f_plain = some ⟨oc_plain, od_plain, .func (PySem.W.fnOf "plain" "plain" (defArgs S_plain) (defBody S_plain) (defScope S_plain) .none kV_plain dc_plain pm_plain an_plain cd_plain ct_plain), sl_plain⟩)
    (c_plain : PySem.W.codeIn K cd_plain "plain" = true)
    (k_plain : PySem.W.keepIn K (.ref f_plain) = true)
    (a_is_wanted_fact : PySem.W.nsIn K mainGlobals "is_wanted_fact" = some (some (.ref f_is_wanted_fact)))
    (l_is_wanted_fact : K.lookup f_is_wanted_fact = some ⟨oc_is_wanted_fact, od_is_wanted_fact, .func (PySem.W.fnOf "is_wanted_fact" "is_wanted_fact" (defArgs S_is_wanted_fact) (defBody S_is_wanted_fact) (defScope S_is_wanted_fact) .none kV_is_wanted_fact dc_is_wanted_fact pm_is_wanted_fact an_is_wanted_fact cd_is_wanted_fact ct_is_wanted_fact), sl_is_wanted_fact⟩)
    (c_is_wanted_fact : PySem.W.codeIn K cd_is_wanted_fact "is_wanted_fact" = true)
    (k_is_wanted_fact : PySem.W.keepIn K (.ref f_is_wanted_fact) = true)
    (a_is_condition : PySem.W.nsIn K mainGlobals "is_condition" = some (some (.ref f_is_condition)))
    (l_is_condition : K.lookup f_is_condition = some ⟨oc_is_condition, od_is_condition, .func (PySem.W.fnOf "is_condition" "is_condition" (defArgs S_is_condition) (defBody S_is_condition) (defScope S_is_condition) .none kV_is_condition dc_is_condition pm_is_condition an_is_condition cd_is_condition ct_is_condition), sl_is_condition⟩)
    (c_is_condition : PySem.W.codeIn K cd_is_condition "is_condition" = true)
    (k_is_condition : PySem.W.keepIn K (.ref f_is_condition) = true)
    (a_holds : PySem.W.nsIn K mainGlobals "holds" = some (some (.ref f_holds)))
    (l_holds : K.lookup f_holds = some ⟨oc_holds, od_holds, .func (PySem.W.fnOf "holds" "holds" (defArgs S_holds) (defBody S_holds) (defScope S_holds) .none kV_holds dc_holds pm_holds an_holds cd_holds ct_holds), sl_holds⟩)
    (c_holds : PySem.W.codeIn K cd_holds "holds" = true)
    (k_holds : PySem.W.keepIn K (.ref f_holds) = true)
    (a_every_facts : PySem.W.nsIn K mainGlobals "every_facts" = some (some (.ref f_every_facts)))
    (l_every_facts : K.lookup f_every_facts = some ⟨oc_every_facts, od_every_facts, .func (PySem.W.fnOf "every_facts" "every_facts" (defArgs S_every_facts) (defBody S_every_facts) (defScope S_every_facts) .none kV_every_facts dc_every_facts pm_every_facts an_every_facts cd_every_facts ct_every_facts), sl_every_facts⟩)
    (c_every_facts : PySem.W.codeIn K cd_every_facts "every_facts" = true)
    (k_every_facts : PySem.W.keepIn K (.ref f_every_facts) = true)
    (a_are_moves : PySem.W.nsIn K mainGlobals "are_moves" = some (some (.ref f_are_moves)))
    (l_are_moves : K.lookup f_are_moves = some ⟨oc_are_moves, od_are_moves, .func (PySem.W.fnOf "are_moves" "are_moves" (defArgs S_are_moves) (defBody S_are_moves) (defScope S_are_moves) .none kV_are_moves dc_are_moves pm_are_moves an_are_moves cd_are_moves ct_are_moves), sl_are_moves⟩)
    (c_are_moves : PySem.W.codeIn K cd_are_moves "are_moves" = true)
    (k_are_moves : PySem.W.keepIn K (.ref f_are_moves) = true)
    (a_need_states : PySem.W.nsIn K mainGlobals "need_states" = some (some (.ref f_need_states)))
    (l_need_states : K.lookup f_need_states = some ⟨oc_need_states, od_need_states, .func (PySem.W.fnOf "need_states" "need_states" (defArgs S_need_states) (defBody S_need_states) (defScope S_need_states) .none kV_need_states dc_need_states pm_need_states an_need_states cd_need_states ct_need_states), sl_need_states⟩)
    (c_need_states : PySem.W.codeIn K cd_need_states "need_states" = true)
    (k_need_states : PySem.W.keepIn K (.ref f_need_states) = true)
    (a_need_moves : PySem.W.nsIn K mainGlobals "need_moves" = some (some (.ref f_need_moves)))
    (l_need_moves : K.lookup f_need_moves = some ⟨oc_need_moves, od_need_moves, .func (PySem.W.fnOf "need_moves" "need_moves" (defArgs S_need_moves) (defBody S_need_moves) (defScope S_need_moves) .none kV_need_moves dc_need_moves pm_need_moves an_need_moves cd_need_moves ct_need_moves), sl_need_moves⟩)
    (c_need_moves : PySem.W.codeIn K cd_need_moves "need_moves" = true)
    (k_need_moves : PySem.W.keepIn K (.ref f_need_moves) = true)
    (a_is_deed_rule : PySem.W.nsIn K mainGlobals "is_deed_rule" = some (some (.ref f_is_deed_rule)))
    (l_is_deed_rule : K.lookup f_is_deed_rule = some ⟨oc_is_deed_rule, od_is_deed_rule, .func (PySem.W.fnOf "is_deed_rule" "is_deed_rule" (defArgs S_is_deed_rule) (defBody S_is_deed_rule) (defScope S_is_deed_rule) .none kV_is_deed_rule dc_is_deed_rule pm_is_deed_rule an_is_deed_rule cd_is_deed_rule ct_is_deed_rule), sl_is_deed_rule⟩)
    (c_is_deed_rule : PySem.W.codeIn K cd_is_deed_rule "is_deed_rule" = true)
    (k_is_deed_rule : PySem.W.keepIn K (.ref f_is_deed_rule) = true)
    (a_changed : PySem.W.nsIn K mainGlobals "changed" = some (some (.ref f_changed)))
    (l_changed : K.lookup f_changed = some ⟨oc_changed, od_changed, .func (PySem.W.fnOf "changed" "changed" (defArgs S_changed) (defBody S_changed) (defScope S_changed) .none kV_changed dc_changed pm_changed an_changed cd_changed ct_changed), sl_changed⟩)
    (c_changed : PySem.W.codeIn K cd_changed "changed" = true)
    (k_changed : PySem.W.keepIn K (.ref f_changed) = true)
    (a_facts_world : PySem.W.nsIn K mainGlobals "facts_world" = some (some (.ref f_facts_world)))
    (l_facts_world : K.lookup f_facts_world = some ⟨oc_facts_world, od_facts_world, .func (PySem.W.fnOf "facts_world" "facts_world" (defArgs S_facts_world) (defBody S_facts_world) (defScope S_facts_world) .none kV_facts_world dc_facts_world pm_facts_world an_facts_world cd_facts_world ct_facts_world), sl_facts_world⟩)
    (c_facts_world : PySem.W.codeIn K cd_facts_world "facts_world" = true)
    (k_facts_world : PySem.W.keepIn K (.ref f_facts_world) = true)
    (a_law_numbers : PySem.W.nsIn K mainGlobals "_law_numbers" = some (some (.ref f_law_numbers)))
    (l_law_numbers : K.lookup f_law_numbers = some ⟨oc_law_numbers, od_law_numbers, .func (PySem.W.fnOf "_law_numbers" "_law_numbers" (defArgs S_law_numbers) (defBody S_law_numbers) (defScope S_law_numbers) .none kV_law_numbers dc_law_numbers pm_law_numbers an_law_numbers cd_law_numbers ct_law_numbers), sl_law_numbers⟩)
    (c_law_numbers : PySem.W.codeIn K cd_law_numbers "_law_numbers" = true)
    (k_law_numbers : PySem.W.keepIn K (.ref f_law_numbers) = true)
    (a_law_draw : PySem.W.nsIn K mainGlobals "_law_draw" = some (some (.ref f_law_draw)))
    (l_law_draw : K.lookup f_law_draw = some ⟨oc_law_draw, od_law_draw, .func (PySem.W.fnOf "_law_draw" "_law_draw" (defArgs S_law_draw) (defBody S_law_draw) (defScope S_law_draw) .none kV_law_draw dc_law_draw pm_law_draw an_law_draw cd_law_draw ct_law_draw), sl_law_draw⟩)
    (c_law_draw : PySem.W.codeIn K cd_law_draw "_law_draw" = true)
    (k_law_draw : PySem.W.keepIn K (.ref f_law_draw) = true)
    (a_law_take : PySem.W.nsIn K mainGlobals "_law_take" = some (some (.ref f_law_take)))
    (l_law_take : K.lookup f_law_take = some ⟨oc_law_take, od_law_take, .func (PySem.W.fnOf "_law_take" "_law_take" (defArgs S_law_take) (defBody S_law_take) (defScope S_law_take) .none kV_law_take dc_law_take pm_law_take an_law_take cd_law_take ct_law_take), sl_law_take⟩)
    (c_law_take : PySem.W.codeIn K cd_law_take "_law_take" = true)
    (k_law_take : PySem.W.keepIn K (.ref f_law_take) = true)
    (a_law_so : PySem.W.nsIn K mainGlobals "_law_so" = some (some (.ref f_law_so)))
    (l_law_so : K.lookup f_law_so = some ⟨oc_law_so, od_law_so, .func (PySem.W.fnOf "_law_so" "_law_so" (defArgs S_law_so) (defBody S_law_so) (defScope S_law_so) .none kV_law_so dc_law_so pm_law_so an_law_so cd_law_so ct_law_so), sl_law_so⟩)
    (c_law_so : PySem.W.codeIn K cd_law_so "_law_so" = true)
    (k_law_so : PySem.W.keepIn K (.ref f_law_so) = true)
    (a_law_loose : PySem.W.nsIn K mainGlobals "_law_loose" = some (some (.ref f_law_loose)))
    (l_law_loose : K.lookup f_law_loose = some ⟨oc_law_loose, od_law_loose, .func (PySem.W.fnOf "_law_loose" "_law_loose" (defArgs S_law_loose) (defBody S_law_loose) (defScope S_law_loose) .none kV_law_loose dc_law_loose pm_law_loose an_law_loose cd_law_loose ct_law_loose), sl_law_loose⟩)
    (c_law_loose : PySem.W.codeIn K cd_law_loose "_law_loose" = true)
    (k_law_loose : PySem.W.keepIn K (.ref f_law_loose) = true)
    (a_law_cond : PySem.W.nsIn K mainGlobals "_law_cond" = some (some (.ref f_law_cond)))
    (l_law_cond : K.lookup f_law_cond = some ⟨oc_law_cond, od_law_cond, .func (PySem.W.fnOf "_law_cond" "_law_cond" (defArgs S_law_cond) (defBody S_law_cond) (defScope S_law_cond) .none kV_law_cond dc_law_cond pm_law_cond an_law_cond cd_law_cond ct_law_cond), sl_law_cond⟩)
    (c_law_cond : PySem.W.codeIn K cd_law_cond "_law_cond" = true)
    (k_law_cond : PySem.W.keepIn K (.ref f_law_cond) = true)
    (a_law_true : PySem.W.nsIn K mainGlobals "_law_true" = some (some (.ref f_law_true)))
    (l_law_true : K.lookup f_law_true = some ⟨oc_law_true, od_law_true, .func (PySem.W.fnOf "_law_true" "_law_true" (defArgs S_law_true) (defBody S_law_true) (defScope S_law_true) .none kV_law_true dc_law_true pm_law_true an_law_true cd_law_true ct_law_true), sl_law_true⟩)
    (c_law_true : PySem.W.codeIn K cd_law_true "_law_true" = true)
    (k_law_true : PySem.W.keepIn K (.ref f_law_true) = true)
    (a_law_facts : PySem.W.nsIn K mainGlobals "_law_facts" = some (some (.ref f_law_facts)))
    (l_law_facts : K.lookup f_law_facts = some ⟨oc_law_facts, od_law_facts, .func (PySem.W.fnOf "_law_facts" "_law_facts" (defArgs S_law_facts) (defBody S_law_facts) (defScope S_law_facts) .none kV_law_facts dc_law_facts pm_law_facts an_law_facts cd_law_facts ct_law_facts), sl_law_facts⟩)
    (c_law_facts : PySem.W.codeIn K cd_law_facts "_law_facts" = true)
    (k_law_facts : PySem.W.keepIn K (.ref f_law_facts) = true)
    (a_law_power : PySem.W.nsIn K mainGlobals "_law_power" = some (some (.ref f_law_power)))
    (l_law_power : K.lookup f_law_power = some ⟨oc_law_power, od_law_power, .func (PySem.W.fnOf "_law_power" "_law_power" (defArgs S_law_power) (defBody S_law_power) (defScope S_law_power) .none kV_law_power dc_law_power pm_law_power an_law_power cd_law_power ct_law_power), sl_law_power⟩)
    (c_law_power : PySem.W.codeIn K cd_law_power "_law_power" = true)
    (k_law_power : PySem.W.keepIn K (.ref f_law_power) = true)
    (a_law_same_world : PySem.W.nsIn K mainGlobals "_law_same_world" = some (some (.ref f_law_same_world)))
    (l_law_same_world : K.lookup f_law_same_world = some ⟨oc_law_same_world, od_law_same_world, .func (PySem.W.fnOf "_law_same_world" "_law_same_world" (defArgs S_law_same_world) (defBody S_law_same_world) (defScope S_law_same_world) .none kV_law_same_world dc_law_same_world pm_law_same_world an_law_same_world cd_law_same_world ct_law_same_world), sl_law_same_world⟩)
    (c_law_same_world : PySem.W.codeIn K cd_law_same_world "_law_same_world" = true)
    (k_law_same_world : PySem.W.keepIn K (.ref f_law_same_world) = true)
    (a_law : PySem.W.nsIn K mainGlobals "law" = some (some (.ref f_law)))
    (l_law : K.lookup f_law = some ⟨oc_law, od_law, .func (PySem.W.fnOf "law" "law" (defArgs S_law) (defBody S_law) (defScope S_law) .none kV_law dc_law pm_law an_law cd_law ct_law), sl_law⟩)
    (c_law : PySem.W.codeIn K cd_law "law" = true)
    (k_law : PySem.W.keepIn K (.ref f_law) = true)
    (g_BadValue : PySem.W.nsIn K mainGlobals "BadValue" = some (some (.ref C_BadValue)))
    (x_BadValue : K.lookup C_BadValue = some (excClassObj nm_BadValue q_BadValue C_BadValue N_BadValue bs_BadValue [.ref C_MethodError, .type "Exception", .type "BaseException", .type "object"] true sn_BadValue su_BadValue ab_BadValue co_BadValue dd_BadValue m0_BadValue m1_BadValue m2_BadValue m3_BadValue m5_BadValue "Exception.__new__"))
    (sa_BadValue : PySem.W.findIn K (.ref C_BadValue) "__setattr__" = some (some (.builtin "object.__setattr__")))
    (ec_BadValue : PySem.W.subIn K (.ref C_BadValue) (.type "BaseException") = some true)
    (ty_BadValue : PySem.W.typeIn K (.ref C_BadValue) = some (.type "type"))
    (kc_BadValue : PySem.W.keepIn K (.ref C_BadValue) = true)
    (ic_BadValue : PySem.W.findIn K (.ref C_BadValue) "__init__" = some (some (.ref f_BadValue_init)))
    (ti_BadValue : PySem.W.typeIn K (.ref f_BadValue_init) = some (.type "function"))
    (l_BadValue_init : K.lookup f_BadValue_init = some ⟨oc_BadValue_init, od_BadValue_init, .func (PySem.W.fnOf "__init__" "BadValue.__init__" (defArgs S_BadValue_init) (defBody S_BadValue_init) (defScope S_BadValue_init) .none kV_BadValue_init dc_BadValue_init pm_BadValue_init an_BadValue_init cd_BadValue_init ct_BadValue_init), sl_BadValue_init⟩)
    (c_BadValue_init : PySem.W.codeIn K cd_BadValue_init "BadValue.__init__" = true)
    (k_BadValue_init : PySem.W.keepIn K (.ref f_BadValue_init) = true)
    (nat_BadValue : PySem.W.findIn K (.ref C_BadValue) "at" = some none)
    (g_BadState : PySem.W.nsIn K mainGlobals "BadState" = some (some (.ref C_BadState)))
    (x_BadState : K.lookup C_BadState = some (excClassObj nm_BadState q_BadState C_BadState N_BadState bs_BadState [.ref C_MethodError, .type "Exception", .type "BaseException", .type "object"] true sn_BadState su_BadState ab_BadState co_BadState dd_BadState m0_BadState m1_BadState m2_BadState m3_BadState m5_BadState "Exception.__new__"))
    (sa_BadState : PySem.W.findIn K (.ref C_BadState) "__setattr__" = some (some (.builtin "object.__setattr__")))
    (ec_BadState : PySem.W.subIn K (.ref C_BadState) (.type "BaseException") = some true)
    (ty_BadState : PySem.W.typeIn K (.ref C_BadState) = some (.type "type"))
    (kc_BadState : PySem.W.keepIn K (.ref C_BadState) = true)
    (ic_BadState : PySem.W.findIn K (.ref C_BadState) "__init__" = some (some (.ref f_BadState_init)))
    (ti_BadState : PySem.W.typeIn K (.ref f_BadState_init) = some (.type "function"))
    (l_BadState_init : K.lookup f_BadState_init = some ⟨oc_BadState_init, od_BadState_init, .func (PySem.W.fnOf "__init__" "BadState.__init__" (defArgs S_BadState_init) (defBody S_BadState_init) (defScope S_BadState_init) .none kV_BadState_init dc_BadState_init pm_BadState_init an_BadState_init cd_BadState_init ct_BadState_init), sl_BadState_init⟩)
    (c_BadState_init : PySem.W.codeIn K cd_BadState_init "BadState.__init__" = true)
    (k_BadState_init : PySem.W.keepIn K (.ref f_BadState_init) = true)
    (nat_BadState : PySem.W.findIn K (.ref C_BadState) "at" = some none)
    (g_World : PySem.W.nsIn K mainGlobals "World" = some (some (.ref C_World)))
    (pg_World : PySem.W.plainGet K C_World Str.empty = true)
    (hd_World : PySem.W.hasDictIn K C_World = true)
    (po_World : PySem.W.plainOver K C_World = true)
    (sa_World : PySem.W.findIn K (.ref C_World) "__setattr__" = some (some (.builtin "object.__setattr__")))
    (mk_World : PySem.W.makesIn K C_World = true)
    (ic_World : PySem.W.findIn K (.ref C_World) "__init__" = some (some (.ref f_World_init)))
    (fn_World : PySem.W.isFn K (.ref f_World_init) = true)
    (kc_World : PySem.W.keepIn K (.ref C_World) = true)
    (l_World_init : K.lookup f_World_init = some ⟨oc_World_init, od_World_init, .func (PySem.W.fnOf "__init__" "World.__init__" (defArgs S_World_init) (defBody S_World_init) (defScope S_World_init) .none kV_World_init dc_World_init pm_World_init an_World_init cd_World_init ct_World_init), sl_World_init⟩)
    (c_World_init : PySem.W.codeIn K cd_World_init "World.__init__" = true)
    (k_World_init : PySem.W.keepIn K (.ref f_World_init) = true)
    (n_facts_World : PySem.W.findIn K (.ref C_World) "_facts" = some none)
    (n_states_World : PySem.W.findIn K (.ref C_World) "_states" = some none)
    (n_moves_World : PySem.W.findIn K (.ref C_World) "_moves" = some none)
    (pa_World_facts : PySem.W.findIn K (.ref C_World) "facts" = some (some (.ref p_World_facts)))
    (pb_World_facts : PySem.W.specialIn K (.ref p_World_facts) "__get__" = some (some (.builtin "property.__get__")))
    (pc_World_facts : PySem.W.takesIn K (.ref p_World_facts) = some true)
    (pd_World_facts : PySem.W.recIn K p_World_facts "property" = some (.ref f_World_facts :: r_World_facts))
    (l_World_facts : K.lookup f_World_facts = some ⟨oc_World_facts, od_World_facts, .func (PySem.W.fnOf "facts" "World.facts" (defArgs S_World_facts) (defBody S_World_facts) (defScope S_World_facts) .none kV_World_facts dc_World_facts pm_World_facts an_World_facts cd_World_facts ct_World_facts), sl_World_facts⟩)
    (c_World_facts : PySem.W.codeIn K cd_World_facts "World.facts" = true)
    (k_World_facts : PySem.W.keepIn K (.ref f_World_facts) = true)
    (pa_World_states : PySem.W.findIn K (.ref C_World) "states" = some (some (.ref p_World_states)))
    (pb_World_states : PySem.W.specialIn K (.ref p_World_states) "__get__" = some (some (.builtin "property.__get__")))
    (pc_World_states : PySem.W.takesIn K (.ref p_World_states) = some true)
    (pd_World_states : PySem.W.recIn K p_World_states "property" = some (.ref f_World_states :: r_World_states))
    (l_World_states : K.lookup f_World_states = some ⟨oc_World_states, od_World_states, .func (PySem.W.fnOf "states" "World.states" (defArgs S_World_states) (defBody S_World_states) (defScope S_World_states) .none kV_World_states dc_World_states pm_World_states an_World_states cd_World_states ct_World_states), sl_World_states⟩)
    (c_World_states : PySem.W.codeIn K cd_World_states "World.states" = true)
    (k_World_states : PySem.W.keepIn K (.ref f_World_states) = true)
    (pa_World_moves : PySem.W.findIn K (.ref C_World) "moves" = some (some (.ref p_World_moves)))
    (pb_World_moves : PySem.W.specialIn K (.ref p_World_moves) "__get__" = some (some (.builtin "property.__get__")))
    (pc_World_moves : PySem.W.takesIn K (.ref p_World_moves) = some true)
    (pd_World_moves : PySem.W.recIn K p_World_moves "property" = some (.ref f_World_moves :: r_World_moves))
    (l_World_moves : K.lookup f_World_moves = some ⟨oc_World_moves, od_World_moves, .func (PySem.W.fnOf "moves" "World.moves" (defArgs S_World_moves) (defBody S_World_moves) (defScope S_World_moves) .none kV_World_moves dc_World_moves pm_World_moves an_World_moves cd_World_moves ct_World_moves), sl_World_moves⟩)
    (c_World_moves : PySem.W.codeIn K cd_World_moves "World.moves" = true)
    (k_World_moves : PySem.W.keepIn K (.ref f_World_moves) = true)
    (z_len : PySem.W.nsIn K mainGlobals "len" = some none)
    (z_range : PySem.W.nsIn K mainGlobals "range" = some none)
    (z_int : PySem.W.nsIn K mainGlobals "int" = some none)
    (z_bool : PySem.W.nsIn K mainGlobals "bool" = some none)
    (z_str : PySem.W.nsIn K mainGlobals "str" = some none)
    (z_tuple : PySem.W.nsIn K mainGlobals "tuple" = some none)
    (z_list : PySem.W.nsIn K mainGlobals "list" = some none)
    (z_all : PySem.W.nsIn K mainGlobals "all" = some none)
    (z_any : PySem.W.nsIn K mainGlobals "any" = some none)
    (z_enumerate : PySem.W.nsIn K mainGlobals "enumerate" = some none)
    (z_isinstance : PySem.W.nsIn K mainGlobals "isinstance" = some none)
    (v_MOST_STATES : PySem.W.nsIn K mainGlobals "MOST_STATES" = some (some (.int 16 t_MOST_STATES)))
    (v_MOST_DEEDS : PySem.W.nsIn K mainGlobals "MOST_DEEDS" = some (some (.int 5 t_MOST_DEEDS)))
    (v_MOST_FACTS : PySem.W.nsIn K mainGlobals "MOST_FACTS" = some (some (.int 4 t_MOST_FACTS))) :
    ∃ fd : FuncData, (∀ (s : Shared) (v : Value), BindsTo s fd ⟨[v], []⟩ [("script", v)]) ∧ ∀ base : Heap, K.In base → base.Ns mainGlobals mg → FnOk P w K mg base CX0 60 fa fd ["script"] (spLaw K) := by
  have T : Bi mg := ⟨PySem.W.mg_none_of KX G z_len, PySem.W.mg_none_of KX G z_range, PySem.W.mg_none_of KX G z_int, PySem.W.mg_none_of KX G z_bool, PySem.W.mg_none_of KX G z_str, PySem.W.mg_none_of KX G z_tuple, PySem.W.mg_none_of KX G z_list, PySem.W.mg_none_of KX G z_all, PySem.W.mg_none_of KX G z_any, PySem.W.mg_none_of KX G z_enumerate, ⟨_, PySem.W.mg_of KX G v_MOST_STATES⟩, ⟨_, PySem.W.mg_of KX G v_MOST_DEEDS⟩, ⟨_, PySem.W.mg_of KX G v_MOST_FACTS⟩, PySem.W.mg_none_of KX G z_isinstance⟩
  have D_is_integer : Def K mg "is_integer" S_is_integer P_is_integer := Def.mk KX G a_is_integer l_is_integer c_is_integer k_is_integer (fun _ _ _ _ _ _ us hl => match us, hl with | [_], _ => rfl)
  have D_is_between : Def K mg "is_between" S_is_between P_is_between := Def.mk KX G a_is_between l_is_between c_is_between k_is_between (fun _ _ _ _ _ _ us hl => match us, hl with | [_, _, _], _ => rfl)
  have D_is_number : Def K mg "is_number" S_is_number P_is_number := Def.mk KX G a_is_number l_is_number c_is_number k_is_number (fun _ _ _ _ _ _ us hl => match us, hl with | [_, _], _ => rfl)
  have D_is_sequence : Def K mg "is_sequence" S_is_sequence P_is_sequence := Def.mk KX G a_is_sequence l_is_sequence c_is_sequence k_is_sequence (fun _ _ _ _ _ _ us hl => match us, hl with | [_], _ => rfl)
  have D_is_row : Def K mg "is_row" S_is_row P_is_row := Def.mk KX G a_is_row l_is_row c_is_row k_is_row (fun _ _ _ _ _ _ us hl => match us, hl with | [_, _, _], _ => rfl)
  have D_is_ascending : Def K mg "is_ascending" S_is_ascending P_is_ascending := Def.mk KX G a_is_ascending l_is_ascending c_is_ascending k_is_ascending (fun _ _ _ _ _ _ us hl => match us, hl with | [_], _ => rfl)
  have D_are_numbers : Def K mg "are_numbers" S_are_numbers P_are_numbers := Def.mk KX G a_are_numbers l_are_numbers c_are_numbers k_are_numbers (fun _ _ _ _ _ _ us hl => match us, hl with | [_, _], _ => rfl)
  have D_are_ascending_numbers : Def K mg "are_ascending_numbers" S_are_ascending_numbers P_are_ascending_numbers := Def.mk KX G a_are_ascending_numbers l_are_ascending_numbers c_are_ascending_numbers k_are_ascending_numbers (fun _ _ _ _ _ _ us hl => match us, hl with | [_, _], _ => rfl)
  have D_are_facts : Def K mg "are_facts" S_are_facts P_are_facts := Def.mk KX G a_are_facts l_are_facts c_are_facts k_are_facts (fun _ _ _ _ _ _ us hl => match us, hl with | [_, _], _ => rfl)
  have D_plain : Def K mg "plain" S_plain P_plain := Def.mk KX G a_plain l_plain c_plain k_plain (fun _ _ _ _ _ _ us hl => match us, hl with | [_], _ => rfl)
  have D_is_wanted_fact : Def K mg "is_wanted_fact" S_is_wanted_fact P_is_wanted_fact := Def.mk KX G a_is_wanted_fact l_is_wanted_fact c_is_wanted_fact k_is_wanted_fact (fun _ _ _ _ _ _ us hl => match us, hl with | [_, _], _ => rfl)
  have D_is_condition : Def K mg "is_condition" S_is_condition P_is_condition := Def.mk KX G a_is_condition l_is_condition c_is_condition k_is_condition (fun _ _ _ _ _ _ us hl => match us, hl with | [_, _], _ => rfl)
  have D_holds : Def K mg "holds" S_holds P_holds := Def.mk KX G a_holds l_holds c_holds k_holds (fun _ _ _ _ _ _ us hl => match us, hl with | [_, _], _ => rfl)
  have D_every_facts : Def K mg "every_facts" S_every_facts P_every_facts := Def.mk KX G a_every_facts l_every_facts c_every_facts k_every_facts (fun _ _ _ _ _ _ us hl => match us, hl with | [_], _ => rfl)
  have D_are_moves : Def K mg "are_moves" S_are_moves P_are_moves := Def.mk KX G a_are_moves l_are_moves c_are_moves k_are_moves (fun _ _ _ _ _ _ us hl => match us, hl with | [_, _, _], _ => rfl)
  have D_need_states : Def K mg "need_states" S_need_states P_need_states := Def.mk KX G a_need_states l_need_states c_need_states k_need_states (fun _ _ _ _ _ _ us hl => match us, hl with | [_, _], _ => rfl)
  have D_need_moves : Def K mg "need_moves" S_need_moves P_need_moves := Def.mk KX G a_need_moves l_need_moves c_need_moves k_need_moves (fun _ _ _ _ _ _ us hl => match us, hl with | [_, _], _ => rfl)
  have D_is_deed_rule : Def K mg "is_deed_rule" S_is_deed_rule P_is_deed_rule := Def.mk KX G a_is_deed_rule l_is_deed_rule c_is_deed_rule k_is_deed_rule (fun _ _ _ _ _ _ us hl => match us, hl with | [_, _], _ => rfl)
  have D_changed : Def K mg "changed" S_changed P_changed := Def.mk KX G a_changed l_changed c_changed k_changed (fun _ _ _ _ _ _ us hl => match us, hl with | [_, _], _ => rfl)
  have D_facts_world : Def K mg "facts_world" S_facts_world P_facts_world := Def.mk KX G a_facts_world l_facts_world c_facts_world k_facts_world (fun _ _ _ _ _ _ us hl => match us, hl with | [_, _], _ => rfl)
  have D_law_numbers : Def K mg "_law_numbers" S_law_numbers P_law_numbers := Def.mk KX G a_law_numbers l_law_numbers c_law_numbers k_law_numbers (fun _ _ _ _ _ _ us hl => match us, hl with | [_], _ => rfl)
  have D_law_draw : Def K mg "_law_draw" S_law_draw P_law_draw := Def.mk KX G a_law_draw l_law_draw c_law_draw k_law_draw (fun _ _ _ _ _ _ us hl => match us, hl with | [_, _, _], _ => rfl)
  have D_law_take : Def K mg "_law_take" S_law_take P_law_take := Def.mk KX G a_law_take l_law_take c_law_take k_law_take (fun _ _ _ _ _ _ us hl => match us, hl with | [_, _, _], _ => rfl)
  have D_law_so : Def K mg "_law_so" S_law_so P_law_so := Def.mk KX G a_law_so l_law_so c_law_so k_law_so (fun _ _ _ _ _ _ us hl => match us, hl with | [_, _], _ => rfl)
  have D_law_loose : Def K mg "_law_loose" S_law_loose P_law_loose := Def.mk KX G a_law_loose l_law_loose c_law_loose k_law_loose (fun _ _ _ _ _ _ us hl => match us, hl with | [_, _], _ => rfl)
  have D_law_cond : Def K mg "_law_cond" S_law_cond P_law_cond := Def.mk KX G a_law_cond l_law_cond c_law_cond k_law_cond (fun _ _ _ _ _ _ us hl => match us, hl with | [_, _, _], _ => rfl)
  have D_law_true : Def K mg "_law_true" S_law_true P_law_true := Def.mk KX G a_law_true l_law_true c_law_true k_law_true (fun _ _ _ _ _ _ us hl => match us, hl with | [_, _], _ => rfl)
  have D_law_facts : Def K mg "_law_facts" S_law_facts P_law_facts := Def.mk KX G a_law_facts l_law_facts c_law_facts k_law_facts (fun _ _ _ _ _ _ us hl => match us, hl with | [_, _], _ => rfl)
  have D_law_power : Def K mg "_law_power" S_law_power P_law_power := Def.mk KX G a_law_power l_law_power c_law_power k_law_power (fun _ _ _ _ _ _ us hl => match us, hl with | [_], _ => rfl)
  have D_law_same_world : Def K mg "_law_same_world" S_law_same_world P_law_same_world := Def.mk KX G a_law_same_world l_law_same_world c_law_same_world k_law_same_world (fun _ _ _ _ _ _ us hl => match us, hl with | [_, _], _ => rfl)
  have D_BadValue : XDef K mg "BadValue" "BadValue.__init__" C_BadValue S_BadValue_init P_BadValue_init := ⟨PySem.W.mg_of KX G g_BadValue, ⟨⟨_, _, _, _, [C_MethodError], _, _, _, _, _, _, _, _, _, _, x_BadValue⟩, sa_BadValue, ec_BadValue, ty_BadValue, kc_BadValue⟩, _, _, ic_BadValue, ti_BadValue, fun_mk (st := S_BadValue_init) l_BadValue_init c_BadValue_init k_BadValue_init, (fun_mk (st := S_BadValue_init) l_BadValue_init c_BadValue_init k_BadValue_init).binds (fun _ _ _ _ _ _ us hl => match us, hl with | [_, _], _ => rfl)⟩
  have D_BadState : XDef K mg "BadState" "BadState.__init__" C_BadState S_BadState_init P_BadState_init := ⟨PySem.W.mg_of KX G g_BadState, ⟨⟨_, _, _, _, [C_MethodError], _, _, _, _, _, _, _, _, _, _, x_BadState⟩, sa_BadState, ec_BadState, ty_BadState, kc_BadState⟩, _, _, ic_BadState, ti_BadState, fun_mk (st := S_BadState_init) l_BadState_init c_BadState_init k_BadState_init, (fun_mk (st := S_BadState_init) l_BadState_init c_BadState_init k_BadState_init).binds (fun _ _ _ _ _ _ us hl => match us, hl with | [_, _], _ => rfl)⟩
  have cl : Cls K C_World := ⟨pg_World, hd_World, po_World, sa_World⟩
  have D_World : CDef K mg "World" "World.__init__" C_World S_World_init P_World_init := ⟨PySem.W.mg_of KX G g_World, cl, _, _, ⟨mk_World, ic_World, fn_World, kc_World⟩, fun_mk (st := S_World_init) l_World_init c_World_init k_World_init, (fun_mk (st := S_World_init) l_World_init c_World_init k_World_init).binds (fun _ _ _ _ _ _ us hl => match us, hl with | [_, _, _, _], _ => rfl)⟩
  have wa : WAttr K C_World := ⟨n_facts_World, n_states_World, n_moves_World⟩
  have G_facts : PDef K C_World "facts" "World.facts" S_World_facts := ⟨cl, _, _, _, ⟨pa_World_facts, pb_World_facts, pc_World_facts, ⟨_, pd_World_facts⟩⟩, fun_mk (st := S_World_facts) l_World_facts c_World_facts k_World_facts, (fun_mk (st := S_World_facts) l_World_facts c_World_facts k_World_facts).binds (fun _ _ _ _ _ _ us hl => match us, hl with | [_], _ => rfl)⟩
  have G_states : PDef K C_World "states" "World.states" S_World_states := ⟨cl, _, _, _, ⟨pa_World_states, pb_World_states, pc_World_states, ⟨_, pd_World_states⟩⟩, fun_mk (st := S_World_states) l_World_states c_World_states k_World_states, (fun_mk (st := S_World_states) l_World_states c_World_states k_World_states).binds (fun _ _ _ _ _ _ us hl => match us, hl with | [_], _ => rfl)⟩
  have G_moves : PDef K C_World "moves" "World.moves" S_World_moves := ⟨cl, _, _, _, ⟨pa_World_moves, pb_World_moves, pc_World_moves, ⟨_, pd_World_moves⟩⟩, fun_mk (st := S_World_moves) l_World_moves c_World_moves k_World_moves, (fun_mk (st := S_World_moves) l_World_moves c_World_moves k_World_moves).binds (fun _ _ _ _ _ _ us hl => match us, hl with | [_], _ => rfl)⟩
  obtain rfl : f_law = fa := by have z := PySem.W.mg_of KX G a_law; rw [hfa] at z; cases z; rfl
  obtain ⟨fd, hfd, F⟩ : ∃ fd, (∀ (s : Shared) (v : Value), BindsTo s fd ⟨[v], []⟩ [("script", v)]) ∧ Fun K "law" "law" S_law f_law fd := by
    refine ⟨_, ?_, fun_mk (st := S_law) l_law c_law k_law⟩
    exact fun s v => .of_eq rfl
  refine ⟨fd, hfd, fun base _ _ => ?_⟩
  have X_BadValue := exc_BadValue (P := P) (w := w) (base := base) D_BadValue nat_BadValue
  have X_BadState := exc_BadState (P := P) (w := w) (base := base) D_BadState nat_BadState
  have C_is_integer := cal_is_integer (P := P) (w := w) (base := base) T D_is_integer
  have C_is_between := cal_is_between T C_is_integer D_is_between
  have C_is_number := cal_is_number T C_is_between D_is_number
  have C_is_sequence := cal_is_sequence (P := P) (w := w) (base := base) T D_is_sequence
  have C_is_row := cal_is_row T C_is_sequence D_is_row
  have C_are_facts := cal_are_facts T C_is_row D_are_facts
  have C_is_ascending := cal_is_ascending (P := P) (w := w) (base := base) T D_is_ascending
  have C_plain := cal_plain T C_is_sequence D_plain
  have C_are_numbers := cal_are_numbers T (C_is_sequence.mono (by omega)) C_is_number D_are_numbers
  have C_are_ascending_numbers := cal_are_ascending_numbers T C_are_numbers (C_is_ascending.mono (by omega)) D_are_ascending_numbers
  have C_is_wanted_fact := cal_is_wanted_fact T (C_is_row.mono (by omega)) C_is_number D_is_wanted_fact
  have C_is_condition := cal_is_condition T (C_is_sequence.mono (by omega)) C_is_wanted_fact (C_is_ascending.mono (by omega)) D_is_condition
  have C_are_moves := cal_are_moves T (C_is_row.mono (by omega)) C_is_number D_are_moves
  have C_need_states := cal_need_states (cs := fun i => Nat.casesOn i C_BadValue fun _ => C_BadState) T X_BadValue X_BadState (C_is_row.mono (by omega)) C_are_facts D_need_states
  have C_need_moves := cal_need_moves (cs := fun i => Nat.casesOn i C_BadValue fun _ => C_BadState) T X_BadValue X_BadState (C_is_row.mono (by omega)) C_are_moves D_need_moves
  have N_World := new_world (cs := fun i => Nat.casesOn i C_BadValue fun _ => C_BadState) (n := 4) T X_BadValue (C_is_between.mono (by omega)) (C_need_states.mono (by omega)) (C_need_moves.mono (by omega)) ((C_plain 5).mono (by omega)) D_World wa
  have C_holds := cal_holds (P := P) (w := w) (base := base) T D_holds
  have C_is_deed_rule := cal_is_deed_rule T (C_is_row.mono (by omega)) (C_is_condition.mono (by omega)) (C_are_ascending_numbers.mono (by omega)) D_is_deed_rule
  have C_changed := cal_changed (P := P) (w := w) (base := base) T D_changed
  have C_every_facts := cal_every_facts (P := P) (w := w) (base := base) T D_every_facts
  have C_facts_world := world_facts (cs := fun i => Nat.casesOn i C_BadValue fun _ => C_BadState) (n := 1) T X_BadValue (C_is_between.mono (by omega)) (C_is_row.mono (by omega)) (C_is_deed_rule.mono (by omega)) (C_holds.mono (by omega)) (C_changed.mono (by omega)) (C_every_facts.mono (by omega)) N_World D_facts_world
  have C_law_numbers := cal_numbers (P := P) (w := w) (base := base) T D_law_numbers
  have C_law_draw := cal_draw (P := P) (w := w) (base := base) T D_law_draw
  have C_law_take := cal_take T C_law_draw D_law_take
  have C_law_so := cal_so (P := P) (w := w) (base := base) T D_law_so
  have C_law_loose := cal_loose (P := P) (w := w) (base := base) T D_law_loose
  have C_law_cond := cal_cond T C_law_take D_law_cond
  have C_law_true := cal_true (P := P) (w := w) (base := base) T D_law_true
  have C_law_facts := cal_facts (P := P) (w := w) (base := base) T D_law_facts
  have C_law_power := cal_power (P := P) (w := w) (base := base) T D_law_power
  have C_law_same_world := cal_same_world (n := 2) T ((C_law_so 3).mono (by omega)) (get_facts G_facts wa) (get_states G_states wa) (get_moves G_moves wa) D_law_same_world
  exact (fn_law (n := 0) (m := 0) (k := 20) T (C_law_numbers.mono (by omega)) (C_law_take.mono (by omega)) (C_law_cond.mono (by omega)) (C_law_facts.mono (by omega)) (C_law_power.mono (by omega)) (C_law_true.mono (by omega)) ((C_law_loose 5).mono (by omega)) (C_facts_world.mono (by omega)) (C_law_same_world.mono (by omega)) F).mono (by omega)
end Mw
open PySem PySem.W PyProof.Rows in
set_option maxRecDepth 100000 in
set_option maxHeartbeats 0 in
theorem PySem.Challenge.cw_methodworlds_k04_worlds_of_facts_holds : PySem.Challenge.rw_methodworlds_k04_worlds_of_facts.Holds := by
  w_on; o_law; k_head; (case hw => w_witness2)
  k_fill
  refine Mw.walkL (l := PySem.Challenge.rw_methodworlds_k04_worlds_of_facts) rfl rfl (fun w h Y => PySem.W.kIn_of Y) ?F
  case F =>
    intro w mg fa h KX G hmg
    refine' Mw.all_mk KX G hmg ?a_is_integer ?l_is_integer ?c_is_integer ?k_is_integer ?a_is_between ?l_is_between ?c_is_between ?k_is_between ?a_is_number ?l_is_number ?c_is_number ?k_is_number ?a_is_sequence ?l_is_sequence ?c_is_sequence ?k_is_sequence ?a_is_row ?l_is_row ?c_is_row ?k_is_row ?a_is_ascending ?l_is_ascending ?c_is_ascending ?k_is_ascending ?a_are_numbers ?l_are_numbers ?c_are_numbers ?k_are_numbers ?a_are_ascending_numbers ?l_are_ascending_numbers ?c_are_ascending_numbers ?k_are_ascending_numbers ?a_are_facts ?l_are_facts ?c_are_facts ?k_are_facts ?a_plain ?l_plain ?c_plain ?k_plain ?a_is_wanted_fact ?l_is_wanted_fact ?c_is_wanted_fact ?k_is_wanted_fact ?a_is_condition ?l_is_condition ?c_is_condition ?k_is_condition ?a_holds ?l_holds ?c_holds ?k_holds ?a_every_facts ?l_every_facts ?c_every_facts ?k_every_facts ?a_are_moves ?l_are_moves ?c_are_moves ?k_are_moves ?a_need_states ?l_need_states ?c_need_states ?k_need_states ?a_need_moves ?l_need_moves ?c_need_moves ?k_need_moves ?a_is_deed_rule ?l_is_deed_rule ?c_is_deed_rule ?k_is_deed_rule ?a_changed ?l_changed ?c_changed ?k_changed ?a_facts_world ?l_facts_world ?c_facts_world ?k_facts_world ?a_law_numbers ?l_law_numbers ?c_law_numbers ?k_law_numbers ?a_law_draw ?l_law_draw ?c_law_draw ?k_law_draw ?a_law_take ?l_law_take ?c_law_take ?k_law_take ?a_law_so ?l_law_so ?c_law_so ?k_law_so ?a_law_loose ?l_law_loose ?c_law_loose ?k_law_loose ?a_law_cond ?l_law_cond ?c_law_cond ?k_law_cond ?a_law_true ?l_law_true ?c_law_true ?k_law_true ?a_law_facts ?l_law_facts ?c_law_facts ?k_law_facts ?a_law_power ?l_law_power ?c_law_power ?k_law_power ?a_law_same_world ?l_law_same_world ?c_law_same_world ?k_law_same_world ?a_law ?l_law ?c_law ?k_law ?g_BadValue ?x_BadValue ?sa_BadValue ?ec_BadValue ?ty_BadValue ?kc_BadValue ?ic_BadValue ?ti_BadValue ?l_BadValue_init ?c_BadValue_init ?k_BadValue_init ?nat_BadValue ?g_BadState ?x_BadState ?sa_BadState ?ec_BadState ?ty_BadState ?kc_BadState ?ic_BadState ?ti_BadState ?l_BadState_init ?c_BadState_init ?k_BadState_init ?nat_BadState ?g_World ?pg_World ?hd_World ?po_World ?sa_World ?mk_World ?ic_World ?fn_World ?kc_World ?l_World_init ?c_World_init ?k_World_init ?n_facts_World ?n_states_World ?n_moves_World ?pa_World_facts ?pb_World_facts ?pc_World_facts ?pd_World_facts ?l_World_facts ?c_World_facts ?k_World_facts ?pa_World_states ?pb_World_states ?pc_World_states ?pd_World_states ?l_World_states ?c_World_states ?k_World_states ?pa_World_moves ?pb_World_moves ?pc_World_moves ?pd_World_moves ?l_World_moves ?c_World_moves ?k_World_moves ?z_len ?z_range ?z_int ?z_bool ?z_str ?z_tuple ?z_list ?z_all ?z_any ?z_enumerate ?z_isinstance ?v_MOST_STATES ?v_MOST_DEEDS ?v_MOST_FACTS
    (case a_is_integer => k_is)
    (case l_is_integer => k_is)
    (case c_is_integer => k_is)
    (case k_is_integer => k_is)
    (case a_is_between => k_is)
    (case l_is_between => k_is)
    (case c_is_between => k_is)
    (case k_is_between => k_is)
    (case a_is_number => k_is)
    (case l_is_number => k_is)
    (case c_is_number => k_is)
    (case k_is_number => k_is)
    (case a_is_sequence => k_is)
    (case l_is_sequence => k_is)
    (case c_is_sequence => k_is)
    (case k_is_sequence => k_is)
    (case a_is_row => k_is)
    (case l_is_row => k_is)
    (case c_is_row => k_is)
    (case k_is_row => k_is)
    (case a_is_ascending => k_is)
    (case l_is_ascending => k_is)
    (case c_is_ascending => k_is)
    (case k_is_ascending => k_is)
    (case a_are_numbers => k_is)
    (case l_are_numbers => k_is)
    (case c_are_numbers => k_is)
    (case k_are_numbers => k_is)
    (case a_are_ascending_numbers => k_is)
    (case l_are_ascending_numbers => k_is)
    (case c_are_ascending_numbers => k_is)
    (case k_are_ascending_numbers => k_is)
    (case a_are_facts => k_is)
    (case l_are_facts => k_is)
    (case c_are_facts => k_is)
    (case k_are_facts => k_is)
    (case a_plain => k_is)
    (case l_plain => k_is)
    (case c_plain => k_is)
    (case k_plain => k_is)
    (case a_is_wanted_fact => k_is)
    (case l_is_wanted_fact => k_is)
    (case c_is_wanted_fact => k_is)
    (case k_is_wanted_fact => k_is)
    (case a_is_condition => k_is)
    (case l_is_condition => k_is)
    (case c_is_condition => k_is)
    (case k_is_condition => k_is)
    (case a_holds => k_is)
    (case l_holds => k_is)
    (case c_holds => k_is)
    (case k_holds => k_is)
    (case a_every_facts => k_is)
    (case l_every_facts => k_is)
    (case c_every_facts => k_is)
    (case k_every_facts => k_is)
    (case a_are_moves => k_is)
    (case l_are_moves => k_is)
    (case c_are_moves => k_is)
    (case k_are_moves => k_is)
    (case a_need_states => k_is)
    (case l_need_states => k_is)
    (case c_need_states => k_is)
    (case k_need_states => k_is)
    (case a_need_moves => k_is)
    (case l_need_moves => k_is)
    (case c_need_moves => k_is)
    (case k_need_moves => k_is)
    (case a_is_deed_rule => k_is)
    (case l_is_deed_rule => k_is)
    (case c_is_deed_rule => k_is)
    (case k_is_deed_rule => k_is)
    (case a_changed => k_is)
    (case l_changed => k_is)
    (case c_changed => k_is)
    (case k_changed => k_is)
    (case a_facts_world => k_is)
    (case l_facts_world => k_is)
    (case c_facts_world => k_is)
    (case k_facts_world => k_is)
    (case a_law_numbers => k_is)
    (case l_law_numbers => k_is)
    (case c_law_numbers => k_is)
    (case k_law_numbers => k_is)
    (case a_law_draw => k_is)
    (case l_law_draw => k_is)
    (case c_law_draw => k_is)
    (case k_law_draw => k_is)
    (case a_law_take => k_is)
    (case l_law_take => k_is)
    (case c_law_take => k_is)
    (case k_law_take => k_is)
    (case a_law_so => k_is)
    (case l_law_so => k_is)
    (case c_law_so => k_is)
    (case k_law_so => k_is)
    (case a_law_loose => k_is)
    (case l_law_loose => k_is)
    (case c_law_loose => k_is)
    (case k_law_loose => k_is)
    (case a_law_cond => k_is)
    (case l_law_cond => k_is)
    (case c_law_cond => k_is)
    (case k_law_cond => k_is)
    (case a_law_true => k_is)
    (case l_law_true => k_is)
    (case c_law_true => k_is)
    (case k_law_true => k_is)
    (case a_law_facts => k_is)
    (case l_law_facts => k_is)
    (case c_law_facts => k_is)
    (case k_law_facts => k_is)
    (case a_law_power => k_is)
    (case l_law_power => k_is)
    (case c_law_power => k_is)
    (case k_law_power => k_is)
    (case a_law_same_world => k_is)
    (case l_law_same_world => k_is)
    (case c_law_same_world => k_is)
    (case k_law_same_world => k_is)
    (case a_law => k_is)
    (case l_law => k_is)
    (case c_law => k_is)
    (case k_law => k_is)
    (case g_BadValue => k_is)
    (case x_BadValue => k_is)
    (case sa_BadValue => k_is)
    (case ec_BadValue => k_is)
    (case ty_BadValue => k_is)
    (case kc_BadValue => k_is)
    (case ic_BadValue => k_is)
    (case ti_BadValue => k_is)
    (case l_BadValue_init => k_is)
    (case c_BadValue_init => k_is)
    (case k_BadValue_init => k_is)
    (case nat_BadValue => k_is)
    (case g_BadState => k_is)
    (case x_BadState => k_is)
    (case sa_BadState => k_is)
    (case ec_BadState => k_is)
    (case ty_BadState => k_is)
    (case kc_BadState => k_is)
    (case ic_BadState => k_is)
    (case ti_BadState => k_is)
    (case l_BadState_init => k_is)
    (case c_BadState_init => k_is)
    (case k_BadState_init => k_is)
    (case nat_BadState => k_is)
    (case g_World => k_is)
    (case pg_World => k_is)
    (case hd_World => k_is)
    (case po_World => k_is)
    (case sa_World => k_is)
    (case mk_World => k_is)
    (case ic_World => k_is)
    (case fn_World => k_is)
    (case kc_World => k_is)
    (case l_World_init => k_is)
    (case c_World_init => k_is)
    (case k_World_init => k_is)
    (case n_facts_World => k_is)
    (case n_states_World => k_is)
    (case n_moves_World => k_is)
    (case pa_World_facts => k_is)
    (case pb_World_facts => k_is)
    (case pc_World_facts => k_is)
    (case pd_World_facts => k_is)
    (case l_World_facts => k_is)
    (case c_World_facts => k_is)
    (case k_World_facts => k_is)
    (case pa_World_states => k_is)
    (case pb_World_states => k_is)
    (case pc_World_states => k_is)
    (case pd_World_states => k_is)
    (case l_World_states => k_is)
    (case c_World_states => k_is)
    (case k_World_states => k_is)
    (case pa_World_moves => k_is)
    (case pb_World_moves => k_is)
    (case pc_World_moves => k_is)
    (case pd_World_moves => k_is)
    (case l_World_moves => k_is)
    (case c_World_moves => k_is)
    (case k_World_moves => k_is)
    (case z_len => k_is)
    (case z_range => k_is)
    (case z_int => k_is)
    (case z_bool => k_is)
    (case z_str => k_is)
    (case z_tuple => k_is)
    (case z_list => k_is)
    (case z_all => k_is)
    (case z_any => k_is)
    (case z_enumerate => k_is)
    (case z_isinstance => k_is)
    (case v_MOST_STATES => k_is)
    (case v_MOST_DEEDS => k_is)
    (case v_MOST_FACTS => k_is)
