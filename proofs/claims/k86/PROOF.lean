import PyProof.Rows.All
import Wide.All
import OpenK.AllK
import Wide.FinOn
import KE.KExcInit
import KE.KExcIs
import PyProof.ListStr
import PyProof.FitsInt
import HandS.ExcInit
import HandS.ExcField
import HandS.ExcIs
import HandS.IsInst
import HandS.Words
import HandS.WordsList
import HandS.Wide
import HandS.Comp
import HandS.Text
import HandS.Iter
import HandS.Walk
import KE.KCallOwn
import OpenK.KMeth
import OpenK.KOps
import HandS.Exc
import HandS.ExcOwn
import HandS.WordsExc
import HandS.ClsMeth
import HandS.More
import HandS.Property
import HandS.FStr
import HandS.Star
import KE.KOpsOwn
import PyProof.Conv_bool
import PyProof.Rows.TupMore
import HandS.TryMany
import HandS.TryOnly
import HandS.List
import PySem.Challenge.RW_heirsback_k86_families_made
import HandS.DictComp
import HandS.OwnEq
import HandS.Defaults
import HandS.AnyAll
import HandS.StrMore
import HandS.Style
import KE.KExcLine
set_option Elab.async false
set_option linter.all false
set_option maxRecDepth 100000
set_option maxHeartbeats 8000000
/-! own exceptions held as values: made by their own __init__, their fields stored and read, isinstance -/
namespace EV
open PySem PySem.Spec PyProof.Rows L2 PySem.Builtin PySem.Builtin.ObjectAttr
abbrev Fg := PySem.W.Frag
/-- what the text says of an own exception class at C -/
structure XCls (K : Fg) (C : Addr) : Prop where
  base : ∃ (B nI iI : String) (bmB : List Value), ExcBaseFacts B nI iI bmB ∧ StoreFacts B bmB "object.__setattr__" "object" ∧
    PySem.W.excInitIn K C bmB nI = true ∧ PySem.W.excOver K C bmB = true
  sa : PySem.W.findIn K (.ref C) "__setattr__" = some (some (.builtin "object.__setattr__"))
  ex : ExcC K C
  kC : PySem.W.keepIn K (.ref C) = true
section
variable {X : Cx} {pins : List (Addr × Obj)} {σ : L2.St} {H : Hp} {s : Shared} {a C dx : Addr} {f : Str} {y : V} {u : Value}
variable {fs : List (Str × V)} {Q : Unit → Shared → Prop} {E : Value → Shared → Prop} {A : Around}

/-- the first field -/
theorem put_first (T : XCls X.K C) (I : Inv X pins σ H s) (e : H a = some (exo a C none)) (no : NoAttr X.K C f) (ry : RelV y u)
    (h : ∀ dx s', H dx = none → dx ≠ a → Inv X pins σ (upd (upd H dx (exd dx [(f, y)])) a (exo a C (some dx))) s' → Q () s') :
    wpAny (model X.prog X.w) A (setAttr (.ref a) f u) Q E s := by
  obtain ⟨B, nI, iI, bmB, FB, SF, q1, q2⟩ := T.base
  obtain ⟨t1, ho⟩ := exo_at I.hok e
  obtain ⟨hp, g, d, t, os⟩ := s
  have J : PySem.W.InstAt hp a { cls := .ref C, dict := none, data := .fields #[.ref t1, .none, .none, .none, .bool false, .none] } C none :=
    ⟨ho, rfl, rfl, trivial⟩
  refine PySem.W.set_plain I.kIn J T.sa ?_
  refine PySem.W.osa_openX (s := ⟨hp, g, d, t + 1, os⟩) (r := none) SF I.kIn J q2 no.taker fun b => ?_
  show wpAny _ _ (storeInOwnDict (.ref a) (.ref C) (.str f t) f u b) _ _ _
  obtain ⟨cd, hc, hh⟩ := PySem.W.any_some T.ex.hd
  have hcls : PySem.W.Looks (model X.prog X.w) hp (classData C) cd := PySem.W.looks_clsIn I.kIn hc
  have hxs : a ≠ hp.objs.size := Nat.ne_of_lt (Heap.lt_size ho)
  obtain ⟨nm, bs, mro, ns, qn, hd, sn, sb, ab, col, del⟩ := cd
  dsimp only at hh
  subst hh
  unfold storeInOwnDict ownDictForStores
  repeat (first
    | with_reducible refine PySem.HandSPX.store_in_new ?_ ?_
    | with_reducible refine wpAny_loadPart_at ho ?_
    | with_reducible refine hcls.at ?_
    | wp_step)
  · exact ⟨_, #[], _, (Heap.get?_update_ne _ _ _ _ hxs.symm).trans (Heap.get?_push_at rfl rfl), rfl, fun z hz => absurd hz (by simp), fun _ => rfl⟩
  · intro h' tk' hn hs
    have en : H hp.objs.size = none := I.hok.fresh (Nat.le_refl _)
    have g1 : (hp.push { cls := .type "dict", data := .dict #[] }).get? hp.objs.size = some { cls := .type "dict", data := .dict #[] } :=
      Heap.get?_push_size hp rfl
    have e3 : (hp.push { cls := .type "dict", data := .dict #[] }).Ns hp.objs.size (fun _ => none) :=
      ⟨_, #[], _, g1, rfl, fun z hz => absurd hz (by simp), fun _ => rfl⟩
    have I1 := I.laid (a := hp.objs.size) (o := exd hp.objs.size []) (t' := tk') (h' := hp.push { cls := .type "dict", data := .dict #[] })
      (fun b o q => Heap.get?_push_of_some _ q) (Nat.le_refl _) (exd_ok (fs := []) (Heap.Ns1.of_empty e3) fun _ => True.intro)
    have g2 := Heap.get?_push_of_some (h := hp) { cls := .type "dict", data := .dict #[] } ho
    have ga := Heap.get?_update_self (fun o : Obj => { cls := o.cls, dict := some hp.objs.size, data := o.data, slots := o.slots }) g2 rfl
    have I2 := I1.write (x := a) (e := a) (o := exo a C (some hp.objs.size)) (t' := tk')
      (h' := (hp.push { cls := .type "dict", data := .dict #[] }).update a fun o => { cls := o.cls, dict := some hp.objs.size, data := o.data, slots := o.slots })
      (by rw [upd_ne hxs, e]; exact True.intro) (.inl rfl) (fun b o hb q => (Heap.get?_update_ne _ _ _ _ hb).trans q) ⟨_, ga⟩ (exo_ok ga)
    have I3 := I2.write (x := hp.objs.size) (e := hp.objs.size) (o := exd hp.objs.size [(f, y)]) (t' := tk') (h' := h')
      (by rw [upd_ne hxs.symm, upd_same]; exact True.intro) (.inl rfl) (fun b o hb q => (hs.2 b hb).trans q)
      (let ⟨o, _, _, z, _⟩ := hn; ⟨o, z⟩) (exd_ok hn (relO_put (fs := []) ry fun _ => True.intro))
    have eu : upd (upd (upd H hp.objs.size (exd hp.objs.size [])) a (exo a C (some hp.objs.size))) hp.objs.size (exd hp.objs.size [(f, y)])
        = upd (upd H hp.objs.size (exd hp.objs.size [(f, y)])) a (exo a C (some hp.objs.size)) := by
      funext b
      unfold upd
      by_cases h1 : b = a
      · subst h1
        rw [if_neg hxs, if_pos rfl, if_pos rfl]
      · by_cases h2 : b = hp.objs.size
        · rw [if_pos h2, if_neg h1, if_pos h2]
        · rw [if_neg h2, if_neg h1, if_neg h2, if_neg h1, if_neg h2]
    rw [eu] at I3
    exact h hp.objs.size _ en hxs.symm I3
/-- a further field -/
theorem put_more (T : XCls X.K C) (I : Inv X pins σ H s) (e : H a = some (exo a C (some dx))) (ed : H dx = some (exd dx fs)) (hl : fs.length ≤ 900)
    (no : NoAttr X.K C f) (ry : RelV y u) (h : ∀ s', Inv X pins σ (upd H dx (exd dx ((f, y) :: fs))) s' → Q () s') :
    wpAny (model X.prog X.w) A (setAttr (.ref a) f u) Q E s := by
  obtain ⟨B, nI, iI, bmB, FB, SF, q1, q2⟩ := T.base
  obtain ⟨t1, ho⟩ := exo_at I.hok e
  obtain ⟨mA, hns, rel⟩ := exd_at I.hok ed
  have hw := within_of rel
  obtain ⟨hp, g, d, t, os⟩ := s
  obtain ⟨oD, esD, epD, hoD, hdD, _⟩ := hns.count hw
  have J : PySem.W.InstAt hp a { cls := .ref C, dict := some dx, data := .fields #[.ref t1, .none, .none, .none, .bool false, .none] } C (some oD) :=
    ⟨ho, rfl, rfl, hoD⟩
  refine PySem.W.set_plain I.kIn J T.sa ?_
  refine PySem.W.osa_openX (s := ⟨hp, g, d, t + 1, os⟩) (r := none) SF I.kIn J q2 no.taker fun b => ?_
  show wpAny _ _ (storeInOwnDict (.ref a) (.ref C) (.str f t) f u b) _ _ _
  obtain ⟨cd, hc, hh⟩ := PySem.W.any_some T.ex.hd
  have hcls : PySem.W.Looks (model X.prog X.w) hp (classData C) cd := PySem.W.looks_clsIn I.kIn hc
  obtain ⟨nm, bs, mro, ns, qn, hd, sn, sb, ab, col, del⟩ := cd
  dsimp only at hh
  subst hh
  unfold storeInOwnDict ownDictForStores
  repeat (first
    | with_reducible refine PySem.OEX.store_in_old hns hw ?_ ?_
    | with_reducible refine wpAny_loadPart_at ho ?_
    | with_reducible refine hcls.at ?_
    | wp_step)
  · rw [List.length_map]; omega
  · intro h' tk' hn hs
    have hd : ∃ o, h'.get? dx = some o := by
      obtain ⟨o, _, _, z, _⟩ := hn
      exact ⟨o, z⟩
    exact h _ (I.write (t' := tk') (x := dx) (e := dx) (o := exd dx ((f, y) :: fs)) (by rw [ed]; exact True.intro) (.inl rfl)
      (fun b o hb q => (hs.2 b hb).trans q) hd (exd_ok hn (relO_put ry rel)))
end
/-! ### the statement self.f = e -/
/-- the error at a is of the class at C, its fields are fs -/
def ErrAt (H : Hp) (a C : Addr) (fs : List (Str × V)) : Prop := ∃ d, H a = some (exo a C (some d)) ∧ H d = some (exd d fs)
section
variable {X : Cx} {o e : Expr} {es : List Expr} {to te : TE} {ta : TA} {f : Str} {p p' pos : Pos} {C : Addr}
def tPut1 (K : Fg) (f : Str) (to te : TE) : TS := fun D σ H => te σ H fun y H1 => to σ H1 fun x H2 => ∃ a C : Addr, x = .ref a ∧ XCls K C ∧ NoAttr K C f ∧
  H2 a = some (exo a C none) ∧ ∀ dx, H2 dx = none → dx ≠ a → D.nx σ (upd (upd H2 dx (exd dx [(f, y)])) a (exo a C (some dx)))
def tPut2 (K : Fg) (f : Str) (to te : TE) : TS := fun D σ H => te σ H fun y H1 => to σ H1 fun x H2 => ∃ (a C dx : Addr) (fs : List (Str × V)), x = .ref a ∧ XCls K C ∧ NoAttr K C f ∧
  H2 a = some (exo a C (some dx)) ∧ H2 dx = some (exd dx fs) ∧ fs.length ≤ 900 ∧ D.nx σ (upd H2 dx (exd dx ((f, y) :: fs)))
theorem ps_put1 (ho : PE X o to) (he : PE X e te) (hs : swapsWith e (some (.Attribute o f p')) pos.line X.env = pure false := by rfl) :
    PS X (.Assign [.Attribute o f p'] e pos) (tPut1 X.K f to te) := by
  refine ⟨fun pins s σ H D I h => ?_⟩
  refine plainObj_wpAny_Assign_Attribute (thn (he.run pins s σ H _ I h) fun v s1 hv => ?_) hs
  obtain ⟨y, H1, I1, r1, q1⟩ := hv
  refine thn (ho.run pins s1 σ H1 _ I1 q1) fun u s2 hu => ?_
  obtain ⟨x, H2, I2, r2, a, C, ex, T, no, ea, q⟩ := hu
  subst ex
  obtain rfl : u = Value.ref a := r2
  exact put_first T I2 ea no r1 fun dx s' n ne J => ⟨σ, _, J, q dx n ne⟩
theorem ps_put2 (ho : PE X o to) (he : PE X e te) (hs : swapsWith e (some (.Attribute o f p')) pos.line X.env = pure false := by rfl) :
    PS X (.Assign [.Attribute o f p'] e pos) (tPut2 X.K f to te) := by
  refine ⟨fun pins s σ H D I h => ?_⟩
  refine plainObj_wpAny_Assign_Attribute (thn (he.run pins s σ H _ I h) fun v s1 hv => ?_) hs
  obtain ⟨y, H1, I1, r1, q1⟩ := hv
  refine thn (ho.run pins s1 σ H1 _ I1 q1) fun u s2 hu => ?_
  obtain ⟨x, H2, I2, r2, a, C, dx, fs, ex, T, no, ea, ed, hl, q⟩ := hu
  subst ex
  obtain rfl : u = Value.ref a := r2
  exact put_more T I2 ea ed hl no r1 fun s' J => ⟨σ, _, J, q⟩
/-! ### C(e, ..), a new error as a value -/
def tNew (C : Addr) (sp : Sp) (dvs : List V) (ta : TA) : TE := fun σ H Q => ta σ H fun vs H1 => vs.length ≤ 1000 ∧ ∀ a, H1 a = none →
  sp (.ref a :: (vs ++ dvs)) (upd H1 a (exo a C none)) (fun v H2 => v = .non ∧ Q (.ref a) H2) (fun _ _ _ => False)
theorem pe_new {CX : CXT} {x : Str} {fI : Addr} {k : Nat} {fd : FuncData} {ps : List Str} {sp : Sp} {ds : List Value} {dvs : List V} (T : XCls X.K C)
    (iC : PySem.W.findIn X.K (.ref C) "__init__" = some (some (.ref fI))) (tI : PySem.W.isFn X.K (.ref fI) = true)
    (F1 : FnOk X.prog X.w X.K X.mg X.base CX k fI fd ps sp) (hr : Room (k + 1) X.A) (hb : Binds X.K fd ps ds) (hd : Vals dvs ds)
    (hx : Passes CX X (fun _ _ _ => False)) (hg : Gl X x) (hm : X.mg x = some (.ref C)) (ha : PA X (e :: es) ta)
    (hdb : (x == ("__debug__" : Str)) = false := by decide) (he : starEach (e :: es) X.env = (false, eval e X.env) :: starEach es X.env := by rfl)
    (hpl : (backTo pos (starEach es X.env)).any (·.1) = false := by rfl) :
    PE X (.Call (.Name x p) (e :: es) [] pos) (tNew C sp dvs ta) := by
  refine ⟨fun pins s σ H Q I h => ?_⟩
  obtain ⟨B, nI, iI, bmB, FB, SF, q1, q2⟩ := T.base
  refine wpAny_Call_Name_kw (ld_glob I hg hm ?_ hdb)
  refine PySem.W.callWith_K (h₀ := X.base) I.ok.mod.kin T.kC (thn (ha.run pos pins s σ H _ I h) fun us s1 hu => ?_) he hpl
  obtain ⟨vs, H1, I1, r1, hz, q⟩ := hu
  refine ⟨I1.kIn, ?_⟩
  show wpAny _ _ (call (.ref C) us) _ _ _
  obtain ⟨nm, N', qn, bs, bm, hdct, sn, sub, ab, col, dd, k0, k1, k2, k3, k5, hC, hT⟩ := PySem.W.excInit_of I1.kIn q1
  obtain ⟨oI, hoI, hcI⟩ : ∃ oI, s1.heap.get? fI = some oI ∧ oI.cls = .type "function" := by
    obtain ⟨o, z1, z2⟩ := Option.map_eq_some_iff.mp (show (X.K.lookup fI).map (·.cls) = some (.type "function") from beq_iff_eq.mp tI)
    exact ⟨o, I1.kIn _ _ z1, z2⟩
  obtain ⟨hp, g, dr, tk, os⟩ := s1
  have hsz : hp.objs.size ≤ hp.objs.size + 1 := Nat.le_succ _
  have hn : H1 (hp.objs.size + 1) = none := I1.hok.fresh hsz
  have hq := q (hp.objs.size + 1) hn
  have kk : ∀ b o, hp.get? b = some o → ((hp.push (PySem.W.kdv_tup us)).push (PySem.HandSPX.excO C hp.objs.size)).get? b = some o :=
    fun b o z => Heap.get?_push_of_some _ (Heap.get?_push_of_some _ z)
  have hget : ((hp.push (PySem.W.kdv_tup us)).push (PySem.HandSPX.excO C hp.objs.size)).get? (hp.objs.size + 1) = some (PySem.HandSPX.excO C hp.objs.size) := by heap_get
  have I2 := I1.laid (t' := tk) (a := hp.objs.size + 1) (o := exo (hp.objs.size + 1) C none)
    (h' := (hp.push (PySem.W.kdv_tup us)).push (PySem.HandSPX.excO C hp.objs.size)) kk hsz (exo_ok hget)
  have r2 : Vals (V.ref (hp.objs.size + 1) :: (vs ++ dvs)) (Value.ref (hp.objs.size + 1) :: (us ++ ds)) := .cons rfl (r1.append hd)
  have hl : (Value.ref (hp.objs.size + 1) :: us ++ ds).length = ps.length := by
    have z := r2.length
    rw [F1.len _ _ _ _ hq] at z
    exact z.symm
  have hus : us.length ≤ sizeLine := by
    rw [← Paired.length r1, sizeLine_eq]
    omega
  refine wpAny_call (PySem.HandSPX.call_own FB hT hC (PySem.W.looks_findIn I1.kIn iC) (fun self => PySem.W.exc_bind hoI hcI self) hus
    (codeAny_mono (F1.run _ X.stack _ _ ⟨Value.ref (hp.objs.size + 1) :: us, []⟩ (Value.ref (hp.objs.size + 1) :: (us ++ ds)) _ _ (fun _ _ _ => False)
      (hr.make C us []) (I2.env0.make C us []) (hb _ (Value.ref (hp.objs.size + 1) :: us) I2.kIn hl) r2 hq) fun r s' hq' => ?_))
  cases r with
  | error er => exact hx pins σ _ _ er s' I2 hq'
  | ok fl =>
    cases fl with
    | ret u =>
      obtain ⟨v, H2, I3, rv, ev, q2⟩ := I2.after hq'
      subst ev
      exact ⟨rv, .ref (hp.objs.size + 1), H2, I3, rfl, q2⟩
    | next => exact False.elim hq'
    | brk => exact False.elim hq'
    | cont => exact False.elim hq'
/-! ### e.f of an error -/
def tGet (K : Fg) (te : TE) (f : Str) : TE := fun σ H Q => te σ H fun x H1 => ∃ (a C : Addr) (fs : List (Str × V)) (v : V), x = .ref a ∧ XCls K C ∧ NoAttr K C f ∧
  ErrAt H1 a C fs ∧ fs.lookup f = some v ∧ Q v H1
theorem pe_get {te : TE} (he : PE X e te) (hb : attributeBase e f X.env (eval e X.env) = eval e X.env := by rfl) :
    PE X (.Attribute e f pos) (tGet X.K te f) := by
  refine ⟨fun pins s σ H Q I h => ?_⟩
  refine attr_of hb (thn (he.run pins s σ H _ I h) fun u s1 hu => ?_)
  obtain ⟨x, H1, I1, rx, a, C, fs, v, ex, T, no, ⟨d, ea, ed⟩, l, q⟩ := hu
  subst ex
  obtain rfl : u = Value.ref a := rx
  obtain ⟨t1, ho⟩ := exo_at I1.hok ea
  obtain ⟨mA, hns, hr⟩ := exd_at I1.hok ed
  obtain ⟨od, hod, hl⟩ := lookIn_ns hns
  obtain ⟨u, hu, ru⟩ := RelO.some_of (v := v) (o := mA f) (by rw [← l]; exact hr f)
  have J : PySem.W.InstAt s1.heap a { cls := .ref C, dict := some d, data := .fields #[.ref t1, .none, .none, .none, .bool false, .none] } C (some od) :=
    ⟨ho, rfl, rfl, hod⟩
  exact PySem.HandSPX.exc_get I1.kIn J T.ex.hg T.ex.hk T.ex.hs (PySem.W.findObj_own T.ex.hd no rfl (by rw [hl, hu])) (handed_of ru)
    ⟨v, H1, I1.tok _, ru, q⟩
/-! ### isinstance of an error -/
def rIsX (K : Fg) : List V → Hp → VK → Prop := fun xs H Q => ∃ (a C : Addr) (c : V) (u : Value) (b : Bool) (fs : List (Str × V)), xs = [.ref a, c] ∧ ClsV c u ∧
  ErrAt H a C fs ∧ XCls K C ∧ PySem.W.kitOne K (.ref C) u = some b ∧ Q (.bl b) H
theorem call_isX : CallR X (.builtin "isinstance") (rIsX X.K) := by
  intro pins s σ H xs us Q I r h
  obtain ⟨a, C, c, u, b, fs, rfl, hc, ⟨d, ea, ed⟩, T, ek, q⟩ := h
  obtain ⟨u1, u2, rfl, r1, r2⟩ := vals2 r
  obtain rfl : u1 = Value.ref a := r1
  have e2 := hc.eq r2
  subst e2
  obtain ⟨t1, ho⟩ := exo_at I.hok ea
  obtain ⟨mA, hns, hr⟩ := exd_at I.hok ed
  obtain ⟨od, hod, hl⟩ := lookIn_ns hns
  have J : PySem.W.InstAt s.heap a { cls := .ref C, dict := some d, data := .fields #[.ref t1, .none, .none, .none, .bool false, .none] } C (some od) :=
    ⟨ho, rfl, rfl, hod⟩
  exact PySem.W.kia_one (PySem.W.kitx_exc (by obtain ⟨cd, hc, _⟩ := PySem.W.any_some T.ex.hd; rw [hc]; rfl) T.ex.hg T.ex.hk T.ex.hs T.ex.ha T.ex.hn T.ex.ht T.ex.hm) I.kIn J ek (fun z => nomatch z)
    fun tk => ⟨.bl b, H, I.kept (t' := tk) fun _ _ z => z, rfl, q⟩
end
/-! ### a def, a class by its name -/
structure Ok (P : Program) (w : World) (K : Fg) (mg : Str → Option Value) (base : Heap) (k : Nat) (x : Str) (ps : List Str) (sp : Sp) : Prop where
  ex : ∃ (f : Addr) (fd : FuncData), FnOk P w K mg base CX0 k f fd ps sp ∧ mg x = some (.ref f) ∧ PySem.W.keepIn K (.ref f) = true ∧ Binds K fd ps []
structure OkC (P : Program) (w : World) (K : Fg) (mg : Str → Option Value) (base : Heap) (k : Nat) (x : Str) (C : Addr) (ps : List Str) (sp : Sp) : Prop where
  cl : XCls K C
  nm : mg x = some (.ref C)
  ex : ∃ (f : Addr) (fd : FuncData), FnOk P w K mg base CX0 k f fd ps sp ∧ PySem.W.findIn K (.ref C) "__init__" = some (some (.ref f)) ∧
    PySem.W.isFn K (.ref f) = true ∧ Binds K fd ps []
section
variable {X : Cx} {e : Expr} {es : List Expr} {t : TA} {x : Str} {p pos : Pos} {k : Nat} {ps : List Str} {sp : Sp} {C : Addr}
theorem pe_callO (O : Ok X.prog X.w X.K X.mg X.base k x ps sp) (hr : Room k X.A) (ha : PA X (e :: es) t) (hg : Gl X x := by rfl)
    (hdb : (x == ("__debug__" : Str)) = false := by decide) (he : starEach (e :: es) X.env = (false, eval e X.env) :: starEach es X.env := by rfl)
    (hpl : (backTo pos (starEach es X.env)).any (·.1) = false := by rfl) : PE X (.Call (.Name x p) (e :: es) [] pos) (tCall sp [] E0 t) := by
  obtain ⟨f, fd, G, m, kp, b⟩ := O.ex
  exact pe_call G hr hg m kp b .nil pass0 ha hdb he hpl
theorem pe_newO (O : OkC X.prog X.w X.K X.mg X.base k x C ps sp) (hr : Room (k + 1) X.A) (ha : PA X (e :: es) t) (hg : Gl X x := by rfl)
    (hdb : (x == ("__debug__" : Str)) = false := by decide) (he : starEach (e :: es) X.env = (false, eval e X.env) :: starEach es X.env := by rfl)
    (hpl : (backTo pos (starEach es X.env)).any (·.1) = false := by rfl) : PE X (.Call (.Name x p) (e :: es) [] pos) (tNew C sp [] t) := by
  obtain ⟨f, fd, G, i, kp, b⟩ := O.ex
  exact pe_new O.cl i kp G hr b .nil pass0 hg O.nm ha hdb he hpl
end
/-! ### what is said of heaps -/
theorem same_upd {H : Hp} {p : Addr} {o : HO} (h : H p = none) : Same H (upd H p o) := fun b u z => by
  rw [upd_ne (ne_of_none z h)]
  exact z
theorem same_upd' {H0 H : Hp} {p : Addr} {o : HO} (s : Same H0 H) (h : H0 p = none) : Same H0 (upd H p o) := fun b u z => by
  rw [upd_ne (ne_of_none z h)]
  exact s b u z
theorem ErrAt.same {H H' : Hp} {a C : Addr} {fs : List (Str × V)} (s : Same H H') (h : ErrAt H a C fs) : ErrAt H' a C fs :=
  let ⟨d, z1, z2⟩ := h
  ⟨d, s _ _ z1, s _ _ z2⟩
/-- all but what stands at b is as it was -/
def Keep (b : Addr) (H H' : Hp) : Prop := ∀ a o, a ≠ b → H a = some o → H' a = some o
theorem Keep.refl {b : Addr} (H : Hp) : Keep b H H := fun _ _ _ z => z
theorem Keep.trans {b : Addr} {H H1 H2 : Hp} (x : Keep b H H1) (y : Keep b H1 H2) : Keep b H H2 := fun a o n z => y a o n (x a o n z)
theorem Keep.of {b : Addr} {H H' : Hp} (s : Same H H') : Keep b H H' := fun a o _ z => s a o z
theorem Keep.upd {b : Addr} {H : Hp} {o : HO} : Keep b H (upd H b o) := fun a u n z => by
  rw [upd_ne n]
  exact z
theorem ErrAt.keep {b : Addr} {H H' : Hp} {a C : Addr} {fs : List (Str × V)} (s : Keep b H H') (h : ErrAt H a C fs) {l : List V} (hb : H b = some (.lst l)) : ErrAt H' a C fs :=
  let ⟨d, z1, z2⟩ := h
  ⟨d, s _ _ (ne_of z1 hb (by intro q; cases q)) z1, s _ _ (ne_of z2 hb (by intro q; cases q)) z2⟩
/-! ### list(text) -/
def signsV (z : Str) : List V := z.cps.toList.map fun c => V.str ⟨#[c]⟩
theorem signs_vals (z : Str) : ∀ (l : List Nat) (its : List Value), its.length = l.length →
    (∀ (j : Nat) (v : Value), its[j]? = some v → ∃ (c : Nat) (u : Tok), l[j]? = some c ∧ v = Value.str ⟨#[c]⟩ u) → Vals (l.map fun c => V.str ⟨#[c]⟩) its
  | [], [], _, _ => .nil
  | [], _ :: _, h, _ => absurd h (by simp)
  | _ :: _, [], h, _ => absurd h (by simp)
  | c :: l, v :: its, h, k => by
    refine .cons ?_ (signs_vals z l its (by simpa using h) fun j u q => ?_)
    · obtain ⟨c', u, e1, e2⟩ := k 0 v rfl
      cases e1
      exact ⟨u, e2⟩
    · exact k (j + 1) u (by simpa using q)
theorem call_list_text {X : Cx} (hc : X.calm = true) : CallR X (.type "list") (fun xs H Q => ∃ z, xs = [.str z] ∧ z.length ≤ sizeLine ∧
    ∀ l, H l = none → Q (.ref l) (upd H l (.lst (signsV z)))) := by
  intro pins s σ H xs us Q I r h
  obtain ⟨z, rfl, hz, q⟩ := h
  obtain ⟨u, rfl, t, rfl⟩ := vals1 r
  have hl : z.cps.size ≤ sizeLine := hz
  refine call_list_str (hn := hl) (I.ok.hd hc) z t fun h' tk acc' c' hk hS hacc => ?_
  have hn : H s.heap.objs.size = none := I.hok.fresh (Nat.le_refl _)
  have hv : Vals (signsV z) acc'.toList := by
    refine signs_vals z _ _ (by rw [Array.length_toList, Array.length_toList, hacc.1]) fun j v q => ?_
    obtain ⟨c, u, e1, e2⟩ := hacc.2 j v (by rw [← Array.getElem?_toList]; exact q)
    exact ⟨c, u, by rw [Array.getElem?_toList]; exact e1, e2⟩
  refine ⟨.ref s.heap.objs.size, _, I.laid (a := s.heap.objs.size) (o := .lst (signsV z)) (t' := tk) hk (Nat.le_refl _) ⟨?_, acc'.toList, c', hv, ?_⟩, rfl, q _ hn⟩
  · show (z.cps.toList.map _).length ≤ sizeLine
    rw [List.length_map, Array.length_toList]
    exact hl
  · simpa using hS
/-! ### where ways meet: what is wanted between -/
section
variable {X : Cx} {e : Expr} {te : TE} {tt : TT} {st : Stmt} {ts : TS}
def tMid (t : TE) : TE := fun σ H Q => ∃ Q0 : VK, t σ H Q0 ∧ ∀ x H1, Q0 x H1 → Q x H1
theorem pe_mid (h : PE X e te) : PE X e (tMid te) := by
  refine ⟨fun pins s σ H Q I hq => ?_⟩
  obtain ⟨Q0, h0, k⟩ := hq
  exact thn (h.run pins s σ H Q0 I h0) fun u s1 hu => by
    obtain ⟨v, H1, I1, r, q⟩ := hu
    exact ⟨v, H1, I1, r, k _ _ q⟩
def bMid (t : TT) : TT := fun σ H Q => ∃ Q0 : Bool → Hp → Prop, t σ H Q0 ∧ ∀ x H1, Q0 x H1 → Q x H1
theorem pt_mid (h : PT X e tt) : PT X e (bMid tt) := by
  refine ⟨fun pins s σ H Q I hq => ?_⟩
  obtain ⟨Q0, h0, k⟩ := hq
  exact thn (h.run pins s σ H Q0 I h0) fun u s1 hu => by
    obtain ⟨H1, I1, q⟩ := hu
    exact ⟨H1, I1, k _ _ q⟩
def sMid (t : TS) : TS := fun D σ H => ∃ M : L2.St → Hp → Prop, t { D with nx := M } σ H ∧ ∀ σ' H', M σ' H' → D.nx σ' H'
theorem ps_mid (h : PS X st ts) : PS X st (sMid ts) := by
  refine ⟨fun pins s σ H D I hq => ?_⟩
  obtain ⟨M, h0, k⟩ := hq
  refine thn (h.run pins s σ H _ I h0) fun f s1 hf => ?_
  cases f with
  | next =>
    obtain ⟨σ', H', I', q⟩ := hf
    exact ⟨σ', H', I', k _ _ q⟩
  | ret v => exact hf
  | brk => exact hf
  | cont => exact hf
end
theorem same_keep {H0 H H' : Hp} {b : Addr} (s : Same H0 H) (n : H0 b = none) (k : Keep b H H') : Same H0 H' := fun a o z =>
  k a o (ne_of_none z n) (s a o z)
/-! ### lists of truth values, compared -/
theorem dp_bools {K : Fg} {H : Hp} {p : Addr} {bs : List Bool} (h : H p = some (.lst (bs.map V.bl))) : Dp K H (.ref p) (.list (bs.map PyData.bool)) := by
  refine .lst (SqL.of h) ?_
  clear h
  induction bs with
  | nil => exact .nil
  | cons b bs ih => exact .cons (.bl b) ih
theorem can_bools (bs : List Bool) : PyData.canLay0 (.list (bs.map PyData.bool)) = true := by
  rw [PyData.canLay0]
  induction bs with
  | nil => rfl
  | cons b bs ih =>
    rw [List.map_cons, PyData.canLayAll0, PyData.canLay0, ih]
    rfl
theorem depth_bools (bs : List Bool) : PyData.depthAll (bs.map PyData.bool) ≤ 1 := by
  induction bs with
  | nil => simp [PyData.depthAll]
  | cons b bs ih => simp only [List.map_cons, PyData.depthAll, PyData.depth]; omega
theorem shaped_bools (bs : List Bool) : SeqAt.shaped (.list (bs.map PyData.bool)) = true := by
  unfold SeqAt.shaped
  rw [can_bools, Bool.true_and]
  refine decide_eq_true ?_
  have q := depth_bools bs
  rw [PyData.depth]
  omega
/-- two lists of the same truth values are not unlike -/
theorem ne_bools {K : Fg} {H : Hp} {p q : Addr} {bs : List Bool} {Q : VK} (h1 : H p = some (.lst (bs.map V.bl))) (h2 : H q = some (.lst (bs.map V.bl))) (k : Q (.bl false) H) :
    rNeD K (.ref p) (.ref q) H Q := by
  refine ⟨_, _, dp_bools h1, dp_bools h2, shaped_bools bs, shaped_bools bs, ?_⟩
  rw [SeqAt.eqv_refl _ (can_bools bs)]
  exact k
end EV

/-! rules for objects of own classes: methods by one word, own __contains__, __len__, __str__, cls(..), own errors raised -/
namespace EV
open PySem PySem.Spec PyProof.Rows L2
/-- a def that may raise -/
structure OkX (P : Program) (w : World) (K : Fg) (mg : Str → Option Value) (base : Heap) (k : Nat) (x : Str) (ps : List Str) (sp : Sp) : Prop where
  ex : ∃ (f : Addr) (fd : FuncData), FnOk P w K mg base (L2.CX P w) k f fd ps sp ∧ mg x = some (.ref f) ∧ PySem.W.keepIn K (.ref f) = true ∧ Binds K fd ps []
/-- a method of the class at C (cx: what leaves it) -/
structure OkM (cx : CXT) (P : Program) (w : World) (K : Fg) (mg : Str → Option Value) (base : Heap) (k : Nat) (C : Addr) (m : Str) (ps : List Str) (sp : Sp) : Prop where
  ex : ∃ (f : Addr) (fd : FuncData), FnOk P w K mg base cx k f fd ps sp ∧ Meth K C m f ∧ Binds K fd ps []
/-- the class at C, made by its own __init__ -/
structure OkI (P : Program) (w : World) (K : Fg) (mg : Str → Option Value) (base : Heap) (k : Nat) (x : Str) (C : Addr) (ps : List Str) (sp : Sp) : Prop where
  nm : mg x = some (.ref C)
  ex : ∃ (f : Addr) (fd : FuncData), FnOk P w K mg base CX0 k f fd ps sp ∧ Mk K C f ∧ Binds K fd ps []
/-- a classmethod of the class at C -/
structure OkCM (P : Program) (w : World) (K : Fg) (mg : Str → Option Value) (base : Heap) (k : Nat) (C : Addr) (m : Str) (ps : List Str) (sp : Sp) : Prop where
  ex : ∃ (p g : Addr) (fd : FuncData) (mc : Value), FnOk P w K mg base (L2.CX P w) k g fd ps sp ∧ ClX.CRead K C mc ∧ ClX.CMet K C mc m p g ∧ Binds K fd ps []
section
variable {X : Cx} {e o : Expr} {es : List Expr} {t : TA} {ta : TE} {x m : Str} {p pos apos : Pos} {k : Nat} {ps : List Str} {sp : Sp} {C : Addr} {W : WX}
/-! ### calls whose error is taken by W -/
theorem pe_callX (tk : Takes X W) (O : OkX X.prog X.w X.K X.mg X.base k x ps sp) (hr : Room k X.A) (ha : PA X (e :: es) t) (hg : Gl X x := by rfl)
    (hdb : (x == ("__debug__" : Str)) = false := by decide) (he : starEach (e :: es) X.env = (false, eval e X.env) :: starEach es X.env := by rfl)
    (hpl : (backTo pos (starEach es X.env)).any (·.1) = false := by rfl) : PE X (.Call (.Name x p) (e :: es) [] pos) (tCallS sp (WE W) t) := by
  obtain ⟨f, fd, G, m, kp, b⟩ := O.ex
  exact pe_callS G hr hg m kp b (fun σ => passAt tk σ) ha hdb he hpl
def tMethS (C : Addr) (m : Str) (sp : Sp) (E : L2.St → XK) (ta : TE) (t : TA) : TE := fun σ H Q => ta σ H fun x H1 => ∃ a dx fs, x = .ref a ∧ H1 a = some (.ins C dx fs) ∧ fs.lookup m = none ∧ t σ H1 fun vs H2 => sp (x :: vs) H2 Q (E σ)
theorem pe_methX {pl : Sem Bool} (tk : Takes X W) (he : PE X o ta) (c : Cls X.K C) (O : OkM (L2.CX X.prog X.w) X.prog X.w X.K X.mg X.base k C m ps sp) (hr : Room k X.A) (ha : PA X (e :: es) t)
    (hst : starEach (e :: es) X.env = (false, eval e X.env) :: starEach es X.env := by rfl) (hpl : (backTo pos (starEach es X.env)).any (·.1) = false := by rfl)
    (ht : eval (.Call (.Attribute o m apos) (e :: es) [] pos) X.env = (do
      let ov ← eval o X.env
      standAt apos.atName
      let (f, first) ← holding [ov] (getMethod ov m pl)
      callWith pos f first (backTo pos (starEach (e :: es) X.env)) (backToKw pos (keywordEach [] X.env))) := by rfl) :
    PE X (.Call (.Attribute o m apos) (e :: es) [] pos) (tMethS C m sp (WE W) ta t) := by
  obtain ⟨f, fd, F, hm, hb⟩ := O.ex
  refine ⟨fun pins s σ H Q I h => ?_⟩
  refine PySem.W.methodCall_KW (pl := pl) (thn (he.run pins s σ H _ I h) fun u s1 ⟨x, H1, I1, rx, a, dx, fs, ex, ea, l, q⟩ => ?_) ht
  subst ex
  obtain rfl : u = Value.ref a := rx
  refine getmeth_ok I1 ea c hm l ?_
  refine PySem.W.callWith_K (first := [.ref a]) (h₀ := X.base) I.ok.mod.kin hm.kp (thn (ha.run pos pins s1 σ H1 _ I1 q) fun us s2 ⟨vs, H2, I2, r, q2⟩ => ⟨I2.kIn, ?_⟩) hst hpl
  exact run_fnS (us := .ref a :: us) (vs := .ref a :: vs) (E := WE W) F hr hb (passAt tk σ) I2 (.cons rfl r) q2
theorem pe_methO {pl : Sem Bool} (he : PE X o ta) (c : Cls X.K C) (O : OkM CX0 X.prog X.w X.K X.mg X.base k C m ps sp) (hr : Room k X.A) (ha : PA X (e :: es) t)
    (hst : starEach (e :: es) X.env = (false, eval e X.env) :: starEach es X.env := by rfl) (hpl : (backTo pos (starEach es X.env)).any (·.1) = false := by rfl)
    (ht : eval (.Call (.Attribute o m apos) (e :: es) [] pos) X.env = (do
      let ov ← eval o X.env
      standAt apos.atName
      let (f, first) ← holding [ov] (getMethod ov m pl)
      callWith pos f first (backTo pos (starEach (e :: es) X.env)) (backToKw pos (keywordEach [] X.env))) := by rfl) :
    PE X (.Call (.Attribute o m apos) (e :: es) [] pos) (tMeth C m sp [] E0 ta t) := by
  obtain ⟨f, fd, F, hm, hb⟩ := O.ex
  exact pe_meth he c hm F hr hb .nil pass0 ha hst hpl ht
theorem pe_methO0 {pl : Sem Bool} (he : PE X o ta) (c : Cls X.K C) (O : OkM CX0 X.prog X.w X.K X.mg X.base k C m ps sp) (hr : Room k X.A)
    (ht : eval (.Call (.Attribute o m apos) [] [] pos) X.env = (do
      let ov ← eval o X.env
      standAt apos.atName
      let (f, first) ← holding [ov] (getMethod ov m pl)
      callWith pos f first (backTo pos (starEach [] X.env)) (backToKw pos (keywordEach [] X.env))) := by rfl) :
    PE X (.Call (.Attribute o m apos) [] [] pos) (tMeth C m sp [] E0 ta tNil) := by
  obtain ⟨f, fd, F, hm, hb⟩ := O.ex
  exact pe_meth0 he c hm F hr hb .nil pass0 ht
/-- C(e, ..), the class by its name -/
theorem pe_makeO (O : OkI X.prog X.w X.K X.mg X.base k x C ps sp) (hr : Room (k + 1) X.A) (ha : PA X (e :: es) t) (hg : Gl X x := by rfl)
    (hdb : (x == ("__debug__" : Str)) = false := by decide) (he : starEach (e :: es) X.env = (false, eval e X.env) :: starEach es X.env := by rfl)
    (hpl : (backTo pos (starEach es X.env)).any (·.1) = false := by rfl) : PE X (.Call (.Name x p) (e :: es) [] pos) (tMake C sp [] E0 t) := by
  obtain ⟨f, fd, F, M, b⟩ := O.ex
  exact pe_make M F hr hg O.nm b .nil pass0 ha hdb he hpl
/-- cls(e, ..), the class in a slot -/
def tMakeV (C : Addr) (sp : Sp) (tf : TE) (t : TA) : TE := fun σ H Q => tf σ H fun c H1 => c = .ref C ∧ tMake C sp [] E0 t σ H1 Q
theorem pe_makeV {y : Str} (O : OkI X.prog X.w X.K X.mg X.base k y C ps sp) (hr : Room (k + 1) X.A) (hf : PE X (.Name x p) ta) (ha : PA X (e :: es) t)
    (he : starEach (e :: es) X.env = (false, eval e X.env) :: starEach es X.env := by rfl)
    (hpl : (backTo pos (starEach es X.env)).any (·.1) = false := by rfl) : PE X (.Call (.Name x p) (e :: es) [] pos) (tMakeV C sp ta t) := by
  obtain ⟨f, fd, F, M, b⟩ := O.ex
  refine ⟨fun pins s σ H Q I h => ?_⟩
  refine wpAny_Call_Name_kw (thn (hf.run pins s σ H _ I h) fun u s1 ⟨c, H1, I1, rc, ec, q1⟩ => ?_)
  subst ec
  obtain rfl : u = Value.ref C := rc
  refine PySem.W.callWith_K (h₀ := X.base) I.ok.mod.kin M.kp (thn (ha.run pos pins s1 σ H1 _ I1 q1) fun us s2 ⟨vs, H2, I2, r, q⟩ => ⟨I2.kIn, ?_⟩) he hpl
  exact run_make M F hr b .nil pass0 I2 r q
/-! ### x in o, len(o), str(o) -/
theorem ins_inst {pins : List (Addr × Obj)} {σ : L2.St} {H : Hp} {s : Shared} {a dx : Addr} {fs : List (Str × V)} (I : Inv X pins σ H s) (ea : H a = some (.ins C dx fs)) : ∃ ox od, PySem.W.InstAt s.heap a ox C (some od) := by
  obtain ⟨mA, O, _, _, _, _⟩ := ins_get I.hok ea
  obtain ⟨od, J, _⟩ := O.look
  exact ⟨_, od, J⟩
def rInOwn (C : Addr) (sp : Sp) (neg : Bool) : R2 := fun x y H Q => ∃ a dx fs, y = .ref a ∧ H a = some (.ins C dx fs) ∧ sp [.ref a, x] H (fun v H2 => ∃ b : Bool, v = .bl b ∧ Q (.bl (if neg then !b else b)) H2) E0
theorem op_inO (O : OkM CX0 X.prog X.w X.K X.mg X.base k C "__contains__" ps sp) (hr : Room k X.A) : OpR X (compareOp .In) (rInOwn C sp false) := by
  intro pins s σ H x y v u Q I rx ry h
  obtain ⟨a, dx, fs, rfl, ea, q⟩ := h
  obtain rfl : u = Value.ref a := ry
  obtain ⟨f, fd, F, hm, hb⟩ := O.ex
  obtain ⟨ox, od, J⟩ := ins_inst I ea
  obtain ⟨m, fr⟩ := I.fr
  refine PySem.W.in_K fr I.ok.mod.kin J hm.at_ hm.fn ?_
  refine thn (run_fn (us := [.ref a, v]) (vs := [.ref a, x]) (dvs := []) F hr hb .nil pass0 I (.cons rfl (.cons rx .nil)) q) fun r s1 hh => ?_
  obtain ⟨z, H2, I2, rz, b, ez, q2⟩ := hh
  subst ez
  obtain rfl : r = Value.bool b := rz
  exact wpAny_truthy_bool ⟨.bl b, H2, I2, rfl, q2⟩
theorem op_notInO (O : OkM CX0 X.prog X.w X.K X.mg X.base k C "__contains__" ps sp) (hr : Room k X.A) : OpR X (compareOp .NotIn) (rInOwn C sp true) := by
  intro pins s σ H x y v u Q I rx ry h
  obtain ⟨a, dx, fs, rfl, ea, q⟩ := h
  obtain rfl : u = Value.ref a := ry
  obtain ⟨f, fd, F, hm, hb⟩ := O.ex
  obtain ⟨ox, od, J⟩ := ins_inst I ea
  obtain ⟨m, fr⟩ := I.fr
  refine PySem.W.notIn_K fr I.ok.mod.kin J hm.at_ hm.fn ?_
  refine thn (run_fn (us := [.ref a, v]) (vs := [.ref a, x]) (dvs := []) F hr hb .nil pass0 I (.cons rfl (.cons rx .nil)) q) fun r s1 hh => ?_
  obtain ⟨z, H2, I2, rz, b, ez, q2⟩ := hh
  subst ez
  obtain rfl : r = Value.bool b := rz
  exact wpAny_truthy_bool ⟨.bl (!b), H2, I2, rfl, q2⟩
/-- a def, run where a builtin runs -/
theorem run_in {A : Around} {Q : Value → Shared → Prop} {E : Value → Shared → Prop} {f : Addr} {fd : FuncData} {ps : List Str} {sp : Sp} {pins : List (Addr × Obj)} {σ : L2.St} {H : Hp} {s : Shared} {us : List Value} {vs : List V} {QV : VK}
    (F : FnOk X.prog X.w X.K X.mg X.base CX0 k f fd ps sp) (hr : Room k A) (hf : A.frames = X.A.frames) (hb : Binds X.K fd ps []) (I : Inv X pins σ H s) (r : Vals vs us) (h : sp vs H QV E0)
    (hQ : ∀ v s', EP X pins σ QV v s' → Q v s') : wpAny (model X.prog X.w) A (call (.ref f) us) Q E s := by
  have hl : us.length = ps.length := by rw [← r.length]; exact F.len _ _ _ _ h
  have b := hb s us I.kIn (by rw [List.append_nil]; exact hl)
  rw [List.append_nil] at b
  have e0 := I.env0
  refine wpAny_call (codeAny_mono (F.run A X.stack s H ⟨us, []⟩ us vs QV E0 hr { e0 with frames := hf.trans e0.frames } b r h) fun z s' hq => ?_)
  cases z with
  | error er => exact False.elim hq
  | ok fl =>
    cases fl with
    | ret u => exact hQ _ _ (I.after hq)
    | next => exact False.elim hq
    | brk => exact False.elim hq
    | cont => exact False.elim hq
theorem call_lenO (O : OkM CX0 X.prog X.w X.K X.mg X.base k C "__len__" ps sp) (hr : Room (k + 1) X.A) : CallR X (.builtin "len") (fun xs H Q => ∃ a dx fs, xs = [.ref a] ∧ H a = some (.ins C dx fs) ∧
    sp [.ref a] H (fun v H2 => ∃ n : Int, v = .int n ∧ 0 ≤ n ∧ n < 2 ^ 63 ∧ Q (.int n) H2) E0) := by
  intro pins s σ H xs us Q I r h
  obtain ⟨a, dx, fs, rfl, ea, q⟩ := h
  obtain ⟨u, rfl, ru⟩ := vals1 r
  obtain rfl : u = Value.ref a := ru
  obtain ⟨f, fd, F, hm, hb⟩ := O.ex
  obtain ⟨ox, od, J⟩ := ins_inst I ea
  obtain ⟨m, fr⟩ := I.fr
  refine PySem.W.len_K fr I.ok.mod.kin J hm.at_ hm.fn (run_in (vs := [.ref a]) F hr.in1 rfl hb I (.cons rfl .nil) q fun v s' hh => ?_)
  obtain ⟨z, H2, I2, rz, n, ez, n0, n1, q2⟩ := hh
  subst ez
  obtain ⟨t, rfl⟩ := rz
  exact ⟨⟨n0, n1⟩, ⟨.int n, H2, I2.tok _, ⟨_, rfl⟩, q2⟩⟩
theorem call_strO (O : OkM CX0 X.prog X.w X.K X.mg X.base k C "__str__" ps sp) (hr : Room (k + 2) X.A) : CallR X (.type "str") (fun xs H Q => ∃ a dx fs, xs = [.ref a] ∧ H a = some (.ins C dx fs) ∧
    sp [.ref a] H (fun v H2 => ∃ z : Str, v = .str z ∧ Q (.str z) H2) E0) := by
  intro pins s σ H xs us Q I r h
  obtain ⟨a, dx, fs, rfl, ea, q⟩ := h
  obtain ⟨u, rfl, ru⟩ := vals1 r
  obtain rfl : u = Value.ref a := ru
  obtain ⟨f, fd, F, hm, hb⟩ := O.ex
  obtain ⟨ox, od, J⟩ := ins_inst I ea
  have h2 : Room k X.A.in1.in1 := (Room.in1 (k := k + 1) hr).in1
  refine PySem.W.kso_call (h2.units0) I.kIn J hm.at_ hm.fn (run_in (vs := [.ref a]) F h2 rfl hb I (.cons rfl .nil) q fun v s' hh => ?_)
  obtain ⟨z, H2, I2, rz, y, ez, q2⟩ := hh
  subst ez
  obtain ⟨t, rfl⟩ := rz
  exact ⟨.str y, H2, I2, ⟨_, rfl⟩, q2⟩
/-! ### a == b, both of the class at C, by C's own __eq__ -/
def rEqO (C : Addr) (sp : Sp) : R2 := fun x y H Q => ∃ a b dx dy fs gs, x = .ref a ∧ y = .ref b ∧ H a = some (.ins C dx fs) ∧ H b = some (.ins C dy gs) ∧
  sp [.ref a, .ref b] H (fun v H2 => ∃ c : Bool, v = .bl c ∧ Q (.bl c) H2) E0
theorem op_eqO (O : OkM CX0 X.prog X.w X.K X.mg X.base k C "__eq__" ps sp) (hr : Room k X.A) : OpR X (compareOp .Eq) (rEqO C sp) := by
  intro pins s σ H x y v u Q I rx ry h
  obtain ⟨a, b, dx, dy, fs, gs, rfl, rfl, ea, eb, q⟩ := h
  obtain rfl : v = Value.ref a := rx
  obtain rfl : u = Value.ref b := ry
  obtain ⟨f, fd, F, hm, hb⟩ := O.ex
  obtain ⟨ox, od, J⟩ := ins_inst I ea
  obtain ⟨oy, od', J'⟩ := ins_inst I eb
  obtain ⟨m, fr⟩ := I.fr
  show wpAny (model X.prog X.w) X.A (richCompare .Eq (.ref a) (.ref b)) (EP X pins σ Q) X.xe s
  refine PySem.W.cmp_K (op := .Eq) (tb := .ref C) hr.units0 fr I.ok.mod.kin J J'.type (by simp [PySem.W.notFirst]) hm.at_ hm.fn ?_
  refine thn (run_fn (us := [.ref a, .ref b]) (vs := [.ref a, .ref b]) (dvs := []) F hr hb .nil pass0 I (.cons rfl (.cons rfl .nil)) q) fun r s1 hh => ?_
  obtain ⟨z, H2, I2, rz, c, ez, q2⟩ := hh
  subst ez
  obtain rfl : r = Value.bool c := rz
  exact ⟨.bl c, H2, I2, rfl, q2⟩
/-! ### C.m(..), m a classmethod that may raise -/
theorem pe_cmethX {pl : Sem Bool} (tk : Takes X W) (he : PE X o ta) (O : OkCM X.prog X.w X.K X.mg X.base k C m ps sp) (hr : Room k X.A) (ha : PA X (e :: es) t)
    (hst : starEach (e :: es) X.env = (false, eval e X.env) :: starEach es X.env := by rfl) (hpl : (backTo pos (starEach es X.env)).any (·.1) = false := by rfl)
    (ht : eval (.Call (.Attribute o m apos) (e :: es) [] pos) X.env = (do
      let ov ← eval o X.env
      standAt apos.atName
      let (f, first) ← holding [ov] (getMethod ov m pl)
      callWith pos f first (backTo pos (starEach (e :: es) X.env)) (backToKw pos (keywordEach [] X.env))) := by rfl) :
    PE X (.Call (.Attribute o m apos) (e :: es) [] pos) (fun σ H Q => ta σ H fun x H1 => x = .ref C ∧ t σ H1 fun vs H2 => sp (.ref C :: vs) H2 Q (WE W σ)) := by
  obtain ⟨p, g, fd, mc, F, r, c, hb⟩ := O.ex
  refine ⟨fun pins s σ H Q I h => ?_⟩
  refine PySem.W.methodCall_KW (pl := pl) (thn (he.run pins s σ H _ I h) fun u s1 ⟨x, H1, I1, rx, ex, q⟩ => ?_) ht
  subst ex
  obtain rfl : u = Value.ref C := rx
  refine ClX.getmethcm_ok I1 r c fun s2 I2 => ?_
  refine ClX.callwith_cm I2 (ClX.base_none I1 (Nat.le_refl _)) c.fi (thn (ha.run pos _ s2 σ H1 _ I2 q) fun us s3 ⟨vs, H2, I3, rv, q2⟩ => ⟨⟨ClX.pin_at I3, I3.kIn⟩, ?_⟩) hst hpl
  have hl : (Value.ref C :: us).length = ps.length := by
    have z : Vals (V.ref C :: vs) (Value.ref C :: us) := .cons rfl rv
    rw [← z.length]
    exact F.len _ _ _ _ q2
  have bb := hb s3 (.ref C :: us) I3.kIn (by rw [List.append_nil]; exact hl)
  rw [List.append_nil] at bb
  refine thn (Q := EP X ((s1.heap.objs.size, PySem.W.methodObj (.ref g) (.ref C)) :: pins) σ Q) (wpAny_call (PySem.W.method_call (ClX.pin_at I3) (codeAny_mono (F.run X.A X.stack s3 H2 ⟨.ref C :: us, []⟩ (.ref C :: us) (.ref C :: vs) Q (WE W σ) hr I3.env0 bb (.cons rfl rv) q2) fun z s' hq => ?_))) fun _ _ y => ClX.unpinE y
  cases z with
  | error er => exact passAt tk σ _ _ _ _ _ I3 hq
  | ok fl =>
    cases fl with
    | ret u => exact I3.after hq
    | next => exact False.elim hq
    | brk => exact False.elim hq
    | cont => exact False.elim hq
/-! ### raise C(e, ..), C an own error with its own __init__ -/
theorem pmk_x {C : Addr} (O : OkC X.prog X.w X.K X.mg X.base k x C ps sp) (ty : PySem.W.typeIn X.K (.ref C) = some (.type "type")) (hr : Room (k + 1) X.A) (ha : PA X (e :: es) t) (hg : Gl X x := by rfl)
    (hdb : (x == ("__debug__" : Str)) = false := by decide) (he : starEach (e :: es) X.env = (false, eval e X.env) :: starEach es X.env := by rfl)
    (hpl : (backTo pos (starEach es X.env)).any (·.1) = false := by rfl) : PMk X (.Call (.Name x p) (e :: es) [] pos) (tMkO C sp [] t) := by
  obtain ⟨fI, fd, F1, iC, tI, hb⟩ := O.ex
  intro pins s σ H Q I h
  obtain ⟨B, nI, iI, bmB, FB, SF, q1, q2⟩ := O.cl.base
  refine wpAny_Call_Name_kw (ld_glob I hg O.nm ?_ hdb)
  refine PySem.W.callWith_K (h₀ := X.base) I.ok.mod.kin O.cl.kC (thn (ha.run pos pins s σ H _ I h) fun us s1 hu => ?_) he hpl
  obtain ⟨vs, H1, I1, r1, hz, q⟩ := hu
  refine ⟨I1.kIn, ?_⟩
  show wpAny _ _ (call (.ref C) us) _ _ _
  obtain ⟨nm, N', qn, bs, bm, hdct, sn, sub, ab, col, dd, k0, k1, k2, k3, k5, hC, hT⟩ := PySem.W.excInit_of I1.kIn q1
  obtain ⟨oI, hoI, hcI⟩ : ∃ oI, s1.heap.get? fI = some oI ∧ oI.cls = .type "function" := by
    obtain ⟨o, z1, z2⟩ := Option.map_eq_some_iff.mp (show (X.K.lookup fI).map (·.cls) = some (.type "function") from beq_iff_eq.mp tI)
    exact ⟨o, I1.kIn _ _ z1, z2⟩
  obtain ⟨hp, g, dr, tk, os⟩ := s1
  have hsz : hp.objs.size ≤ hp.objs.size + 1 := Nat.le_succ _
  have hq := q (hp.objs.size + 1) (I1.hok.fresh hsz)
  rw [List.append_nil] at hq
  have kk : ∀ b o, hp.get? b = some o → ((hp.push (PySem.W.kdv_tup us)).push (PySem.HandSPX.excO C hp.objs.size)).get? b = some o :=
    fun b o z => Heap.get?_push_of_some _ (Heap.get?_push_of_some _ z)
  have hget : ((hp.push (PySem.W.kdv_tup us)).push (PySem.HandSPX.excO C hp.objs.size)).get? (hp.objs.size + 1) = some (PySem.HandSPX.excO C hp.objs.size) := by heap_get
  have I2 := I1.laid (t' := tk) (a := hp.objs.size + 1) (o := exo (hp.objs.size + 1) C none)
    (h' := (hp.push (PySem.W.kdv_tup us)).push (PySem.HandSPX.excO C hp.objs.size)) kk hsz (exo_ok hget)
  have r2 : Vals (V.ref (hp.objs.size + 1) :: vs) (Value.ref (hp.objs.size + 1) :: us) := .cons rfl r1
  have hl : (Value.ref (hp.objs.size + 1) :: us ++ []).length = ps.length := by
    have z := r2.length
    rw [F1.len _ _ _ _ hq] at z
    rw [List.append_nil]
    exact z.symm
  have bb := hb _ (Value.ref (hp.objs.size + 1) :: us) I2.kIn hl
  rw [List.append_nil] at bb
  have hus : us.length ≤ sizeLine := by
    rw [← Paired.length r1, sizeLine_eq]
    omega
  refine wpAny_call (PySem.HandSPX.call_own FB hT hC (PySem.W.looks_findIn I1.kIn iC) (fun self => PySem.W.exc_bind hoI hcI self) hus
    (codeAny_mono (F1.run _ X.stack _ _ ⟨Value.ref (hp.objs.size + 1) :: us, []⟩ (Value.ref (hp.objs.size + 1) :: us) _ _ (fun _ _ _ => False)
      (hr.make C us []) (I2.env0.make C us []) bb r2 hq) fun r s' hq' => ?_))
  cases r with
  | error er => exact False.elim hq'
  | ok fl =>
    cases fl with
    | ret u =>
      obtain ⟨v, H2, os2, bare2, un2, hok2, rv, ev, d, fs, ea, ed, hd1, q2⟩ := hq'
      subst ev
      obtain ⟨h2, g2, d2, t2, os'⟩ := s'
      exact ⟨rv, mk_end (raises_own O.cl.ex.hs ty) I1 hsz kk un2 hok2 os2 bare2 ea ed hd1 q2⟩
    | next => exact False.elim hq'
    | brk => exact False.elim hq'
    | cont => exact False.elim hq'
/-- a global by its name, its value known up to the token -/
theorem pe_gv {v : V} {x : Str} {pos : Pos} (h : ∃ u, X.mg x = some u ∧ RelV v u) (hg : Gl X x := by rfl) (hd : (x == ("__debug__" : Str)) = false := by decide) : PE X (.Name x pos) (tC v) := by
  obtain ⟨u, hm, r⟩ := h
  exact pe_glob hg hm r hd
/-- isinstance(e, c), e the error that the suite holds -/
theorem call_isEX {a D : Addr} {oe : Obj} {cls : Value} {d : Option Addr} {pn : List (Addr × Obj)} (T : ExcC X.K D) (hz : Zc cls d oe) (hf : ∃ vs, oe.data = .fields vs) : CallR (X.suite a ((a, oe) :: pn)) (.builtin "isinstance")
    (fun xs H Q => ∃ (c : V) (cv : Value) (b : Bool) (dd : Addr) (fs : List (Str × V)), xs = [.ref a, c] ∧ cls = .ref D ∧ d = some dd ∧ H dd = some (.xd fs) ∧ (∀ u, RelV c u → u = cv) ∧ PySem.W.kitOne X.K (.ref D) cv = some b ∧ Q (.bl b) H) := by
  intro pins s σ H xs us Q I r h
  obtain ⟨c, cv, b, dd, fs, rfl, ec, edd, ed, hcv, e, q⟩ := h
  obtain ⟨u1, u2, rfl, r1, r2⟩ := vals2 r
  obtain rfl : u1 = Value.ref a := r1
  have e2 := hcv _ r2
  subst e2
  subst ec
  subst edd
  obtain ⟨ha, _⟩ := I.pin (a, oe) (List.mem_append_left _ List.mem_cons_self)
  obtain ⟨vs, hd⟩ := hf
  have hx : ObjOk X.prog X.w H s.heap dd (.xd fs) := I.hok dd _ ed
  obtain ⟨mA, hns, hr⟩ := hx
  obtain ⟨od, ho, hl⟩ := lookIn_ns hns
  have J : PySem.W.InstAt s.heap a oe D (some od) := ⟨ha, hz.1, by unfold PySem.W.notCls; rw [hd] <;> rfl, by rw [hz.2]; exact ho⟩
  exact PySem.W.kia_one (PySem.W.kitx_exc (by obtain ⟨cd, hc, _⟩ := PySem.W.any_some T.hd; rw [hc]; rfl) T.hg T.hk T.hs T.ha T.hn T.ht T.hm) I.kIn J e (fun z => nomatch z)
    fun tk => ⟨.bl b, H, I.kept (t' := tk) fun _ _ z => z, rfl, q⟩
/-! ### static methods -/
/-- C.m is a static method: its record at p, its def at f -/
structure SM (K : Fg) (C : Addr) (m : Str) (f : Addr) : Prop where
  ex : ∃ (mc : Value) (p : Addr) (rest : List Value), ClX.CRead K C mc ∧ PySem.W.findCls K (.ref C) mc m = some (.get (.builtin "staticmethod.__get__") (.ref p) .none (.ref C)) ∧
    PySem.W.recIn K p "staticmethod" = some (.ref f :: rest)
  kp : PySem.W.keepIn K (.ref f) = true
/-- .. reached through an instance -/
structure SMI (K : Fg) (C : Addr) (m : Str) (f : Addr) : Prop where
  pg : PySem.W.plainGet K C Str.empty = true
  ic : PySem.W.isClsIn K C = true
  cp : PySem.W.copiedNames.contains m = false
  ex : ∃ (p : Addr) (rest : List Value), PySem.W.findIn K (.ref C) m = some (some (.ref p)) ∧ PySem.W.typeIn K (.ref p) = some (.type "staticmethod") ∧
    PySem.W.specialIn K (.ref p) "__get__" = some (some (.builtin "staticmethod.__get__")) ∧ PySem.W.takesIn K (.ref p) = some false ∧ PySem.W.recIn K p "staticmethod" = some (.ref f :: rest)
  kp : PySem.W.keepIn K (.ref f) = true
theorem SMI.get' {K : Fg} {C f : Addr} {m : Str} (k : SMI K C m f) : PySem.W.plainGet K C m = true := k.pg
section
variable {X : Cx} {e o : Expr} {es : List Expr} {t tk : TA} {ta : TE} {x m : Str} {p pos apos : Pos} {k : Nat} {ps ks : List Str} {sp : Sp} {C f : Addr} {fd : FuncData} {kws : List Keyword} {ds : List Value} {dvs : List V}
  {g : List Value → List Value → List Value} {gV : List V → List V → List V} {pins : List (Addr × Obj)} {σ : L2.St} {H : Hp} {s : Shared}
theorem getsm_ok {pl : Sem Bool} {A : Around} {E : Value → Shared → Prop} {Q : Value × List Value → Shared → Prop} (I : Inv X pins σ H s) (S : SM X.K C m f) (h : ∀ s', Inv X pins σ H s' → Q (.ref f, []) s') :
    wpAny (model X.prog X.w) A (getMethod (.ref C) m pl) Q E s := by
  obtain ⟨mc, q, rest, r, at_, rc⟩ := S.ex
  refine PySem.W.method_cls I.kIn r.ga (PySem.W.cls_bind I.kIn r.rd at_ ?_)
  exact wpAny_call (PySem.W.sm_get (s := { s with toks := s.toks + 1 }) I.kIn rc (PySem.W.handed_on rfl (h _ (I.tok _))))
theorem getsmi_ok {pl : Sem Bool} {A : Around} {E : Value → Shared → Prop} {Q : Value × List Value → Shared → Prop} {a dx : Addr} {fs : List (Str × V)} (I : Inv X pins σ H s) (S : SMI X.K C m f) (ea : H a = some (.ins C dx fs)) (l : fs.lookup m = none)
    (h : ∀ s', Inv X pins σ H s' → Q (.ref f, []) s') : wpAny (model X.prog X.w) A (getMethod (.ref a) m pl) Q E s := by
  obtain ⟨q, rest, at_, ty, get, tk, rc⟩ := S.ex
  obtain ⟨mA, O, rr, _, _, _⟩ := ins_get I.hok ea
  have hn : mA m = none := RelO.none_of (by rw [← l]; exact rr m)
  obtain ⟨od, J, hl⟩ := O.look
  refine PySem.W.method_usual (r := some (.ref q)) I.kIn J (PySem.W.plainGet_of S.get').1 (PySem.W.plainGet_of S.get').2 at_ ?_ ?_
  · show ((PySem.W.typeIn X.K (.ref q)).any fun t => t != .type "function" && t != .type "method_descriptor" && t != .type "wrapper_descriptor") = true
    rw [ty]
    first
    | rfl
    | decide +kernel
  · refine PySem.W.get_bind I.kIn J (PySem.W.plainGet_of S.get').1 (ClX.find_cm S.ic at_ get tk S.cp (by rw [hl m, hn])) (PySem.W.plainGet_of S.get').2 ?_
    exact wpAny_call (PySem.W.sm_get (s := { s with toks := s.toks + 1 }) I.kIn rc (PySem.W.handed_on rfl (h _ (I.tok _))))
/-- C.m(e, ..), the lacking ones by their defaults -/
theorem pe_smeth {pl : Sem Bool} (he : PE X o ta) (S : SM X.K C m f) (F : FnOk X.prog X.w X.K X.mg X.base CX0 k f fd ps sp) (hr : Room k X.A) (hb : Binds X.K fd ps ds) (hd : Vals dvs ds) (ha : PA X (e :: es) t)
    (hst : starEach (e :: es) X.env = (false, eval e X.env) :: starEach es X.env := by rfl) (hpl : (backTo pos (starEach es X.env)).any (·.1) = false := by rfl)
    (ht : eval (.Call (.Attribute o m apos) (e :: es) [] pos) X.env = (do
      let ov ← eval o X.env
      standAt apos.atName
      let (f, first) ← holding [ov] (getMethod ov m pl)
      callWith pos f first (backTo pos (starEach (e :: es) X.env)) (backToKw pos (keywordEach [] X.env))) := by rfl) :
    PE X (.Call (.Attribute o m apos) (e :: es) [] pos) (fun σ H Q => ta σ H fun x H1 => x = .ref C ∧ t σ H1 fun vs H2 => sp (vs ++ dvs) H2 Q E0) := by
  refine ⟨fun pins s σ H Q I h => ?_⟩
  refine PySem.W.methodCall_KW (pl := pl) (thn (he.run pins s σ H _ I h) fun u s1 ⟨x, H1, I1, rx, ex, q⟩ => ?_) ht
  subst ex
  obtain rfl : u = Value.ref C := rx
  refine getsm_ok I1 S fun s2 I2 => ?_
  refine PySem.W.callWith_K (first := []) (h₀ := X.base) I.ok.mod.kin S.kp (thn (ha.run pos pins s2 σ H1 _ I2 q) fun us s3 ⟨vs, H2, I3, r, q2⟩ => ⟨I3.kIn, ?_⟩) hst hpl
  exact run_fn (us := us) (vs := vs) F hr hb hd pass0 I3 r q2
/-- C.m(e, .., k = v, ..) -/
theorem pe_smethK {pl : Sem Bool} (he : PE X o ta) (S : SM X.K C m f) (F : FnOk X.prog X.w X.K X.mg X.base CX0 k f fd ps sp) (hr : Room k X.A) (hb : KBinds X.K fd ps ks g gV) (ha : PA X (e :: es) t) (hkw : PK X kws tk)
    (hall : (backToKw pos (keywordEach kws X.env)).all (·.1.isSome) = true := by rfl) (hks : (backToKw pos (keywordEach kws X.env)).filterMap (·.1) = ks := by rfl)
    (hst : starEach (e :: es) X.env = (false, eval e X.env) :: starEach es X.env := by rfl)
    (hpl : ((backTo pos (starEach (e :: es) X.env)).any (·.1) || (backToKw pos (keywordEach kws X.env)).any (·.1.isNone)) = false := by rfl)
    (ht : eval (.Call (.Attribute o m apos) (e :: es) kws pos) X.env = (do
      let ov ← eval o X.env
      standAt apos.atName
      let (f, first) ← holding [ov] (getMethod ov m pl)
      callWith pos f first (backTo pos (starEach (e :: es) X.env)) (backToKw pos (keywordEach kws X.env))) := by rfl) :
    PE X (.Call (.Attribute o m apos) (e :: es) kws pos) (fun σ H Q => ta σ H fun x H1 => x = .ref C ∧ t σ H1 fun vs H2 => tk σ H2 fun zs H3 => sp (gV vs zs) H3 Q E0) := by
  refine ⟨fun pins s σ H Q I h => ?_⟩
  refine PySem.W.methodCall_KW (pl := pl) (thn (he.run pins s σ H _ I h) fun u s1 ⟨x, H1, I1, rx, ex, q⟩ => ?_) ht
  subst ex
  obtain rfl : u = Value.ref C := rx
  refine getsm_ok I1 S fun s2 I2 => ?_
  refine PySem.W.callWith_KW (first := []) (h₀ := X.base) I.ok.mod.kin S.kp hall (thn (ha.run pos pins s2 σ H1 _ I2 q) fun us s3 ⟨vs, H2, I3, r, q2⟩ => ?_) hpl hst
  refine thn (hkw.run pos pins s3 σ H2 _ I3 q2) fun ws s4 ⟨zs, H3, I4, rz, q3⟩ => ⟨I4.kIn, ?_⟩
  rw [hks]
  exact run_fnk F hr hb pass0 I4 r rz q3
/-- o.m(e, .., k = v, ..), o an instance of C -/
theorem pe_smethI {pl : Sem Bool} (he : PE X o ta) (S : SMI X.K C m f) (F : FnOk X.prog X.w X.K X.mg X.base CX0 k f fd ps sp) (hr : Room k X.A) (hb : KBinds X.K fd ps ks g gV) (ha : PA X (e :: es) t) (hkw : PK X kws tk)
    (hall : (backToKw pos (keywordEach kws X.env)).all (·.1.isSome) = true := by rfl) (hks : (backToKw pos (keywordEach kws X.env)).filterMap (·.1) = ks := by rfl)
    (hst : starEach (e :: es) X.env = (false, eval e X.env) :: starEach es X.env := by rfl)
    (hpl : ((backTo pos (starEach (e :: es) X.env)).any (·.1) || (backToKw pos (keywordEach kws X.env)).any (·.1.isNone)) = false := by rfl)
    (ht : eval (.Call (.Attribute o m apos) (e :: es) kws pos) X.env = (do
      let ov ← eval o X.env
      standAt apos.atName
      let (f, first) ← holding [ov] (getMethod ov m pl)
      callWith pos f first (backTo pos (starEach (e :: es) X.env)) (backToKw pos (keywordEach kws X.env))) := by rfl) :
    PE X (.Call (.Attribute o m apos) (e :: es) kws pos) (fun σ H Q => ta σ H fun x H1 => ∃ a dx fs, x = .ref a ∧ H1 a = some (.ins C dx fs) ∧ fs.lookup m = none ∧ t σ H1 fun vs H2 => tk σ H2 fun zs H3 => sp (gV vs zs) H3 Q E0) := by
  refine ⟨fun pins s σ H Q I h => ?_⟩
  refine PySem.W.methodCall_KW (pl := pl) (thn (he.run pins s σ H _ I h) fun u s1 ⟨x, H1, I1, rx, a, dx, fs, ex, ea, l, q⟩ => ?_) ht
  subst ex
  obtain rfl : u = Value.ref a := rx
  refine getsmi_ok I1 S ea l fun s2 I2 => ?_
  refine PySem.W.callWith_KW (first := []) (h₀ := X.base) I.ok.mod.kin S.kp hall (thn (ha.run pos pins s2 σ H1 _ I2 q) fun us s3 ⟨vs, H2, I3, r, q2⟩ => ?_) hpl hst
  refine thn (hkw.run pos pins s3 σ H2 _ I3 q2) fun ws s4 ⟨zs, H3, I4, rz, q3⟩ => ⟨I4.kIn, ?_⟩
  rw [hks]
  exact run_fnk F hr hb pass0 I4 r rz q3
end
end
end EV

/-! comprehensions that only make objects: what the new list holds -/
namespace EV
open PySem PySem.Spec PyProof.Rows L2
/-- what the first i turns leave in the new list -/
def gath (f : Nat → Option V) : Nat → List V
  | 0 => []
  | i + 1 => gath f i ++ (f i).toList
theorem gath_le (f : Nat → Option V) : ∀ i, (gath f i).length ≤ i
  | 0 => Nat.le_refl _
  | i + 1 => by
    have := gath_le f i
    show (gath f i ++ (f i).toList).length ≤ i + 1
    rw [List.length_append]
    have : (f i).toList.length ≤ 1 := by cases f i <;> simp
    omega
theorem gath_fm {α : Type} (xs : List α) (f : α → Option V) : ∀ i, i ≤ xs.length → gath (fun j : Nat => xs[j]?.bind f) i = (xs.take i).filterMap f
  | 0, _ => by rw [List.take_zero]; rfl
  | i + 1, h => by
    have hi : i < xs.length := h
    show gath _ i ++ (xs[i]?.bind f).toList = _
    rw [gath_fm xs f i (Nat.le_of_lt hi), List.take_succ, List.filterMap_append, List.getElem?_eq_getElem hi]
    cases e : f xs[i] <;> simp [e]
theorem gath_map {α : Type} (xs : List α) (f : α → V) {n : Nat} (hn : n = xs.length) : gath (fun j : Nat => xs[j]?.map f) n = xs.map f := by
  have e : (fun j : Nat => xs[j]?.map f) = fun j : Nat => xs[j]?.bind fun x => some (f x) := by
    funext j
    cases xs[j]? <;> rfl
  subst hn
  rw [e, gath_fm xs _ _ (Nat.le_refl _), List.take_length]
  induction xs with
  | nil => rfl
  | cons x xs ih => simp
theorem gath_filter {α : Type} (xs : List α) (p : α → Bool) (f : α → V) {n : Nat} (hn : n = xs.length) : gath (fun j : Nat => xs[j]?.bind fun x => if p x = true then some (f x) else none) n = (xs.filter p).map f := by
  subst hn
  rw [gath_fm xs _ _ (Nat.le_refl _), List.take_length]
  induction xs with
  | nil => rfl
  | cons x xs ih =>
    by_cases h : p x = true
    · simp [h, ih]
    · simp [h, ih]
section
variable {J : It} {n : Nat} {G : Hp → Prop} {Y : Nat → Hp → V → Hp → Prop} {g : TG} {tt : TT} {te : TE} {vs : List Nat} {σ : L2.St} {H1 : Hp} {D : Addr} {Qd : Hp → Prop}
theorem lc_fm (w : Walk J n G Y) (f : Nat → Option V) (nD : H1 D = none) (hz : n ≤ 1000000) (hG : ∀ H, Same H1 H → G H)
    (hs : ∀ i x H H' (NT : Hp → Prop) (NE : V → Hp → Prop), i < n → Same H1 H → Y i H x H' → (f i = none → ∀ H3, Same H H3 → NT H3) → (∀ y H4, f i = some y → Same H H4 → NE y H4) →
      g x (wipe σ vs) H' fun σ2 H2 => wipe σ2 vs = wipe σ vs ∧ tt σ2 H2 fun b H3 => if b = true then te σ2 H3 NE else NT H3)
    (hd : ∀ H, Same H1 H → H D = some (.lst (gath f n)) → Qd H) :
    ∃ W : Nat → Nat → Hp → Prop, (∃ m, W 0 m (upd H1 D (.lst []))) ∧ ∀ i m H, W i m H →
      (J.stop i H ∧ Qd H) ∨ (J.go i H ∧ ∃ Nx : Hp → Prop, (∀ H', Nx H' → ∃ m', m' < m ∧ W (i + 1) m' H') ∧ ∀ x H', J.yld i H x H' → g x (wipe σ vs) H' fun σ2 H2 => wipe σ2 vs = wipe σ vs ∧ tt σ2 H2 fun b H3 =>
        if b = true then te σ2 H3 fun y H4 => ∃ acc, H4 D = some (.lst acc) ∧ acc.length < sizeLine ∧ Nx (upd H4 D (.lst (acc ++ [y]))) else Nx H3) := by
  refine lc_it w (fun i H => Same H1 H ∧ H D = some (.lst (gath f i))) ⟨same_upd nD, upd_same⟩ (fun i H _ q => hG H q.1) ?_ fun H q => hd H q.1 q.2
  intro i x H H' hi q y
  refine hs i x H H' _ _ hi q.1 y (fun e H3 s3 => ⟨q.1.trans s3, ?_⟩) (fun y H4 e s4 => ⟨gath f i, s4 _ _ q.2, Nat.lt_of_le_of_lt (gath_le f i) (by rw [sizeLine_eq]; omega), ?_, ?_⟩)
  · show H3 D = some (.lst (gath f i ++ (f i).toList))
    rw [e]
    simpa using s3 _ _ q.2
  · exact same_upd' (q.1.trans s4) nD
  · show upd H4 D _ D = some (.lst (gath f i ++ (f i).toList))
    rw [upd_same, e]
    rfl
end
/-- for a, b in ..: two slots (K told, so that a block's own state does not come into the reading) -/
theorem pg_pair {X : Cx} {K : Fg} {x y : Str} {p1 p2 pos : Pos} {k : Nat} (i j : Nat) (hc : X.calm = true) (hN : X.N.Nodup) (hi : X.N[i]? = some x) (hj : X.N[j]? = some y) (lx : X.env.scope.names.lookup x = some .local)
    (ly : X.env.scope.names.lookup y = some .local) (hK : X.K = K := by rfl) : PG X (.Tuple [.Name x p1, .Name y p2] k pos) (gTup K 2 (gCons (gName i) (gCons (gName j) gNil))) := by
  subst hK
  exact pg_tup hc (pgs_cons (pg_name hN hi (Or.inl lx) (.inr lx)) (pgs_cons (pg_name hN hj (Or.inl ly) (.inr ly)) pgs_nil))
theorem pg_three {X : Cx} {K : Fg} {x y z : Str} {p1 p2 p3 pos : Pos} {k : Nat} (i j l : Nat) (hc : X.calm = true) (hN : X.N.Nodup) (hi : X.N[i]? = some x) (hj : X.N[j]? = some y) (hl : X.N[l]? = some z) (lx : X.env.scope.names.lookup x = some .local)
    (ly : X.env.scope.names.lookup y = some .local) (lz : X.env.scope.names.lookup z = some .local) (hK : X.K = K := by rfl) : PG X (.Tuple [.Name x p1, .Name y p2, .Name z p3] k pos) (gTup K 3 (gCons (gName i) (gCons (gName j) (gCons (gName l) gNil)))) := by
  subst hK
  exact pg_tup hc (pgs_cons (pg_name hN hi (Or.inl lx) (.inr lx)) (pgs_cons (pg_name hN hj (Or.inl ly) (.inr ly)) (pgs_cons (pg_name hN hl (Or.inl lz) (.inr lz)) pgs_nil)))
/-- f'..' of two parts or more, its reading as one word -/
def tJoin (ts : List TE) : TE := fun σ H Q => tJs ts Str.empty σ H fun out H1 => Q (.str out) H1
theorem pe_joinedT {X : Cx} {v1 v2 : Expr} {rest : List Expr} {ts : List TE} {pos : Pos} (h : PJ X (v1 :: v2 :: rest) ts) : PE X (.JoinedStr (v1 :: v2 :: rest) pos) (tJoin ts) := pe_joined h
/-- a value's truth as a test, K told -/
theorem pt_truthK {X : Cx} {K : Fg} {a : Expr} {ta : TE} (ha : PE X a ta) (he : ∀ whole, isTrue a X.env whole = (do let v ← whole; standAt a.pos; holding [v] (truthy v))) (hK : X.K = K := by rfl) :
    PT X a (fun σ H Q => ta σ H fun x H' => ∃ k, TruV K x H' k ∧ Q k H') := by
  subst hK
  exact pt_truth ha he
/-- xs.pop() where K is told -/
theorem pe_popK {X : Cx} {K : Fg} {o : Expr} {to : TE} {apos cpos : Pos} (ho : PE X o to) (hbase : attributeBase o "pop" X.env (eval o X.env) = eval o X.env := by rfl)
    (hline : (apos.endLine == cpos.line) = true := by rfl) (hK : X.K = K := by rfl) : PE X (.Call (.Attribute o "pop" apos) [] [] cpos) (tBM0 K "list" rPop to) := by
  subst hK
  exact pe_bm0 PySem.F.plainAttrs_list PySem.F.slot_list_pop PySem.F.type_list_pop mt_pop ho hbase hline
end EV

/-! calls that may raise: o.m() -/
namespace EV
open PySem PySem.Spec PyProof.Rows L2
section
variable {X : Cx} {e o : Expr} {es : List Expr} {t : TA} {ta : TE} {x m : Str} {p pos apos : Pos} {k : Nat} {ps : List Str} {sp : Sp} {C : Addr} {W : WX}
/-- o.m() -/
theorem pe_methX0 {pl : Sem Bool} (tk : Takes X W) (he : PE X o ta) (c : Cls X.K C) (O : OkM (L2.CX X.prog X.w) X.prog X.w X.K X.mg X.base k C m ps sp) (hr : Room k X.A)
    (ht : eval (.Call (.Attribute o m apos) [] [] pos) X.env = (do
      let ov ← eval o X.env
      standAt apos.atName
      let (f, first) ← holding [ov] (getMethod ov m pl)
      callWith pos f first (backTo pos (starEach [] X.env)) (backToKw pos (keywordEach [] X.env))) := by rfl) :
    PE X (.Call (.Attribute o m apos) [] [] pos) (tMethS C m sp (WE W) ta tNil) := by
  obtain ⟨f, fd, F, hm, hb⟩ := O.ex
  refine ⟨fun pins s σ H Q I h => ?_⟩
  refine PySem.W.methodCall_KW (pl := pl) (thn (he.run pins s σ H _ I h) fun u s1 told => ?_) ht
  obtain ⟨x, H1, I1, rx, a, dx, fs, ex, ea, l, q⟩ := told
  subst ex
  obtain rfl : u = Value.ref a := rx
  refine getmeth_ok I1 ea c hm l ?_
  refine PySem.W.callWith_K0 (first := [.ref a]) I1.kIn hm.kp ?_
  exact run_fnS (us := [.ref a]) (vs := [.ref a]) (E := WE W) F hr hb (passAt tk σ) I1 (.cons rfl .nil) q
end
end EV

/-! C(..), cls(..) and C.m(..) that may raise; classmethods with *args -/
namespace EV
open PySem PySem.Spec PyProof.Rows L2
/-- the class at C, made by an __init__ that may raise -/
structure OkIX (P : Program) (w : World) (K : Fg) (mg : Str → Option Value) (base : Heap) (k : Nat) (x : Str) (C : Addr) (ps : List Str) (sp : Sp) : Prop where
  nm : mg x = some (.ref C)
  ex : ∃ (f : Addr) (fd : FuncData), FnOk P w K mg base (L2.CX P w) k f fd ps sp ∧ Mk K C f ∧ Binds K fd ps []
/-- a classmethod told by its positional promise -/
structure OkCS (cx : CXT) (P : Program) (w : World) (K : Fg) (mg : Str → Option Value) (base : Heap) (k : Nat) (C : Addr) (m : Str) (sp : Sp) : Prop where
  ex : ∃ (p g : Addr) (mc : Value), FnR P w K mg base cx k g sp ∧ ClX.CRead K C mc ∧ ClX.CMet K C mc m p g
def tMakeS (C : Addr) (sp : Sp) (W : WX) (t : TA) : TE := fun σ H Q => t σ H fun vs H1 => ∀ a dx, H1 a = none → H1 dx = none → dx ≠ a →
  sp (.ref a :: vs) (upd (upd H1 dx (.own a)) a (.ins C dx [])) (fun v H2 => v = .non ∧ Q (.ref a) H2) (WE W σ)
def tMakeVS (C : Addr) (sp : Sp) (W : WX) (tf : TE) (t : TA) : TE := fun σ H Q => tf σ H fun c H1 => c = .ref C ∧ tMakeS C sp W t σ H1 Q
section
variable {X : Cx} {e o : Expr} {es : List Expr} {t : TA} {ta : TE} {x y m : Str} {p pos apos : Pos} {k : Nat} {ps : List Str} {sp : Sp} {C : Addr} {W : WX} {pins : List (Addr × Obj)} {σ : L2.St} {H : Hp} {s : Shared} {Q : VK} {us : List Value} {vs : List V}
/-- how a callee's end is told where it was called -/
def RetOk (X : Cx) (pins : List (Addr × Obj)) (σ : L2.St) (Q : VK) : Result → Shared → Prop
  | .ok (.ret v), s' => EP X pins σ Q v s'
  | .ok _, _ => False
  | .error e, s' => X.xe e s'
theorem ret_of {cx : CXT} {E : XK} {r : Result} {s' : Shared} (I : Inv X pins σ H s) (hx : ∀ e, cx X.stack H s E e s' → X.xe e s') (hq : CR cx X.stack X.prog X.w H s Q E r s') : RetOk X pins σ Q r s' := by
  rcases r with er | fl
  · exact hx er hq
  · cases fl with
    | ret u => exact I.after hq
    | next => exact hq
    | brk => exact hq
    | cont => exact hq
theorem run_mkX (tk : Takes X W) (O : OkIX X.prog X.w X.K X.mg X.base k y C ps sp) (hr : Room (k + 1) X.A) (I : Inv X pins σ H s) (r : Vals vs us)
    (h : ∀ a dx, H a = none → H dx = none → dx ≠ a → sp (.ref a :: vs) (upd (upd H dx (.own a)) a (.ins C dx [])) (fun v H2 => v = .non ∧ Q (.ref a) H2) (WE W σ)) :
    wpAny (model X.prog X.w) X.A (call (.ref C) us) (EP X pins σ Q) X.xe s := by
  obtain ⟨f, fd, F, M, hb⟩ := O.ex
  let a := s.heap.objs.size + 1
  have I2 := Inv.made (C := C) I
  have want := h a s.heap.objs.size (I.hok.fresh (Nat.le_succ _)) (I.hok.fresh (Nat.le_refl _)) (Nat.ne_of_lt (Nat.lt_succ_self _))
  have rs : Vals (V.ref a :: vs) (Value.ref a :: us) := .cons rfl r
  have bb := hb _ (Value.ref a :: us) I2.kIn (by rw [List.append_nil, ← rs.length]; exact F.len _ _ _ _ want)
  rw [List.append_nil] at bb
  have go := F.run _ X.stack _ _ ⟨Value.ref a :: us, []⟩ _ _ _ _ (hr.make C us []) (I2.env0.make C us []) bb rs want
  refine wpAny_call (make_map (f := f) I.kIn M.makes M.init (beq_iff_eq.mp M.fn) (codeAny_mono go fun z s' hq => ?_))
  have hh := ret_of I2 (fun er hq => passAt tk σ _ _ _ _ _ I2 hq) hq
  rcases z with er | fl
  · exact hh
  · cases fl with
    | ret u =>
      obtain ⟨v, H3, I3, rv, ev, q3⟩ := hh
      subst ev
      exact ⟨rv, .ref a, H3, I3, rfl, q3⟩
    | next => exact hh.elim
    | brk => exact hh.elim
    | cont => exact hh.elim
/-- C(e, ..) -/
theorem pe_mkX (tk : Takes X W) (O : OkIX X.prog X.w X.K X.mg X.base k x C ps sp) (hr : Room (k + 1) X.A) (ha : PA X (e :: es) t) (hg : Gl X x := by rfl)
    (hdb : (x == ("__debug__" : Str)) = false := by decide) (he : starEach (e :: es) X.env = (false, eval e X.env) :: starEach es X.env := by rfl)
    (hpl : (backTo pos (starEach es X.env)).any (·.1) = false := by rfl) : PE X (.Call (.Name x p) (e :: es) [] pos) (tMakeS C sp W t) := by
  obtain ⟨f, fd, F, M, b⟩ := id O.ex
  constructor
  intro pins s σ H Q I want
  refine wpAny_Call_Name_kw (ld_glob I hg O.nm ?_ hdb)
  refine PySem.W.callWith_K (h₀ := X.base) I.ok.mod.kin M.kp (thn (ha.run pos pins s σ H _ I want) ?_) he hpl
  rintro us s1 ⟨vs, H1, I1, r, q⟩
  exact ⟨I1.kIn, run_mkX tk O hr I1 r q⟩
/-- cls(e, ..) -/
theorem pe_mkVX (tk : Takes X W) (O : OkIX X.prog X.w X.K X.mg X.base k y C ps sp) (hr : Room (k + 1) X.A) (hf : PE X (.Name x p) ta) (ha : PA X (e :: es) t)
    (he : starEach (e :: es) X.env = (false, eval e X.env) :: starEach es X.env := by rfl)
    (hpl : (backTo pos (starEach es X.env)).any (·.1) = false := by rfl) : PE X (.Call (.Name x p) (e :: es) [] pos) (tMakeVS C sp W ta t) := by
  obtain ⟨f, fd, F, M, b⟩ := id O.ex
  constructor
  intro pins s σ H Q I want
  refine wpAny_Call_Name_kw (thn (hf.run pins s σ H _ I want) ?_)
  rintro u s1 ⟨c, H1, I1, rc, ec, q1⟩
  subst ec
  cases (show u = Value.ref C from rc)
  refine PySem.W.callWith_K (h₀ := X.base) I.ok.mod.kin M.kp (thn (ha.run pos pins s1 σ H1 _ I1 q1) ?_) he hpl
  rintro us s2 ⟨vs, H2, I2, r, q⟩
  exact ⟨I2.kIn, run_mkX tk O hr I2 r q⟩
/-- C.m(e, ..), m a classmethod with *args -/
def tCmS (C : Addr) (sp : Sp) (E : L2.St → XK) (ta : TE) (t : TA) : TE := fun σ H Q => ta σ H fun x H1 => x = .ref C ∧ t σ H1 fun vs H2 => sp (.ref C :: vs) H2 Q (E σ)
theorem run_cmS {cx : CXT} {E : XK} {q g : Addr} (F : FnR X.prog X.w X.K X.mg X.base cx k g sp) (hr : Room k X.A) (hx : PassesAt cx X σ E) (I : Inv X ((q, PySem.W.methodObj (.ref g) (.ref C)) :: pins) σ H s)
    (r : Vals vs us) (h : sp (.ref C :: vs) H Q E) : wpAny (model X.prog X.w) X.A (call (.ref q) us) (EP X pins σ Q) X.xe s := by
  have z : wpAny (model X.prog X.w) X.A (call (.ref q) us) (EP X ((q, PySem.W.methodObj (.ref g) (.ref C)) :: pins) σ Q) X.xe s := by
    refine wpAny_call (PySem.W.method_call (ClX.pin_at I) (codeAny_mono (F X.A X.stack s H (.ref C :: us) (.ref C :: vs) Q E hr I.env0 (.cons rfl r) h) fun z s' hq => ?_))
    have hh := ret_of I (fun er hq => hx _ _ _ _ _ I hq) hq
    rcases z with er | fl
    · exact hh
    · cases fl with
      | ret u => exact hh
      | next => exact hh
      | brk => exact hh
      | cont => exact hh
  exact thn z fun _ _ y => ClX.unpinE y
theorem pe_cmS {cx : CXT} {E : L2.St → XK} {pl : Sem Bool} (hx : ∀ σ, PassesAt cx X σ (E σ)) (he : PE X o ta) (O : OkCS cx X.prog X.w X.K X.mg X.base k C m sp) (hr : Room k X.A) (ha : PA X (e :: es) t)
    (hst : starEach (e :: es) X.env = (false, eval e X.env) :: starEach es X.env := by rfl) (hpl : (backTo pos (starEach es X.env)).any (·.1) = false := by rfl)
    (ht : eval (.Call (.Attribute o m apos) (e :: es) [] pos) X.env = (do
      let ov ← eval o X.env
      standAt apos.atName
      let (f, first) ← holding [ov] (getMethod ov m pl)
      callWith pos f first (backTo pos (starEach (e :: es) X.env)) (backToKw pos (keywordEach [] X.env))) := by rfl) :
    PE X (.Call (.Attribute o m apos) (e :: es) [] pos) (tCmS C sp E ta t) := by
  obtain ⟨p, g, mc, F, r, c⟩ := O.ex
  constructor
  intro pins s σ H Q I want
  refine PySem.W.methodCall_KW (pl := pl) (thn (he.run pins s σ H _ I want) ?_) ht
  rintro u s1 ⟨x, H1, I1, rx, ex, w1⟩
  subst ex
  cases (show u = Value.ref C from rx)
  refine ClX.getmethcm_ok I1 r c fun s2 I2 => ClX.callwith_cm I2 (ClX.base_none I1 (Nat.le_refl _)) c.fi (thn (ha.run pos _ s2 σ H1 _ I2 w1) ?_) hst hpl
  rintro us s3 ⟨vs, H2, I3, rv, w2⟩
  exact ⟨⟨ClX.pin_at I3, I3.kIn⟩, run_cmS F hr (hx σ) I3 rv w2⟩
/-- C.m() -/
theorem pe_cmS0 {cx : CXT} {E : L2.St → XK} {pl : Sem Bool} (hx : ∀ σ, PassesAt cx X σ (E σ)) (he : PE X o ta) (O : OkCS cx X.prog X.w X.K X.mg X.base k C m sp) (hr : Room k X.A)
    (ht : eval (.Call (.Attribute o m apos) [] [] pos) X.env = (do
      let ov ← eval o X.env
      standAt apos.atName
      let (f, first) ← holding [ov] (getMethod ov m pl)
      callWith pos f first (backTo pos (starEach [] X.env)) (backToKw pos (keywordEach [] X.env))) := by rfl) :
    PE X (.Call (.Attribute o m apos) [] [] pos) (tCmS C sp E ta tNil) := by
  obtain ⟨p, g, mc, F, r, c⟩ := O.ex
  constructor
  intro pins s σ H Q I want
  refine PySem.W.methodCall_KW (pl := pl) (thn (he.run pins s σ H _ I want) ?_) ht
  rintro u s1 ⟨x, H1, I1, rx, ex, w1⟩
  subst ex
  cases (show u = Value.ref C from rx)
  refine ClX.getmethcm_ok I1 r c fun s2 I2 => PySem.W.callWith_M0 ⟨ClX.pin_at I2, I2.kIn⟩ c.fi ?_
  exact run_cmS (vs := []) F hr (hx σ) I2 .nil w1
end
end EV

/-! one construct that may be served by one of two rules; a loop over a list or a tuple -/
namespace EV
open PySem PySem.Spec PyProof.Rows L2
def iOr (w1 w2 : TI) : TI := fun σ H R => w1 σ H R ∨ w2 σ H R
theorem pi_or {X : Cx} {tg e : Expr} {w1 w2 : TI} (h1 : PI X tg e w1) (h2 : PI X tg e w2) : PI X tg e (iOr w1 w2) := by
  refine ⟨fun pins s σ H R I h => ?_⟩
  rcases h with h | h
  · exact h1.run pins s σ H R I h
  · exact h2.run pins s σ H R I h
def eOr (t1 t2 : TE) : TE := fun σ H Q => t1 σ H Q ∨ t2 σ H Q
theorem pe_orR {X : Cx} {e : Expr} {t1 t2 : TE} (h1 : PE X e t1) (h2 : PE X e t2) : PE X e (eOr t1 t2) := by
  refine ⟨fun pins s σ H Q I h => ?_⟩
  rcases h with h | h
  · exact h1.run pins s σ H Q I h
  · exact h2.run pins s σ H Q I h
/-- e.f within a comprehension: K is told -/
theorem pe_fldK {X : Cx} {K : Fg} {e : Expr} {ta : TE} {f : Str} {pos : Pos} (he : PE X e ta) (hb : attributeBase e f X.env (eval e X.env) = eval e X.env := by rfl) (hK : X.K = K := by rfl) : PE X (.Attribute e f pos) (tFld K ta f) := by
  subst hK
  exact pe_fld he hb
/-- f() -/
theorem pe_callO0 {X : Cx} {x : Str} {p pos : Pos} {k : Nat} {ps : List Str} {sp : Sp} (O : Ok X.prog X.w X.K X.mg X.base k x ps sp) (hr : Room k X.A) (hg : Gl X x := by rfl) (hdb : (x == ("__debug__" : Str)) = false := by decide)
    : PE X (.Call (.Name x p) [] [] pos) (tCall sp [] E0 tNil) := by
  obtain ⟨f, fd, G, m, kp, b⟩ := O.ex
  exact pe_call0 G hr hg m kp b .nil pass0 hdb
/-- a list or a tuple -/
def SqX : Bool → Fg → Hp → Addr → List V → Prop
  | true, K, H, a, xs => SqT K H a xs
  | false, K, H, a, xs => SqL K H a xs
theorem any_walk {K : Fg} {i : Nat} {σ : L2.St} {H : Hp} {R : It → Hp → Prop} {l : Addr} {xs : List V} (bt : Bool) (hi : tVar i σ H fun x G => x = .ref l ∧ G = H) (hl : SqX bt K H l xs)
    (go : ∀ J, Walk J xs.length (fun G => SqX bt K G l xs) (YAt xs) → R J H) : iOr (iList K (tVar i)) (iTup K (tVar i)) σ H R := by
  obtain ⟨x, e, rfl, _⟩ := hi
  cases bt with
  | true => exact .inr ⟨_, e, l, rfl, ⟨xs, hl⟩, go _ walk_tup⟩
  | false => exact .inl ⟨_, e, l, rfl, ⟨xs, hl⟩, go _ walk_list⟩
end EV

/-! an object of an own class with an own __eq__, compared with any value: == and != -/
namespace EV
open PySem PySem.Spec PyProof.Rows L2
/-- the type of a value, as a comparison asks for it -/
inductive TyN (H : Hp) : V → Value → Prop where
  | non : TyN H .non (.type "NoneType")
  | bl (b : Bool) : TyN H (.bl b) (.type "bool")
  | int (i : Int) : TyN H (.int i) (.type "int")
  | str (z : Str) : TyN H (.str z) (.type "str")
  | lst {a : Addr} {xs : List V} (e : H a = some (.lst xs)) : TyN H (.ref a) (.type "list")
  | tup {a : Addr} {xs : List V} (e : H a = some (.tup xs)) : TyN H (.ref a) (.type "tuple")
  | ins {a C dx : Addr} {fs : List (Str × V)} (e : H a = some (.ins C dx fs)) : TyN H (.ref a) (.ref C)
/-- the built-in kinds among them -/
def plainTys : List String := ["NoneType", "bool", "int", "str", "list", "tuple"]
theorem plain_sub {K : Fg} {C : Addr} : ∀ T ∈ plainTys, PySem.W.subIn K (.type T) (.ref C) = some false := by
  intro T hT
  have key : ∀ T ∈ plainTys, ∃ l, fastBuiltinMro T = some l ∧ l.all (fun v => match v with | .type _ => true | _ => false) = true := by
    intro T hT
    simp only [plainTys, List.mem_cons, List.not_mem_nil, or_false] at hT
    rcases hT with rfl | rfl | rfl | rfl | rfl | rfl
    · exact ⟨[.type "NoneType", .type "object"], by decide +kernel, rfl⟩
    · exact ⟨[.type "bool", .type "int", .type "object"], by decide +kernel, rfl⟩
    · exact ⟨[.type "int", .type "object"], by decide +kernel, rfl⟩
    · exact ⟨[.type "str", .type "object"], by decide +kernel, rfl⟩
    · exact ⟨[.type "list", .type "object"], by decide +kernel, rfl⟩
    · exact ⟨[.type "tuple", .type "object"], by decide +kernel, rfl⟩
  obtain ⟨l, e, hl⟩ := key T hT
  show (fastBuiltinMro T).map (·.contains (.ref C)) = some false
  rw [e]
  refine congrArg some (show l.contains (.ref C) = false from ?_)
  clear e
  induction l with
  | nil => rfl
  | cons x l ih =>
    rw [List.all_cons, Bool.and_eq_true] at hl
    rw [List.contains_cons]
    have h1 : (Value.ref C == x) = false := by
      cases x with
      | type n => exact beq_eq_false_iff_ne.mpr (fun q => nomatch q)
      | _ => exact absurd hl.1 Bool.false_ne_true
    rw [h1, Bool.false_or]
    exact ih hl.2
theorem TyN.first {H : Hp} {K : Fg} {C : Addr} {y : V} {tb : Value} (t : TyN H y tb) (hc : ∀ a D dx fs, y = .ref a → H a = some (.ins D dx fs) → D = C) : PySem.W.notFirst K C tb = true := by
  unfold PySem.W.notFirst
  have pl : ∀ T ∈ plainTys, (Value.type T == .ref C || PySem.W.subIn K (.type T) (.ref C) == some false) = true := fun T hT => by
    rw [plain_sub T hT]
    exact Bool.or_true _
  cases t with
  | non => exact pl _ (by decide)
  | bl b => exact pl _ (by decide)
  | int i => exact pl _ (by decide)
  | str z => exact pl _ (by decide)
  | lst e => exact pl _ (by decide)
  | tup e => exact pl _ (by decide)
  | ins e =>
    rw [hc _ _ _ _ rfl e]
    simp
section
variable {X : Cx} {k : Nat} {C : Addr} {ps : List Str} {sp : Sp} {pins : List (Addr × Obj)} {σ : L2.St} {H : Hp} {s : Shared}
theorem TyN.sees {y : V} {u tb : Value} (I : Inv X pins σ H s) (r : RelV y u) (t : TyN H y tb) : PySem.W.Looks (model X.prog X.w) s.heap (typeOf u) tb := by
  have at_obj : ∀ (a : Addr) (T : String), (∃ o, s.heap.get? a = some o ∧ o.cls = .type T) → PySem.W.Looks (model X.prog X.w) s.heap (typeOf (.ref a)) (.type T) := by
    rintro a T ⟨o, ho, hc⟩ A Q E s2 kp q
    exact wpAny_typeOf (show s2.TypeIs (.ref a) T from ⟨o, kp _ _ ho, hc⟩) q
  cases t with
  | non => cases (show u = Value.none from r); exact PySem.W.Looks.of_pure rfl
  | bl b => cases (show u = Value.bool b from r); exact PySem.W.Looks.of_pure rfl
  | int i => obtain ⟨_, q⟩ := (show ∃ t, u = Value.int i t from r); cases q; exact PySem.W.Looks.of_pure rfl
  | str z => obtain ⟨_, q⟩ := (show ∃ t, u = Value.str z t from r); cases q; exact PySem.W.Looks.of_pure rfl
  | lst e =>
    cases (show u = Value.ref _ from r)
    obtain ⟨_, _, n, _, h1⟩ := (show ObjOk X.prog X.w H s.heap _ (.lst _) from I.hok _ _ e)
    exact at_obj _ _ ⟨_, h1, rfl⟩
  | tup e =>
    cases (show u = Value.ref _ from r)
    obtain ⟨_, _, _, o, h1, h2, _⟩ := (show ObjOk X.prog X.w H s.heap _ (.tup _) from I.hok _ _ e)
    exact at_obj _ _ ⟨o, h1, h2⟩
  | ins e =>
    cases (show u = Value.ref _ from r)
    obtain ⟨_, _, J⟩ := ins_inst I e
    exact J.type
/-- x == y, x of the class at C, y any value of these kinds, by C's own __eq__ -/
def rEqA (C : Addr) (sp : Sp) : R2 := fun x y H Q => ∃ a dx fs tb, x = .ref a ∧ H a = some (.ins C dx fs) ∧ TyN H y tb ∧ (∀ b D dy gs, y = .ref b → H b = some (.ins D dy gs) → D = C) ∧ sp [.ref a, y] H (fun v H2 => ∃ c : Bool, v = .bl c ∧ Q (.bl c) H2) E0
theorem op_eqA (O : OkM CX0 X.prog X.w X.K X.mg X.base k C "__eq__" ps sp) (hr : Room k X.A) : OpR X (compareOp .Eq) (rEqA C sp) := by
  intro pins s σ H x y v u Q I rx ry want
  obtain ⟨a, dx, fs, tb, rfl, ea, ty, only, q⟩ := want
  cases (show v = Value.ref a from rx)
  obtain ⟨f, fd, F, hm, hb⟩ := O.ex
  obtain ⟨_, _, J⟩ := ins_inst I ea
  obtain ⟨_, fr⟩ := I.fr
  show wpAny (model X.prog X.w) X.A (richCompare .Eq (.ref a) u) (EP X pins σ Q) X.xe s
  refine PySem.W.cmp_K (op := .Eq) hr.units0 fr I.ok.mod.kin J (ty.sees I ry) (ty.first only) hm.at_ hm.fn ?_
  refine thn (run_fn (us := [.ref a, u]) (vs := [.ref a, y]) (dvs := []) F hr hb .nil pass0 I (.cons rfl (.cons ry .nil)) q) ?_
  rintro r s1 ⟨z, H2, I2, rz, c, rfl, q2⟩
  cases (show r = Value.bool c from rz)
  exact ⟨.bl c, H2, I2, rfl, q2⟩
/-- x != y: the class has no __ne__ of its own -/
def rNeA (C : Addr) (sp : Sp) : R2 := fun x y H Q => ∃ a dx fs tb, x = .ref a ∧ H a = some (.ins C dx fs) ∧ TyN H y tb ∧ (∀ b D dy gs, y = .ref b → H b = some (.ins D dy gs) → D = C) ∧ sp [.ref a, y] H (fun v H2 => ∃ c : Bool, v = .bl c ∧ Q (.bl (!c)) H2) E0
structure NeC (K : Fg) (C : Addr) : Prop where
  at_ : PySem.W.findIn K (.ref C) "__ne__" = some (some (.builtin "object.__ne__"))
  obj : PySem.W.mroIn K C (.type "object") = some true
theorem bound_ne {K : Fg} {M : Model} {A : Around} {E : Value → Shared → Prop} {a : Addr} {ox : Obj} {od : Option Obj} {us : List Value} {Q : Option Value → Shared → Prop} (kin : K.In s.heap) (J : PySem.W.InstAt s.heap a ox C od) (nc : NeC K C)
    (go : wpAny M A (call (.builtin "object.__ne__") (.ref a :: us)) (fun v => Q (some v)) E s) : wpAny M A (callSpecialIfBound? (.ref a) "__ne__" us) Q E s := by
  simp only [callSpecialIfBound?, bindSpecialIfBound?]
  refine wpAny_holding (wpAny_bind (wpAny_bind (wpAny_bind (J.type.here ((PySem.W.looks_findIn kin nc.at_).here ?_)))))
  refine wpAny_bind (wpAny_askSetting (wpAny_ite ?_))
  have last : wpAny M A (call (.builtin "object.__ne__") ([.ref a] ++ us) >>= fun v => pure (some v)) Q E s := wpAny_bind (wpAny_mono go (fun v s2 q => wpAny_pure q) (fun _ _ q => q))
  split
  · exact wpAny_bind (wpAny_of_eq (F.cmp_object.ne.bind _) (wpAny_pure last))
  · exact wpAny_tryCatch (wpAny_bind (wpAny_of_eq (F.cmp_object.ne.bind _) (wpAny_pure last)))
theorem op_neA (O : OkM CX0 X.prog X.w X.K X.mg X.base k C "__eq__" ps sp) (nc : NeC X.K C) (hr : Room (k + 2) X.A) : OpR X (compareOp .NotEq) (rNeA C sp) := by
  intro pins s σ H x y v u Q I rx ry want
  obtain ⟨a, dx, fs, tb, rfl, ea, ty, only, q⟩ := want
  cases (show v = Value.ref a from rx)
  obtain ⟨f, fd, Fo, hm, hb⟩ := O.ex
  obtain ⟨ox, od, J⟩ := ins_inst I ea
  obtain ⟨_, fr⟩ := I.fr
  have kin := I.kIn
  have inner : wpAny (model X.prog X.w) X.A (tryCompare (.ref a) "__ne__" u) (fun r s' => ∃ v, r = some v ∧ EP X pins σ Q v s') X.xe s := by
    unfold tryCompare
    refine wpAny_bind (bound_ne kin J nc (wpAny_call (codeAny_call_builtin F.cmp_object.ne.plain F.cmpEntry_ne (PySem.W.check_slot F.cmpKind_ne F.cmpSplit_ne (J.type.andThen (PySem.W.looks_mroIn kin nc.obj)) (F.cmpArgs_ne _ _) ?_))))
    have h1 : Room (k + 1) X.A.in1 := Room.in1 (k := k + 1) hr
    have hu1 := h1.units0
    have ask : ∀ (R : Option Value → Shared → Prop) (Er : Value → Shared → Prop), (∀ (c : Bool) s', EP X pins σ Q (.bool (!c)) s' → R (some (.bool c)) s') → wpAny (model X.prog X.w) X.A.in1 (callSpecialIfBound? (.ref a) "__eq__" [u]) R Er s := by
      intro R Er hR
      refine PySem.W.ifBound_K kin J hm.at_ hm.fn (run_in (vs := [.ref a, y]) Fo (h1.mono (by omega)) rfl hb I (.cons rfl (.cons ry .nil)) q ?_)
      rintro v s' ⟨z, H2, I2, rz, c, rfl, q2⟩
      cases (show v = Value.bool c from rz)
      exact hR c s' ⟨.bl (!c), H2, I2, rfl, q2⟩
    unfold Builtin.«object.__ne__»
    repeat (first | with_reducible refine ask _ _ ?_ | with_reducible refine wpAny_cRoomFor hu1 ?_ | wp_step)
    intro c s' e
    exact wpAny_bind (wpAny_truthy_bool (wpAny_pure (wpAny_pure ⟨_, rfl, e⟩)))
  have hu0 := hr.units0
  have firstly := ty.first (K := X.K) only
  show wpAny (model X.prog X.w) X.A (richCompare .NotEq (.ref a) u) (EP X pins σ Q) X.xe s
  unfold richCompare
  simp only [oneThing_ref]
  refine wpAny_holding (wpAny_bind (wpAny_cRoomFor hu0 (wpAny_bind (J.type.here (wpAny_bind ((ty.sees I ry).here ?_))))))
  by_cases same : tb = .ref C
  · rw [if_neg (by rw [same]; simp)]
    refine wpAny_bind (wpAny_pure ?_)
    simp only [Bool.false_eq_true, if_false]
    refine wpAny_bind (wpAny_mono inner ?_ (fun _ _ z => z))
    rintro r s' ⟨v, rfl, done⟩
    exact wpAny_pure done
  · have other : PySem.W.subIn X.K tb (.ref C) = some false := by
      unfold PySem.W.notFirst at firstly
      rw [beq_eq_false_iff_ne.mpr same, Bool.false_or] at firstly
      exact eq_of_beq firstly
    rw [if_pos (by simpa using Ne.symm same)]
    refine wpAny_bind ((PySem.W.looks_subIn kin other).here ?_)
    simp only [Bool.false_eq_true, if_false]
    refine wpAny_bind (wpAny_mono inner ?_ (fun _ _ z => z))
    rintro r s' ⟨v, rfl, done⟩
    exact wpAny_pure done
end
end EV

/-! operators of own classes: a op b (both of the class), -a +a ~a, repr, truth -/
namespace EV
open PySem PySem.Spec PyProof.Rows L2
theorem back_of {y : V} {v : Value} {s : Shared} {Q : Value → Shared → Prop} (r : RelV y v) (q : Q v s) : PySem.W.CmpBack Q v s := by
  cases y with
  | non => cases (show v = Value.none from r); exact q
  | bl b => cases (show v = Value.bool b from r); exact q
  | int i => obtain ⟨_, e⟩ := (show ∃ t, v = Value.int i t from r); cases e; exact q
  | str x => obtain ⟨_, e⟩ := (show ∃ t, v = Value.str x t from r); cases e; exact q
  | byt b => obtain ⟨_, e⟩ := (show ∃ t, v = Value.bytes b t from r); cases e; exact q
  | flt b => obtain ⟨_, e⟩ := (show ∃ t, v = Value.float b t from r); cases e; exact q
  | ref a => cases (show v = Value.ref a from r); exact q
  | ty n => cases (show v = Value.type n from r); exact q
section
variable {X : Cx} {k : Nat} {C : Addr} {ps : List Str} {sp : Sp}
/-- a op b, both of the class at C, by C's own method -/
def rBinO (C : Addr) (sp : Sp) : R2 := fun x y H Q => ∃ a b dx dy fs gs, x = .ref a ∧ y = .ref b ∧ H a = some (.ins C dx fs) ∧ H b = some (.ins C dy gs) ∧ sp [.ref a, .ref b] H Q E0
theorem op_binO {op : Operator} {m : Str} (O : OkM CX0 X.prog X.w X.K X.mg X.base k C m ps sp) (first : PySem.W.selfFirst X.K C = true) (hr : Room k X.A) (hm : m = PySem.dunder op.info.2 := by rfl) : OpR X (binaryOp op) (rBinO C sp) := by
  subst hm
  intro pins s σ H x y v u Q I rx ry want
  obtain ⟨a, b, dx, dy, fs, gs, rfl, rfl, ea, eb, q⟩ := want
  cases (show v = Value.ref a from rx)
  cases (show u = Value.ref b from ry)
  obtain ⟨f, fd, F, at_, hb⟩ := O.ex
  obtain ⟨_, _, J⟩ := ins_inst I ea
  obtain ⟨_, _, J'⟩ := ins_inst I eb
  obtain ⟨_, fr⟩ := I.fr
  refine PySem.W.binop_K fr I.ok.mod.kin J J'.type first at_.at_ at_.fn (thn (run_fn (us := [.ref a, .ref b]) (vs := [.ref a, .ref b]) (dvs := []) F hr hb .nil pass0 I (.cons rfl (.cons rfl .nil)) q) ?_)
  rintro r s1 ⟨z, H2, I2, rz, q2⟩
  exact back_of rz ⟨z, H2, I2, rz, q2⟩
/-- op a -/
def rUnO (C : Addr) (sp : Sp) : V → Hp → VK → Prop := fun x H Q => ∃ a dx fs, x = .ref a ∧ H a = some (.ins C dx fs) ∧ sp [.ref a] H Q E0
theorem un_run {m : Str} (O : OkM CX0 X.prog X.w X.K X.mg X.base k C m ps sp) (hr : Room k X.A) {pins : List (Addr × Obj)} {σ : L2.St} {H : Hp} {s : Shared} {a : Addr} {Q : VK} (I : Inv X pins σ H s) (q : sp [.ref a] H Q E0) :
    ∃ f, PySem.W.findIn X.K (.ref C) m = some (some (.ref f)) ∧ PySem.W.isFn X.K (.ref f) = true ∧ wpAny (model X.prog X.w) X.A (call (.ref f) [.ref a]) (EP X pins σ Q) X.xe s := by
  obtain ⟨f, fd, F, at_, hb⟩ := O.ex
  exact ⟨f, at_.at_, at_.fn, run_fn (us := [.ref a]) (vs := [.ref a]) (dvs := []) F hr hb .nil pass0 I (.cons rfl .nil) q⟩
theorem un_negO (O : OkM CX0 X.prog X.w X.K X.mg X.base k C "__neg__" ps sp) (hr : Room k X.A) : UnR X (unaryOp .USub) (rUnO C sp) := by
  rintro pins s σ H x v Q I rx ⟨a, dx, fs, rfl, ea, q⟩
  cases (show v = Value.ref a from rx)
  obtain ⟨f, h1, h2, h3⟩ := un_run O hr I q
  obtain ⟨_, _, J⟩ := ins_inst I ea
  obtain ⟨_, fr⟩ := I.fr
  exact PySem.W.ksp_neg fr I.ok.mod.kin J h1 h2 h3
theorem un_posO (O : OkM CX0 X.prog X.w X.K X.mg X.base k C "__pos__" ps sp) (hr : Room k X.A) : UnR X (unaryOp .UAdd) (rUnO C sp) := by
  rintro pins s σ H x v Q I rx ⟨a, dx, fs, rfl, ea, q⟩
  cases (show v = Value.ref a from rx)
  obtain ⟨f, h1, h2, h3⟩ := un_run O hr I q
  obtain ⟨_, _, J⟩ := ins_inst I ea
  obtain ⟨_, fr⟩ := I.fr
  exact PySem.W.ksp_pos fr I.ok.mod.kin J h1 h2 h3
theorem un_invO (O : OkM CX0 X.prog X.w X.K X.mg X.base k C "__invert__" ps sp) (hr : Room k X.A) : UnR X (unaryOp .Invert) (rUnO C sp) := by
  rintro pins s σ H x v Q I rx ⟨a, dx, fs, rfl, ea, q⟩
  cases (show v = Value.ref a from rx)
  obtain ⟨f, h1, h2, h3⟩ := un_run O hr I q
  obtain ⟨_, _, J⟩ := ins_inst I ea
  obtain ⟨_, fr⟩ := I.fr
  exact PySem.W.ksp_inv fr I.ok.mod.kin J h1 h2 h3
/-- repr(a) -/
theorem call_reprO (O : OkM CX0 X.prog X.w X.K X.mg X.base k C "__repr__" ps sp) (hr : Room (k + 1) X.A) : CallR X (.builtin "repr") (fun xs H Q => ∃ a dx fs, xs = [.ref a] ∧ H a = some (.ins C dx fs) ∧
    sp [.ref a] H (fun v H2 => ∃ z : Str, v = .str z ∧ Q (.str z) H2) E0) := by
  intro pins s σ H xs us Q I r want
  obtain ⟨a, dx, fs, rfl, ea, q⟩ := want
  obtain ⟨u, rfl, ru⟩ := vals1 r
  cases (show u = Value.ref a from ru)
  obtain ⟨f, fd, F, at_, hb⟩ := O.ex
  obtain ⟨_, _, J⟩ := ins_inst I ea
  obtain ⟨_, fr⟩ := I.fr
  have h1 : Room k X.A.in1 := Room.in1 hr
  refine PySem.W.repr_K h1.units0 fr I.ok.mod.kin J at_.at_ at_.fn (run_in (vs := [.ref a]) F h1 rfl hb I (.cons rfl .nil) q ?_)
  rintro v s' ⟨z, H2, I2, rz, y, rfl, q2⟩
  obtain ⟨t, rfl⟩ := rz
  exact ⟨.str y, H2, I2, ⟨_, rfl⟩, q2⟩
/-- the truth of an object with an own __bool__ -/
theorem tru_ownO (O : OkM CX0 X.prog X.w X.K X.mg X.base k C "__bool__" ps sp) (hr : Room k X.A) : TruR X (fun x H Q => ∃ a dx fs, x = .ref a ∧ H a = some (.ins C dx fs) ∧ sp [.ref a] H (fun v H2 => ∃ c : Bool, v = .bl c ∧ Q c H2) E0) := by
  rintro pins s σ H x v Q I rx ⟨a, dx, fs, rfl, ea, q⟩
  cases (show v = Value.ref a from rx)
  obtain ⟨f, h1, h2, h3⟩ := un_run O hr I q
  obtain ⟨_, _, J⟩ := ins_inst I ea
  obtain ⟨_, fr⟩ := I.fr
  refine PySem.W.truthy_K fr I.ok.mod.kin J h1 h2 (thn h3 ?_)
  rintro r s1 ⟨z, H2, I2, rz, c, rfl, q2⟩
  cases (show r = Value.bool c from rz)
  exact ⟨H2, I2, q2⟩
end
end EV

/-! bool(x), x a tuple or an object with an own __bool__ -/
namespace EV
open PySem PySem.Spec PyProof.Rows L2
section
variable {prog : Program} {w : World} {A : Around} {E : Value → Shared → Prop} {s : Shared}
/-- bool(x), from what the truth of x does -/
theorem bool_by {x : Value} {Q : Value → Shared → Prop} (h : wpAny (model prog w) A.in1.in1 (truthy x) (fun b s' => Q (.bool b) s') E s) : wpAny (model prog w) A (call (.type "bool") [x]) Q E s := by
  have t := F.called_bool
  have made : wpAny (model prog w) A.in1.in1 (Builtin.«bool.__new__» ⟨[.type "bool", x], []⟩) (fun fin s' => ∃ b, fin = .done (.ret (.bool b)) ∧ Q (.bool b) s') E s := by
    obtain ⟨hp, g, d, tk, os⟩ := s
    have f1 := F.conv_sub_bool
    repeat (any_goals (first | assumption | (with_reducible refine wpAny_mono h ?_ ?_) | wp_step))
    all_goals first | exact fun _ _ y => y | exact fun b _ q => wpAny_pure ⟨b, rfl, q⟩
  obtain ⟨c, tl, hmro⟩ := t.mro
  have hm := t.made
  have hs := t.sub
  have n1 := t.notType
  have n2 := t.canCreate
  refine wpAny_call (codeAny_of_tree ?_)
  show wpAny _ _ (callAny (.type "bool") _) _ _ _
  refine wpAny_pure ⟨Code.quiet_builtin _ (by decide +kernel), codeAny_builtin F.entry_type_call ?_⟩
  rw [Around.under_plain (weight_type_call_type "bool" [x] []) (units_type_call_type "bool" [x] [])]
  repeat (any_goals (first | assumption | wp_step))
  refine codeAny_mono (codeAny_call_builtin (R := wants (fun v s' => ∃ b, v = .bool b ∧ Q v s') E) t.plain F.entry_bool_new (wpAny_of_eq (F.newCall_bool_1 x) (wpAny_mono made ?_ fun _ _ y => y))) ?_
  · rintro fin s' ⟨b, rfl, q⟩
    exact ⟨b, rfl, q⟩
  · intro r s1 hr
    rcases r with e | fl
    · exact hr
    · cases fl with
      | ret v =>
        obtain ⟨b, rfl, q⟩ := hr
        have hT : s1.TypeIs (.bool b) "bool" := rfl
        have hli := t.init.lookup
        have hbi := t.init.bind (.bool b)
        repeat (any_goals (first | assumption | wp_step))
        refine codeAny_mono (codeAny_call_builtin t.init.plain F.entry_object_init (t.init.check _ _ _ _ _ _ _ _ hT (F.args_object_init_2 _ _) ((object_init_meets t.init.lookup t.made F.newNe_bool) prog w A.in1 (wants (fun v s' => v = .none ∧ Q (.bool b) s') E) s1 ⟨hT, rfl, q⟩))) ?_
        intro r2 s2 hr2
        rcases r2 with e2 | f2
        · exact hr2
        · cases f2 with
          | ret v2 =>
            obtain ⟨rfl, q2⟩ := hr2
            repeat (any_goals (first | assumption | wp_step))
          | next => exact hr2.elim
          | brk => exact hr2.elim
          | cont => exact hr2.elim
      | next => exact hr.elim
      | brk => exact hr.elim
      | cont => exact hr.elim
end
section
variable {X : Cx} {k : Nat} {C : Addr} {ps : List Str} {sp : Sp}
/-- bool(a tuple) -/
theorem call_boolT : CallR X (.type "bool") (fun xs H Q => ∃ (a : Addr) (zs : List V), xs = [.ref a] ∧ SqT X.K H a zs ∧ Q (.bl (!zs.isEmpty)) H) := by
  intro pins s σ H xs us Q I r want
  obtain ⟨a, zs, rfl, hq, q⟩ := want
  obtain ⟨u, rfl, ru⟩ := vals1 r
  cases (show u = Value.ref a from ru)
  obtain ⟨its, rv, pl, hz⟩ := I.tuple hq
  have l1 := line63
  have l2 := rv.length
  exact bool_by (truthy_tuple pl (by simp only [List.size_toArray]; omega) ⟨.bl (!zs.isEmpty), H, I.tok _, by rw [isEmpty_of rv]; rfl, q⟩)
/-- bool(an object with an own __bool__) -/
theorem call_boolO (O : OkM CX0 X.prog X.w X.K X.mg X.base k C "__bool__" ps sp) (hr : Room (k + 2) X.A) : CallR X (.type "bool") (fun xs H Q => ∃ a dx fs, xs = [.ref a] ∧ H a = some (.ins C dx fs) ∧
    sp [.ref a] H (fun v H2 => ∃ c : Bool, v = .bl c ∧ Q (.bl c) H2) E0) := by
  intro pins s σ H xs us Q I r want
  obtain ⟨a, dx, fs, rfl, ea, q⟩ := want
  obtain ⟨u, rfl, ru⟩ := vals1 r
  cases (show u = Value.ref a from ru)
  obtain ⟨f, fd, F, at_, hb⟩ := O.ex
  obtain ⟨_, _, J⟩ := ins_inst I ea
  obtain ⟨_, fr⟩ := I.fr
  have h1 : Room k X.A.in1.in1 := Room.in1 (Room.in1 hr)
  refine bool_by (PySem.W.truthy_K fr I.ok.mod.kin J at_.at_ at_.fn (run_in (vs := [.ref a]) F h1 rfl hb I (.cons rfl .nil) q ?_))
  rintro v s' ⟨z, H2, I2, rz, c, rfl, q2⟩
  cases (show v = Value.bool c from rz)
  exact ⟨.bl c, H2, I2, rfl, q2⟩
end
end EV

/-! several except clauses, each with a name -/
namespace EV
open PySem PySem.Spec PyProof.Rows L2
/-- a clause: the class, the name's slot, the suite -/
structure Cl where
  c : Value
  i : Nat
  ts : Addr → Value → Option Addr → TS
/-- where the suite ends, the name goes -/
def goneE (i : Nat) (D : Ends) : Ends := { nx := fun σ' H' => D.nx (σ'.set i none) H', rt := D.rt, bk := fun σ' H' => D.bk (σ'.set i none) H', ct := fun σ' H' => D.ct (σ'.set i none) H' }
def wAsMany (K : PySem.W.Frag) (Wout : WX) (D : Ends) : List Cl → WX
  | [] => Wout
  | k :: r => fun cls d σ H => ∃ b, PySem.W.exmOne K cls k.c = some b ∧ (b = true → ∀ a, H a = none → k.ts a cls d (goneE k.i D) (σ.set k.i (some (.ref a))) H) ∧ (b = false → wAsMany K Wout D r cls d σ H)
inductive ClsOk (X : Cx) : List ExceptHandler → List Cl → Prop
  | nil : ClsOk X [] []
  | cons {x n : Str} {i : Nat} {c : Value} {ts : Addr → Value → Option Addr → TS} {b₀ : Stmt} {suite : List Stmt} {np pos' : Pos} {hds : List ExceptHandler} {l : List Cl}
      (hi : X.N[i]? = some n) (hln : X.env.kindOf n = some .local) (hc : Names X x c)
      (hsu : ∀ (a : Addr) (oe : Obj) (cls : Value) (d : Option Addr) (pn : List (Addr × Obj)), Zc cls d oe → (∃ vs, oe.data = .fields vs) → PSs (X.suite a ((a, oe) :: pn)) (b₀ :: suite) (ts a cls d)) (r : ClsOk X hds l) :
      ClsOk X (.ExceptHandler (some (.Name x np)) (some n) (b₀ :: suite) pos' :: hds) (⟨c, i, ts⟩ :: l)
/-- an exception that has come down to this frame: B the ground, sI the state without it, s the state with it -/
structure Down (X : Cx) (pins : List (Addr × Obj)) (B : Heap) (sI s : Shared) (σ : L2.St) (H : Hp) (a : Addr) (cls : Value) (d : Option Addr) : Prop where
  stk : X.stack = X.env :: X.outer
  frm : X.env.frame = some X.env.locals
  inv : Inv X pins σ H sI
  bare : ∀ b o, sI.heap.get? b = some o → b ∉ frs X.stack → B.get? b = some o
  up : sI.heap.UpToSlots s.heap
  fl : HandSPX.FlyingZ B (X.env :: X.outer) a (Zc cls d) s.heap
  na : H a = none
  os : s.os = sI.os
  ag : AllBare s.gens
section
variable {X : Cx} {pins : List (Addr × Obj)} {B : Heap} {sI s : Shared} {σ : L2.St} {H : Hp} {a : Addr} {cls : Value} {d : Option Addr}
/-- a suite begins on it -/
theorem Down.enter (w : Down X pins B sI s σ H a cls d) : ∃ oe vs, Zc cls d oe ∧ oe.data = .fields vs ∧ s.heap.get? a = some oe ∧ Inv X pins σ H s ∧ Inv (X.suite a ((a, oe) :: (X.pn ++ pins))) [] σ H s := by
  have J : Inv X pins σ H s := w.inv.landed w.bare w.fl.1 w.up w.os w.ag
  obtain ⟨oe, vs, he, hz, hd⟩ := w.fl.there
  have out : a ∉ frs (X.env :: X.outer) := fun hm => by
    have ff : s.heap.FunFrames B (X.env :: X.outer) := w.fl.2.2.1
    obtain ⟨_, o', e', no⟩ := ff.mem hm
    rw [he] at e'
    injection e' with e'
    exact no vs (e' ▸ hd)
  have mem : ∀ e ∈ X.env :: X.outer, ∀ b, e.frame = some b → b ≠ a := fun e he' b q z => out (List.mem_filterMap.mpr ⟨e, he', z ▸ q⟩)
  refine ⟨oe, vs, hz, hd, he, J, J.suite he hd w.na (fun z => mem X.env List.mem_cons_self _ w.frm z.symm) fun hm => ?_⟩
  obtain ⟨e, h1, h2⟩ := List.mem_filterMap.mp hm
  exact mem e (List.mem_cons_of_mem _ h1) a h2 rfl
/-- it is taken up anew -/
theorem Down.anew (w : Down X pins B sI s σ H a cls d) {h : Heap} (fl : HandSPX.FlyingZ B (X.env :: X.outer) a (Zc cls d) h) (up : s.heap.UpToSlots h) : Down X pins B sI { s with heap := h } σ H a cls d :=
  ⟨w.stk, w.frm, w.inv, w.bare, w.up.trans up, fl, w.na, w.os, w.ag⟩
/-- no clause is left: it flies on -/
theorem Down.on {W : WX} {Q : Flow → Shared → Prop} (w : Down X pins B sI s σ H a cls d) (tk : Takes X W) (hW : W cls d σ H) : wpAny (model X.prog X.w) X.A (handleBy (.ref a) X.env []) Q X.xe s := by
  refine wpAny_handleBy_nil ?_
  obtain ⟨_, _, _, oe, vs, T, oT, ts', he, hz, hd, hT, hr⟩ := id w.fl
  unfold PySem.passOn
  refine wpAny_bind (wpAny_field he hd hT ?_)
  rw [if_neg (fun e : (Value.ref T == Value.none) = true => by simp at e)]
  have q : wpAny (model X.prog X.w) X.A (setFlight (.ref a) X.env.frame) (fun _ s4 => wpAny (model X.prog X.w) X.A (throw (.ref a) : Sem Flow) Q X.xe s4) X.xe s := by
    rw [w.frm]
    exact HandSPX.setFlight_upZ w.fl fun h4 hh4 up4 => wpAny_throw (tk _ _ ⟨a, B, sI, pins, σ, H, cls, d, rfl, w.inv, w.bare, w.up.trans up4, .inr (.inr (by rw [w.stk]; exact hh4)), w.na, w.os, w.ag, hW⟩)
  first
    | exact wpAny_bind (wpAny_pure (wpAny_bind q))
    | exact wpAny_bind q
/-- one clause, with a name -/
theorem Down.clause {x n : Str} {i : Nat} {c : Value} {ts : Addr → Value → Option Addr → TS} {b₀ : Stmt} {suite : List Stmt} {np pos' : Pos} {hds : List ExceptHandler} {D : Ends} {b : Bool}
    (w : Down X pins B sI s σ H a cls d) (hN : X.N.Nodup) (hi : X.N[i]? = some n) (hln : X.env.kindOf n = some .local) (hc : Names X x c)
    (hsu : ∀ (a : Addr) (oe : Obj) (cls : Value) (d : Option Addr) (pn : List (Addr × Obj)), Zc cls d oe → (∃ vs, oe.data = .fields vs) → PSs (X.suite a ((a, oe) :: pn)) (b₀ :: suite) (ts a cls d))
    (hb : PySem.W.exmOne X.K cls c = some b) (yes : b = true → ts a cls d (goneE i D) (σ.set i (some (.ref a))) H)
    (no : b = false → wpAny (model X.prog X.w) X.A (handleBy (.ref a) X.env hds) (SP X pins D) X.xe s) :
    wpAny (model X.prog X.w) X.A (handleBy (.ref a) X.env (.ExceptHandler (some (.Name x np)) (some n) (b₀ :: suite) pos' :: hds)) (SP X pins D) X.xe s := by
  obtain ⟨oe, vs, hz, hd, he, J, S⟩ := w.enter
  refine wpAny_handleBy_cons (codeAny_handlers_test ?_) (fun q => by cases q)
  have looks := PySem.W.exm_one (M := model X.prog X.w) J.kIn (fun A Q E s k q => wpAny_typeOf_ref (k _ _ he) (by rw [hz.1]; exact q)) hb
  have named : ∀ {Q E : Value → Shared → Prop}, Q c s → wpAny (model X.prog X.w) (X.A.mark (some (.ref a))) (eval (.Name x np) X.env) Q E s := fun q => by
    obtain ⟨gl, dbg, hm | ⟨hm, hv, hnn⟩⟩ := hc
    · exact ld_glob S gl hm q dbg
    · exact ld_blt S gl hm hv q hnn dbg
  refine named (looks.here ?_)
  cases b with
  | false => exact no rfl
  | true =>
    refine codeAny_handlers_suite_as (HandSPX.lands_againZ w.fl fun h4 fl4 up4 => ?_)
    obtain ⟨oe4, vs4, hz4, hd4, _, _, S4⟩ := (w.anew fl4 up4).enter
    refine store_ok (X := X.suite a ((a, oe4) :: (X.pn ++ pins))) (v := .ref a) S4 hN hi (.inl hln) rfl (fun s5 S5 => ?_) (.inr hln)
    refine wpAny_mono ((hsu a oe4 cls d (X.pn ++ pins) hz4 ⟨_, hd4⟩).run [] s5 _ H _ S5 (yes rfl)) (fun f s6 hsp => ?_) fun _ _ z => False.elim z
    have out : ∀ {σ6 : L2.St} {H6 : Hp} {Q : Shared → Prop}, Inv (X.suite a ((a, oe4) :: (X.pn ++ pins))) [] σ6 H6 s6 → (∀ s7, Inv X pins (σ6.set i none) H6 s7 → Q s7) →
        wpAny (model X.prog X.w) X.A (do bindName X.env n .none; unbindBehindTheSuite X.env n pos') (fun _ s7 => Q s7) X.xe s6 := fun S6 hq => gone_ok (S6.unsuite w.inv.ok) hN hi hln hq
    match f, hsp with
    | .next, ⟨σ6, H6, S6, q6⟩ => exact out S6 fun s7 J7 => ⟨_, _, J7, q6⟩
    | .brk, ⟨σ6, H6, S6, q6⟩ => exact out S6 fun s7 J7 => ⟨_, _, J7, q6⟩
    | .cont, ⟨σ6, H6, S6, q6⟩ => exact out S6 fun s7 J7 => ⟨_, _, J7, q6⟩
    | .ret u, ⟨v6, σ6, H6, S6, r6, q6⟩ => exact out S6 fun s7 J7 => ⟨_, _, _, J7, r6, q6⟩
/-- clauses with names, one after the other -/
theorem Down.clauses {W : WX} {D : Ends} (tk : Takes X W) (hN : X.N.Nodup) (w : Down X pins B sI s σ H a cls d) : ∀ {hds : List ExceptHandler} {l : List Cl}, ClsOk X hds l → wAsMany X.K W D l cls d σ H →
    wpAny (model X.prog X.w) X.A (handleBy (.ref a) X.env hds) (SP X pins D) X.xe s
  | _, _, .nil, q => w.on tk q
  | _, _, .cons hi hln hc hsu r, ⟨_, hb, yes, no⟩ => w.clause hN hi hln hc hsu hb (fun e => yes e a w.na) fun e => Down.clauses tk hN w r (no e)
end
section
variable {X : Cx} {body : List Stmt} {h₀ : ExceptHandler} {hds : List ExceptHandler} {l : List Cl} {pos : Pos} {tb : WX → TS} {Wout : WX}
theorem ps_try_asMany (hs : X.stack = X.env :: X.outer) (hf : X.env.frame = some X.env.locals) (hN : X.N.Nodup) (tk : Takes X Wout)
    (hb : ∀ (W : WX) (pins : List (Addr × Obj)) (ex : Value → Shared → Prop), Takes (X.tr pins ex) W → PassesOwn (model X.prog X.w) X.A X.env ex → PSs (X.tr pins ex) body (tb W))
    (hh : ClsOk X (h₀ :: hds) l) : PS X (.Try body (h₀ :: hds) [] [] pos) (fun D σ H => tb (wAsMany X.K Wout D l) D σ H) := by
  refine ⟨fun pins s σ H D I h => ?_⟩
  have ok := I.ok
  refine wpAny_Try_except ?_
  have run := (hb (wAsMany X.K Wout D l) (X.pn ++ pins) (fun e s₁ => wpAny (model X.prog X.w) X.A (noteFrame e X.env) (fun _ s₂ => wpAny (model X.prog X.w) X.A (setFlight e none) (fun _ s₃ =>
    wpAny (model X.prog X.w) X.A (handleBy e X.env (h₀ :: hds)) (SP X pins D) X.xe s₃) X.xe s₂) X.xe s₁) (fun u s' xx => by
      obtain ⟨a, B, sI, pins', σ', H', cls, d, rfl, J', nb, up, sky, na, os, ag, q⟩ := xx
      exact Sky.land Zc.steady (ok.frames.trans (by rw [hs])) hf (by rw [← hs]; exact sky) fun h3 fl3 up3 =>
        Down.clauses tk hN (s := { s' with heap := h3 }) ⟨hs, hf, J'.ofTry ok, nb, up.trans up3, fl3, na, os, ag⟩ hh q) PassesOwn.looking).run [] s σ H D (I.toTry _) h
  refine wpAny_mono run (fun f s1 hsp => ?_) (fun e s1 he => he)
  match f, hsp with
  | .next, ⟨σ', H', J', q⟩ => exact wpAny_execs_nil ⟨σ', H', J'.ofTry ok, q⟩
  | .brk, ⟨σ', H', J', q⟩ => exact ⟨σ', H', J'.ofTry ok, q⟩
  | .cont, ⟨σ', H', J', q⟩ => exact ⟨σ', H', J'.ofTry ok, q⟩
  | .ret u, ⟨v, σ', H', J', r, q⟩ => exact ⟨v, σ', H', J'.ofTry ok, r, q⟩
end
end EV

/-! a field of the own error that an except suite holds -/
namespace EV
open PySem PySem.Spec PyProof.Rows L2
def tByX (C : Addr) (f : Str) (a : Addr) (cls : Value) (d : Option Addr) (te : TE) : TE := fun σ H Q => te σ H fun x H1 => x = .ref a ∧ cls = .ref C ∧ ∃ (dd : Addr) (fs : List (Str × V)) (v : V), d = some dd ∧ H1 dd = some (.xd fs) ∧ fs.lookup f = some v ∧ Q v H1
theorem pe_byX {X : Cx} {C a : Addr} {f : Str} {oe : Obj} {cls : Value} {d : Option Addr} {pn : List (Addr × Obj)} {e : Expr} {te : TE} {pos : Pos} (T : XCls X.K C) (no : NoAttr X.K C f) (hz : Zc cls d oe) (hf : ∃ vs, oe.data = .fields vs)
    (he : PE (X.suite a ((a, oe) :: pn)) e te) (hb : attributeBase e f X.env (eval e X.env) = eval e X.env := by rfl) : PE (X.suite a ((a, oe) :: pn)) (.Attribute e f pos) (tByX C f a cls d te) := by
  constructor
  intro pins s σ H Q I h
  refine attr_of hb (thn (he.run pins s σ H _ I h) fun u s1 told => ?_)
  obtain ⟨x, H1, I1, rx, ex, ec, dd, fs, v, ed, ea, l, q⟩ := told
  subst ex ec ed
  obtain rfl : u = Value.ref a := rx
  have ha := (I1.pin (a, oe) (List.mem_append_left _ List.mem_cons_self)).1
  obtain ⟨vs, hd⟩ := hf
  obtain ⟨mA, hns, hr⟩ := (I1.hok dd _ ea : ObjOk X.prog X.w H1 s1.heap dd (.xd fs))
  obtain ⟨od, ho, hl⟩ := lookIn_ns hns
  obtain ⟨u, hu, ru⟩ := RelO.some_of (v := v) (o := mA f) (by rw [← l]; exact hr f)
  have J : PySem.W.InstAt s1.heap a oe C (some od) := ⟨ha, hz.1, by unfold PySem.W.notCls; rw [hd] <;> rfl, by rw [hz.2]; exact ho⟩
  exact HandSPX.exc_get I1.kIn J T.ex.hg T.ex.hk T.ex.hs (PySem.W.findObj_own T.ex.hd no rfl (by rw [hl, hu])) (handed_of ru) ⟨v, H1, I1.tok _, ru, q⟩
end EV

/-! names, signs, makers and texts of libraries, as plain functions -/
namespace LM
open PySem TL L2
abbrev Rw := List Str
structure Op where
  sign : Str
  changed : List Str
  maker : Str
deriving DecidableEq
structure Lib where
  name : Str
  ps : List Str
  kept : List (Str × Str)
  hook : Option Str
  ops : List Op
deriving DecidableEq
def noFields : List Str := ["by", "changes", "name", "of", "to", "world"]
def binary : List Str := ["+", "-", "*", "//", "&", "|", "^", "<<", ">>"]
def unary : List Str := ["neg", "pos", "abs", "invert"]
def rootHooks : List Str := ["named", "call", "names", "renew", "copy", "bare"]
def makers0 : List Str := ["named", "call own", "names own", "bare own"]
def makers1 : List Str := ["named", "call own", "names own", "renew own", "copy own", "bare own", "hook"]
def makers2 : List Str := ["named", "call own", "call other", "call deeper", "call common", "names own", "names other", "names deeper", "names common", "renew own", "renew other", "renew deeper",
  "copy own", "copy other", "copy deeper", "bare own", "hook"]
def makersOf : Nat → List Str
  | 0 => makers0
  | 1 => makers1
  | _ => makers2
def within (lo hi : Nat) (l : List Nat) : Bool := l.all fun c => decide (lo ≤ c) && decide (c ≤ hi)
def small (w : Str) : Bool := decide (1 ≤ w.length) && decide (w.length ≤ 8) && within 97 122 (tl w)
def className (w : Str) : Bool := decide (1 ≤ w.length) && decide (w.length ≤ 8) && within 65 90 ((tl w).take 1) && within 97 122 ((tl w).drop 1)
def fieldName (w : Str) : Bool := small w && !noFields.contains w
def request (w : Str) : Bool := small w && !unary.contains w
def arity (w : Str) : Nat := if binary.contains w then 2 else if unary.contains w then 1 else 0
def firstRow (r : Rw) : Bool := match r with
  | [a, n] => a == "library" && className n
  | _ => false
def hookRow (r : Rw) : Bool := match r with
  | [a, w] => a == "hook" && rootHooks.contains w
  | _ => false
/-- one right `needs` row -/
def needsRow (r : Rw) (found : List Str) : Option Str := match r with
  | [a, f] => if a == "needs" && fieldName f && !found.contains f then some f else none
  | _ => none
def paramsM : List Rw → List Str → List Str
  | [], found => found
  | r :: rs, found => match needsRow r found with
    | some f => paramsM rs (found ++ [f])
    | none => found
def keepsRow (r : Rw) (known : List Str) : Option (Str × Str) := match r with
  | [a, f, o, s] => if a == "keeps" && o == "of" && fieldName f && !known.contains f && known.contains s then some (f, s) else none
  | _ => none
def keptM : List Rw → List Str → List (Str × Str) → List (Str × Str)
  | [], _, found => found
  | r :: rs, known, found => match keepsRow r known with
    | some p => keptM rs (known ++ [p.1]) (found ++ [p])
    | none => found
def selection (ws ps : List Str) : Bool := match ws with
  | [] => true
  | a :: chosen => a == "changes" && !chosen.isEmpty && decide (chosen = ps.filter fun f => chosen.contains f)
def requestM (r : Rw) (ps : List Str) : Option Op := match r with
  | a :: w :: b :: rest => if b == "by" && request w && makers0.contains (Str.join " " rest) then some ⟨w, ps, Str.join " " rest⟩ else none
  | _ => none
def opM (r : Rw) (ps : List Str) : Option Op := match r with
  | [] => none
  | s :: rest =>
    if s == "make" then requestM r ps
    else if (!binary.contains s && !unary.contains s) || !rest.contains "by" then none
    else
      let e := rest.findIdx (· == ("by" : Str))
      let maker := Str.join " " (rest.drop (e + 1))
      if !(makersOf (arity s)).contains maker || !selection (rest.take e) ps then none
      else some ⟨s, (rest.take e).drop 1, maker⟩
/-- from row k on: the operations, or the number of the first wrong row -/
def opsM (ps : List Str) (hook : Option Str) : Nat → List Rw → List Op → Except Nat (List Op)
  | _, [], found => .ok found
  | k, r :: rs, found => match opM r ps with
    | none => .error k
    | some o => if found.length = 6 || (found.map (·.sign)).contains o.sign || (o.maker == "hook" && hook.isNone) then .error k else opsM ps hook (k + 1) rs (found ++ [o])
def opsOf (rows : List Rw) (at_ : Nat) (ps : List Str) (hook : Option Str) : Except Nat (List Op) :=
  if at_ = rows.length then .error at_ else opsM ps hook at_ (rows.drop at_) []
def rowsM (z : Str) : List Rw := (Txt.split z "\n").map fun l => Txt.split l " "
def hookAt (rows : List Rw) (k : Nat) : Option Str := match rows[k]? with
  | some r => if hookRow r then some (r.getD 1 "") else none
  | none => none
def readRows (rows : List Rw) : Except Nat Lib :=
  if !firstRow (rows.headD []) then .error 0 else
  let ps := paramsM ((rows.drop 1).take 3) []
  if ps.isEmpty then .error 1 else
  let at1 := 1 + ps.length
  let kept := keptM ((rows.drop at1).take 2) ps []
  let at2 := at1 + kept.length
  let hk := hookAt rows at2
  let at3 := if hk.isSome then at2 + 1 else at2
  match opsOf rows at3 ps hk with
  | .error k => .error k
  | .ok ops => .ok ⟨(rows.headD []).getD 1 "", ps, kept, hk, ops⟩
def readM (z : Str) : Except Nat Lib := readRows (rowsM z)
def opLine (o : Op) : Str :=
  if arity o.sign = 0 then ("make " : Str) ++ o.sign ++ (" by " : Str) ++ o.maker
  else if o.changed = [] then o.sign ++ (" by " : Str) ++ o.maker
  else o.sign ++ (" changes " : Str) ++ Str.join " " o.changed ++ (" by " : Str) ++ o.maker
def rootLines (n : Str) (ps : List Str) (kept : List (Str × Str)) (hook : Option Str) : List Str :=
  [("library " : Str) ++ n] ++ ps.map (fun p => ("needs " : Str) ++ p) ++ kept.map (fun p => ("keeps " : Str) ++ p.1 ++ (" of " : Str) ++ p.2) ++ (match hook with | some h => [("hook " : Str) ++ h] | none => [])
def linesM (L : Lib) : List Str := rootLines L.name L.ps L.kept L.hook ++ L.ops.map opLine
def textM (L : Lib) : Str := Str.join "\n" (linesM L)
end LM

/-! the text of a library, cut into rows and read back -/
namespace LM
open PySem TL L2
/-! ### cutting at one sign -/
theorem pre1_self (s : Nat) (q : List Nat) : pre [s] (s :: q) = true := pre_self [s] q
theorem pre1_ne {s c : Nat} (q : List Nat) (h : c ≠ s) : pre [s] (c :: q) = false := pre_of_head [] q h
theorem spl1_app (s : Nat) : ∀ (p acc q : List Nat), spl [s] 0 acc (p ++ s :: q) = spl [s] 0 acc p ++ spl [s] 0 [] q
  | [], acc, q => by
    rw [List.nil_append, spl_hit (pre1_self s q), spl_nil]
    rfl
  | c :: p, acc, q => by
    by_cases h : c = s
    · subst h
      rw [List.cons_append, spl_hit (pre1_self _ _), spl_hit (pre1_self _ _)]
      show acc :: spl [c] 0 [] (p ++ c :: q) = acc :: spl [c] 0 [] p ++ spl [c] 0 [] q
      rw [spl1_app c p [] q]
      rfl
    · rw [List.cons_append, spl_miss (pre1_ne _ h), spl_miss (pre1_ne _ h), spl1_app s p _ q]
theorem spl1_join (s : Nat) : ∀ (p acc : List Nat), joinL [s] (spl [s] 0 acc p) = acc ++ p
  | [], acc => by
    rw [spl_nil, List.append_nil]
    rfl
  | c :: p, acc => by
    by_cases h : c = s
    · subst h
      rw [spl_hit (pre1_self _ _)]
      show joinL [c] (acc :: spl [c] 0 [] p) = _
      cases e : spl [c] 0 [] p with
      | nil =>
        have z := spl1_join c p []
        cases p with
        | nil => rw [spl_nil] at e; cases e
        | cons d r =>
          by_cases hd : d = c
          · subst hd; rw [spl_hit (pre1_self _ _)] at e; cases e
          · rw [e] at z; cases z
      | cons a r =>
        show acc ++ ([c] ++ joinL [c] (a :: r)) = _
        rw [← e, spl1_join c p []]
        rfl
    · rw [spl_miss (pre1_ne _ h), spl1_join s p _, List.append_assoc]
      rfl
theorem spl1_ne (s : Nat) (p acc : List Nat) : spl [s] 0 acc p ≠ [] := by
  cases p with
  | nil => rw [spl_nil]; simp
  | cons c p =>
    intro e
    induction p generalizing c acc with
    | nil =>
      by_cases h : c = s
      · subst h; rw [spl_hit (pre1_self _ _)] at e; cases e
      · rw [spl_miss (pre1_ne _ h), spl_nil] at e; cases e
    | cons d p ih =>
      by_cases h : c = s
      · subst h; rw [spl_hit (pre1_self _ _)] at e; cases e
      · rw [spl_miss (pre1_ne _ h)] at e
        exact ih _ _ e
theorem tl_sp : tl (" " : Str) = [32] := by decide +kernel
theorem tl_nl : tl ("\n" : Str) = [10] := by decide +kernel
theorem sp_all : ((" " : Str)).cps.all (· < 256) = true := by decide +kernel
theorem nl_all : (("\n" : Str)).cps.all (· < 256) = true := by decide +kernel
theorem split_sp (x : Str) : (Txt.split x " ").map tl = spl [32] 0 [] (tl x) := by
  rw [split_spl x " " (by rw [tl_sp]; simp) (kind_ok sp_all), tl_sp]
theorem split_app (x y : Str) : Txt.split (x ++ (" " : Str) ++ y) " " = Txt.split x " " ++ Txt.split y " " := by
  refine map_tl_inj ?_
  rw [List.map_append, split_sp, split_sp, split_sp, tl_append, tl_append, tl_sp, List.append_assoc]
  exact spl1_app 32 (tl x) [] (tl y)
theorem split_one {x : Str} (h : 32 ∉ tl x) : Txt.split x " " = [x] := by
  refine map_tl_inj ?_
  rw [split_sp, spl_last1 h]
  rfl
theorem join_split (x : Str) : Str.join " " (Txt.split x " ") = x := by
  refine ext_tl ?_
  rw [tl_join, split_sp, tl_sp, spl1_join 32 (tl x) [], List.nil_append]
theorem split_ne (x : Str) : Txt.split x " " ≠ [] := fun e => by
  have z := split_sp x
  rw [e] at z
  exact spl1_ne 32 (tl x) [] z.symm
theorem split_nl_ne (x : Str) : Txt.split x "\n" ≠ [] := fun e => by
  have z := split_spl x "\n" (by rw [tl_nl]; simp) (kind_ok nl_all)
  rw [e, tl_nl] at z
  exact spl1_ne 10 (tl x) [] z.symm
/-! ### words without blanks -/
def Plain (w : Str) : Prop := 32 ∉ tl w ∧ 10 ∉ tl w
def NoNl (w : Str) : Prop := 10 ∉ tl w
instance (w : Str) : Decidable (Plain w) := inferInstanceAs (Decidable (_ ∧ _))
instance (w : Str) : Decidable (NoNl w) := inferInstanceAs (Decidable (_ ∉ _))
theorem NoNl.app {x y : Str} (h : NoNl x) (k : NoNl y) : NoNl (x ++ y) := by
  unfold NoNl at *
  rw [tl_append, List.mem_append]
  exact fun z => z.elim h k
theorem join_cons2 (s x y : Str) (r : List Str) : Str.join s (x :: y :: r) = x ++ s ++ Str.join s (y :: r) := rfl
theorem split_joinP {ws : List Str} (hne : ws ≠ []) (h : ∀ w ∈ ws, Plain w) : Txt.split (Str.join " " ws) " " = ws := by
  have := split_join (y := (" " : Str)) (s := 32) (S := []) tl_sp sp_all hne (fun p hp => (h p hp).1)
  rwa [join_eq] at this
theorem nonl_join {s : Str} (hs : NoNl s) : ∀ {ws : List Str}, (∀ w ∈ ws, NoNl w) → NoNl (Str.join s ws)
  | [], _ => fun z => by cases z
  | [x], h => h x (List.mem_singleton.mpr rfl)
  | x :: y :: r, h => ((h x (List.mem_cons_self ..)).app hs).app (nonl_join hs fun w hw => h w (List.mem_cons_of_mem _ hw))
theorem within_ne {lo hi c : Nat} {l : List Nat} (h : within lo hi l = true) (hc : c < lo ∨ hi < c) : c ∉ l := fun hm => by
  have := List.all_eq_true.mp h c hm
  simp only [Bool.and_eq_true, decide_eq_true_eq] at this
  omega
theorem plain_small {w : Str} (h : small w = true) : Plain w := by
  unfold small at h
  rw [Bool.and_eq_true] at h
  exact ⟨within_ne h.2 (by omega), within_ne h.2 (by omega)⟩
theorem plain_class {w : Str} (h : className w = true) : Plain w := by
  unfold className at h
  rw [Bool.and_eq_true, Bool.and_eq_true] at h
  have e : tl w = (tl w).take 1 ++ (tl w).drop 1 := (List.take_append_drop 1 _).symm
  constructor
  · rw [e, List.mem_append]
    exact fun z => z.elim (within_ne h.1.2 (by omega)) (within_ne h.2 (by omega))
  · rw [e, List.mem_append]
    exact fun z => z.elim (within_ne h.1.2 (by omega)) (within_ne h.2 (by omega))
theorem plain_field {w : Str} (h : fieldName w = true) : Plain w := by
  unfold fieldName at h
  rw [Bool.and_eq_true] at h
  exact plain_small h.1
theorem plain_of {l : List Str} (h : ∀ w ∈ l, Plain w) {w : Str} (k : l.contains w = true) : Plain w := h w (List.contains_iff_mem.mp k)
/-! ### the rows of a library -/
def opRow (o : Op) : Rw :=
  if arity o.sign = 0 then ([("make" : Str), o.sign, ("by" : Str)] : Rw) ++ Txt.split o.maker " "
  else if o.changed = [] then ([o.sign, ("by" : Str)] : Rw) ++ Txt.split o.maker " "
  else ([o.sign, ("changes" : Str)] : Rw) ++ o.changed ++ ([("by" : Str)] : Rw) ++ Txt.split o.maker " "
def rootRows (n : Str) (ps : List Str) (kept : List (Str × Str)) (hook : Option Str) : List Rw :=
  ([[("library" : Str), n]] : List Rw) ++ ps.map (fun p => [("needs" : Str), p]) ++ kept.map (fun p => [("keeps" : Str), p.1, ("of" : Str), p.2]) ++ (match hook with | some h => [[("hook" : Str), h]] | none => [])
def rowsOf (L : Lib) : List Rw := rootRows L.name L.ps L.kept L.hook ++ L.ops.map opRow
/-- names that make no trouble in a text -/
structure Clean (L : Lib) : Prop where
  name : Plain L.name
  ps : ∀ p ∈ L.ps, Plain p
  kept : ∀ p ∈ L.kept, Plain p.1 ∧ Plain p.2
  hook : ∀ h, L.hook = some h → Plain h
  ops : ∀ o ∈ L.ops, Plain o.sign ∧ (∀ p ∈ o.changed, Plain p) ∧ NoNl o.maker
theorem split_two {x y : Str} (hx : Plain x) (hy : Plain y) : Txt.split (x ++ (" " : Str) ++ y) " " = [x, y] := by
  rw [split_app, split_one hx.1, split_one hy.1]
  rfl
theorem app_assoc (x y z : Str) : x ++ y ++ z = x ++ (y ++ z) := ext_tl (by simp only [tl_append, List.append_assoc])
theorem opLine_row {o : Op} (h : Plain o.sign) (hc : ∀ p ∈ o.changed, Plain p) : Txt.split (opLine o) " " = opRow o := by
  unfold opLine opRow
  have e1 : ("make " : Str) = ("make" : Str) ++ (" " : Str) := by decide +kernel
  have e2 : (" by " : Str) = (" " : Str) ++ ("by" : Str) ++ (" " : Str) := by decide +kernel
  have e3 : (" changes " : Str) = (" " : Str) ++ ("changes" : Str) ++ (" " : Str) := by decide +kernel
  have b : Txt.split ("by" : Str) " " = [("by" : Str)] := split_one (x := ("by" : Str)) (by decide +kernel)
  have m : Txt.split ("make" : Str) " " = [("make" : Str)] := split_one (x := ("make" : Str)) (by decide +kernel)
  have c : Txt.split ("changes" : Str) " " = [("changes" : Str)] := split_one (x := ("changes" : Str)) (by decide +kernel)
  by_cases h0 : arity o.sign = 0
  · rw [if_pos h0, if_pos h0, e1, e2]
    have e : ("make" : Str) ++ (" " : Str) ++ o.sign ++ ((" " : Str) ++ ("by" : Str) ++ (" " : Str)) ++ o.maker = ("make" : Str) ++ (" " : Str) ++ (o.sign ++ (" " : Str) ++ (("by" : Str) ++ (" " : Str) ++ o.maker)) := by
      simp only [app_assoc]
    rw [e, split_app, split_app, split_app, m, b, split_one h.1]
    rfl
  · rw [if_neg h0, if_neg h0]
    by_cases h1 : o.changed = []
    · rw [if_pos h1, if_pos h1, e2]
      have e : o.sign ++ ((" " : Str) ++ ("by" : Str) ++ (" " : Str)) ++ o.maker = o.sign ++ (" " : Str) ++ (("by" : Str) ++ (" " : Str) ++ o.maker) := by simp only [app_assoc]
      rw [e, split_app, split_app, b, split_one h.1]
      rfl
    · rw [if_neg h1, if_neg h1, e2, e3]
      have e : o.sign ++ ((" " : Str) ++ ("changes" : Str) ++ (" " : Str)) ++ Str.join " " o.changed ++ ((" " : Str) ++ ("by" : Str) ++ (" " : Str)) ++ o.maker
          = o.sign ++ (" " : Str) ++ (("changes" : Str) ++ (" " : Str) ++ (Str.join " " o.changed ++ (" " : Str) ++ (("by" : Str) ++ (" " : Str) ++ o.maker))) := by simp only [app_assoc]
      rw [e, split_app, split_app, split_app, split_app, b, c, split_one h.1, split_joinP h1 hc]
      simp only [List.append_assoc, List.cons_append, List.nil_append]
theorem lines_rows {L : Lib} (C : Clean L) : (linesM L).map (fun l => Txt.split l " ") = rowsOf L := by
  unfold linesM rowsOf rootLines rootRows
  have k2 : ∀ {w : Str} (x : Str), Plain w → Plain x → Txt.split (w ++ (" " : Str) ++ x) " " = [w, x] := fun x hw hx => split_two hw hx
  have e1 : ("library " : Str) = ("library" : Str) ++ (" " : Str) := by decide +kernel
  have e2 : ("needs " : Str) = ("needs" : Str) ++ (" " : Str) := by decide +kernel
  have e3 : ("keeps " : Str) = ("keeps" : Str) ++ (" " : Str) := by decide +kernel
  have e4 : (" of " : Str) = (" " : Str) ++ ("of" : Str) ++ (" " : Str) := by decide +kernel
  have e5 : ("hook " : Str) = ("hook" : Str) ++ (" " : Str) := by decide +kernel
  simp only [List.map_append, List.map_map]
  congr 1
  · congr 1
    · congr 1
      · congr 1
        · show [Txt.split (("library " : Str) ++ L.name) " "] = _
          rw [e1, k2 _ (by decide +kernel) C.name]
        · refine List.map_congr_left fun p hp => ?_
          show Txt.split (("needs " : Str) ++ p) " " = _
          rw [e2, k2 _ (by decide +kernel) (C.ps p hp)]
      · refine List.map_congr_left fun p hp => ?_
        show Txt.split (("keeps " : Str) ++ p.1 ++ (" of " : Str) ++ p.2) " " = _
        have e : ("keeps" : Str) ++ (" " : Str) ++ p.1 ++ ((" " : Str) ++ ("of" : Str) ++ (" " : Str)) ++ p.2 = ("keeps" : Str) ++ (" " : Str) ++ (p.1 ++ (" " : Str) ++ (("of" : Str) ++ (" " : Str) ++ p.2)) := by simp only [app_assoc]
        rw [e3, e4, e, split_app, split_app, split_app, split_one (by decide +kernel), split_one (C.kept p hp).1.1, split_one (by decide +kernel), split_one (C.kept p hp).2.1]
        rfl
    · cases e : L.hook with
      | none => rfl
      | some h =>
        show [Txt.split (("hook " : Str) ++ h) " "] = _
        rw [e5, k2 _ (by decide +kernel) (C.hook h e)]
  · refine List.map_congr_left fun o ho => ?_
    exact opLine_row (C.ops o ho).1 (C.ops o ho).2.1
theorem lines_ne (L : Lib) : linesM L ≠ [] := by
  unfold linesM rootLines
  simp
theorem nonl_lit {z : Str} (h : (tl z).contains 10 = false) : NoNl z := fun k => by
  rw [List.contains_iff_mem.mpr k] at h
  cases h
theorem lines_nl {L : Lib} (C : Clean L) : ∀ l ∈ linesM L, NoNl l := by
  intro l hl
  unfold linesM rootLines at hl
  simp only [List.mem_append, List.mem_map] at hl
  have a1 : NoNl ("library " : Str) := nonl_lit (by decide +kernel)
  have a2 : NoNl ("needs " : Str) := nonl_lit (by decide +kernel)
  have a3 : NoNl ("keeps " : Str) := nonl_lit (by decide +kernel)
  have a4 : NoNl (" of " : Str) := nonl_lit (by decide +kernel)
  have a5 : NoNl ("hook " : Str) := nonl_lit (by decide +kernel)
  have a6 : NoNl ("make " : Str) := nonl_lit (by decide +kernel)
  have a7 : NoNl (" by " : Str) := nonl_lit (by decide +kernel)
  have a8 : NoNl (" changes " : Str) := nonl_lit (by decide +kernel)
  have a9 : NoNl (" " : Str) := nonl_lit (by decide +kernel)
  rcases hl with (((hl | ⟨p, hp, rfl⟩) | ⟨p, hp, rfl⟩) | hl) | ⟨o, ho, rfl⟩
  · rw [List.mem_singleton.mp hl]
    exact a1.app C.name.2
  · exact a2.app (C.ps p hp).2
  · exact ((a3.app (C.kept p hp).1.2).app a4).app (C.kept p hp).2.2
  · cases e : L.hook with
    | none => rw [e] at hl; cases hl
    | some h =>
      rw [e] at hl
      rw [List.mem_singleton.mp hl]
      exact a5.app (C.hook h e).2
  · obtain ⟨h1, h2, h3⟩ := C.ops o ho
    unfold opLine
    split
    · exact ((a6.app h1.2).app a7).app h3
    · split
      · exact (NoNl.app (x := o.sign) h1.2 a7).app h3
      · exact (((NoNl.app (x := o.sign) h1.2 a8).app (nonl_join a9 fun w hw => (h2 w hw).2)).app a7).app h3
theorem rows_text {L : Lib} (C : Clean L) : rowsM (textM L) = rowsOf L := by
  unfold rowsM textM
  have := split_join (y := ("\n" : Str)) (s := 10) (S := []) tl_nl nl_all (lines_ne L) (fun p hp => lines_nl C p hp)
  rw [join_eq] at this
  rw [this]
  exact lines_rows C
end LM

/-! the rows of a right library, read -/
namespace LM
open PySem TL L2
def KeptOk : List Str → List (Str × Str) → Prop
  | _, [] => True
  | known, p :: r => fieldName p.1 = true ∧ p.1 ∉ known ∧ p.2 ∈ known ∧ KeptOk (known ++ [p.1]) r
structure RootOk (n : Str) (ps : List Str) (kept : List (Str × Str)) (hook : Option Str) : Prop where
  name : className n = true
  ps0 : ps ≠ []
  ps3 : ps.length ≤ 3
  pf : ∀ p ∈ ps, fieldName p = true
  nd : ps.Nodup
  kept2 : kept.length ≤ 2
  ko : KeptOk ps kept
  hk : ∀ h, hook = some h → h ∈ rootHooks
def needsR (p : Str) : Rw := [("needs" : Str), p]
def keepsR (p : Str × Str) : Rw := [("keeps" : Str), p.1, ("of" : Str), p.2]
theorem needs_none {a : Str} {t : List Str} {found : List Str} (h : a ≠ "needs") : needsRow (a :: t) found = none := by
  unfold needsRow
  split
  · rename_i x f e
    have e1 : a = x := by injection e
    have : (x == ("needs" : Str)) = false := by rw [← e1]; simpa using h
    rw [this]
    rfl
  · rfl
theorem keeps_none {a : Str} {t : List Str} {known : List Str} (h : a ≠ "keeps") : keepsRow (a :: t) known = none := by
  unfold keepsRow
  split
  · rename_i x f o s e
    have e1 : a = x := by injection e
    have : (x == ("keeps" : Str)) = false := by rw [← e1]; simpa using h
    rw [this]
    rfl
  · rfl
theorem hook_none {a : Str} {t : List Str} (h : a ≠ "hook") : hookRow (a :: t) = false := by
  unfold hookRow
  split
  · rename_i x f e
    have e1 : a = x := by injection e
    have : (x == ("hook" : Str)) = false := by rw [← e1]; simpa using h
    rw [this]
    rfl
  · rfl
theorem params_stop {rest : List Rw} {found : List Str} (h : ∀ r ∈ rest.head?, needsRow r found = none) : paramsM rest found = found := by
  cases rest with
  | nil => rfl
  | cons r rs =>
    unfold paramsM
    rw [h r rfl]
theorem params_run : ∀ (ps found : List Str) (rest : List Rw), (∀ p ∈ ps, fieldName p = true) → (found ++ ps).Nodup → (∀ r ∈ rest.head?, needsRow r (found ++ ps) = none) → paramsM (ps.map needsR ++ rest) found = found ++ ps
  | [], found, rest, _, _, h => by
    rw [List.append_nil] at h ⊢
    exact params_stop h
  | p :: ps, found, rest, hf, nd, h => by
    have e : found ++ p :: ps = (found ++ [p]) ++ ps := by rw [List.append_assoc]; rfl
    have np : p ∉ found := by
      intro hm
      rw [List.nodup_append] at nd
      exact nd.2.2 p hm p (List.mem_cons_self ..) rfl
    have q : needsRow (needsR p) found = some p := by
      show (if (("needs" : Str) == "needs") && fieldName p && !found.contains p then some p else none) = some p
      rw [hf p (List.mem_cons_self ..), show found.contains p = false by simpa using np]
      rfl
    show paramsM (needsR p :: (ps.map needsR ++ rest)) found = _
    unfold paramsM
    rw [q]
    rw [e] at nd h ⊢
    exact params_run ps (found ++ [p]) rest (fun z hz => hf z (List.mem_cons_of_mem _ hz)) nd h
theorem kept_stop {rest : List Rw} {known : List Str} {found : List (Str × Str)} (h : ∀ r ∈ rest.head?, ∀ kn, keepsRow r kn = none) : keptM rest known found = found := by
  cases rest with
  | nil => rfl
  | cons r rs =>
    unfold keptM
    rw [h r rfl]
theorem kept_run : ∀ (kept : List (Str × Str)) (known : List Str) (found : List (Str × Str)) (rest : List Rw), KeptOk known kept → (∀ r ∈ rest.head?, ∀ kn, keepsRow r kn = none) → keptM (kept.map keepsR ++ rest) known found = found ++ kept
  | [], known, found, rest, _, h => by
    rw [List.append_nil]
    exact kept_stop h
  | p :: r, known, found, rest, ko, h => by
    obtain ⟨k1, k2, k3, k4⟩ := ko
    have q : keepsRow (keepsR p) known = some p := by
      show (if (("keeps" : Str) == "keeps") && (("of" : Str) == "of") && fieldName p.1 && !known.contains p.1 && known.contains p.2 then some (p.1, p.2) else none) = some p
      rw [k1, show known.contains p.1 = false by simpa using k2, show known.contains p.2 = true by simpa using k3]
      rfl
    show keptM (keepsR p :: (r.map keepsR ++ rest)) known found = _
    unfold keptM
    rw [q]
    have e : found ++ p :: r = (found ++ [p]) ++ r := by rw [List.append_assoc]; rfl
    rw [e]
    exact kept_run r _ _ rest k4 h
/-- rows that begin no root line -/
def Free (R : List Rw) : Prop := ∀ r ∈ R, ∃ a t, r = a :: t ∧ a ≠ ("needs" : Str) ∧ a ≠ ("keeps" : Str) ∧ a ≠ ("hook" : Str)
def hookRows (hook : Option Str) : List Rw := match hook with | some h => [[("hook" : Str), h]] | none => []
theorem read_root {n : Str} {ps : List Str} {kept : List (Str × Str)} {hook : Option Str} {R : List Rw} (C : RootOk n ps kept hook) (F : Free R) :
    readRows (rootRows n ps kept hook ++ R) = match opsOf (rootRows n ps kept hook ++ R) (rootRows n ps kept hook).length ps hook with
      | .error k => .error k
      | .ok ops => .ok ⟨n, ps, kept, hook, ops⟩ := by
  have er : rootRows n ps kept hook ++ R = [("library" : Str), n] :: (ps.map needsR ++ (kept.map keepsR ++ (hookRows hook ++ R))) := by
    unfold rootRows hookRows
    simp only [List.append_assoc, List.cons_append, List.nil_append]
    rfl
  have el : (rootRows n ps kept hook).length = 1 + ps.length + kept.length + (hookRows hook).length := by
    unfold rootRows hookRows
    first
      | (simp only [List.length_append, List.length_map, List.length_cons, List.length_nil, Nat.zero_add]; cases hook <;> rfl)
      | simp only [List.length_append, List.length_map, List.length_cons, List.length_nil, Nat.zero_add]
  rw [er, el]
  generalize hrows : [("library" : Str), n] :: (ps.map needsR ++ (kept.map keepsR ++ (hookRows hook ++ R))) = rows
  have h1 : rows.headD [] = [("library" : Str), n] := by rw [← hrows]; rfl
  have d1 : rows.drop 1 = ps.map needsR ++ (kept.map keepsR ++ (hookRows hook ++ R)) := by rw [← hrows]; rfl
  have hdF : ∀ r ∈ (hookRows hook ++ R).head?, (∀ kn, keepsRow r kn = none) ∧ ∀ f, needsRow r f = none := by
    intro r hr
    cases hook with
    | some h =>
      obtain rfl : [("hook" : Str), h] = r := by simpa [hookRows] using hr
      exact ⟨fun kn => keeps_none (by decide +kernel), fun f => needs_none (by decide +kernel)⟩
    | none =>
      cases R with
      | nil => cases hr
      | cons x xs =>
        obtain rfl : x = r := by simpa [hookRows] using hr
        obtain ⟨a, t, rfl, a1, a2, a3⟩ := F _ (List.mem_cons_self ..)
        exact ⟨fun kn => keeps_none a2, fun f => needs_none a1⟩
  have hP : paramsM ((rows.drop 1).take 3) [] = ps := by
    rw [d1, List.take_append, List.take_of_length_le (by rw [List.length_map]; exact C.ps3)]
    rw [params_run ps [] _ C.pf (by simpa using C.nd) ?_]
    · rfl
    · intro r hr
      have hr2 : r ∈ (kept.map keepsR ++ (hookRows hook ++ R)).head? := by
        rw [List.length_map] at hr
        cases e : 3 - ps.length with
        | zero => rw [e, List.take_zero] at hr; cases hr
        | succ j =>
          rw [e] at hr
          cases z : kept.map keepsR ++ (hookRows hook ++ R) with
          | nil => rw [z] at hr; cases hr
          | cons x xs => rw [z] at hr; exact hr
      cases kept with
      | nil => exact (hdF r hr2).2 _
      | cons p q =>
        obtain rfl : keepsR p = r := by simpa using hr2
        exact needs_none (by decide +kernel)
  have d2 : rows.drop (1 + ps.length) = kept.map keepsR ++ (hookRows hook ++ R) := by
    rw [← List.drop_drop, d1]
    exact List.drop_left' (by rw [List.length_map])
  have hK : keptM ((rows.drop (1 + ps.length)).take 2) ps [] = kept := by
    rw [d2, List.take_append, List.take_of_length_le (by rw [List.length_map]; exact C.kept2)]
    rw [kept_run kept ps [] _ C.ko ?_]
    · rfl
    · intro r hr
      have hr2 : r ∈ (hookRows hook ++ R).head? := by
        rw [List.length_map] at hr
        cases e : 2 - kept.length with
        | zero => rw [e, List.take_zero] at hr; cases hr
        | succ j =>
          rw [e] at hr
          cases z : hookRows hook ++ R with
          | nil => rw [z] at hr; cases hr
          | cons x xs => rw [z] at hr; exact hr
      exact (hdF r hr2).1
  have d3 : rows.drop (1 + ps.length + kept.length) = hookRows hook ++ R := by
    rw [← List.drop_drop, d2]
    exact List.drop_left' (by rw [List.length_map])
  have g3 : rows[1 + ps.length + kept.length]? = (hookRows hook ++ R).head? := by
    rw [← d3, List.head?_drop]
  have hH : hookAt rows (1 + ps.length + kept.length) = hook := by
    unfold hookAt
    rw [g3]
    cases hook with
    | some h =>
      have q : hookRow [("hook" : Str), h] = true := by
        show ((("hook" : Str) == "hook") && rootHooks.contains h) = true
        rw [show rootHooks.contains h = true by simpa using C.hk h rfl]
        rfl
      show (if hookRow [("hook" : Str), h] then some h else none) = some h
      rw [q]
      rfl
    | none =>
      cases R with
      | nil => rfl
      | cons x xs =>
        obtain ⟨a, t, rfl, a1, a2, a3⟩ := F _ (List.mem_cons_self ..)
        show (if hookRow (a :: t) then some ((a :: t).getD 1 "") else none) = none
        rw [hook_none a3]
        rfl
  have hE : ps.isEmpty = false := by
    cases ps with
    | nil => exact absurd rfl C.ps0
    | cons _ _ => rfl
  have hF : firstRow [("library" : Str), n] = true := by
    show ((("library" : Str) == "library") && className n) = true
    rw [C.name]
    rfl
  unfold readRows
  simp only [h1, hF, hP, hE, hK, hH, Bool.not_true, Bool.false_eq_true, if_false]
  have h3 : (if hook.isSome = true then 1 + ps.length + kept.length + 1 else 1 + ps.length + kept.length) = 1 + ps.length + kept.length + (hookRows hook).length := by
    cases hook <;> rfl
  rw [h3]
  rfl
theorem opsOf_root {n : Str} {ps : List Str} {kept : List (Str × Str)} {hook : Option Str} {R : List Rw} (h : R ≠ []) :
    opsOf (rootRows n ps kept hook ++ R) (rootRows n ps kept hook).length ps hook = opsM ps hook (rootRows n ps kept hook).length R [] := by
  unfold opsOf
  rw [if_neg ?_, List.drop_left]
  rw [List.length_append]
  have := List.length_pos_iff.mpr h
  omega
/-! ### operations -/
/-- sign and changed parameters are right; a request changes all -/
structure OpForm (ps : List Str) (o : Op) : Prop where
  sg : binary.contains o.sign = true ∨ unary.contains o.sign = true ∨ (request o.sign = true ∧ o.changed = ps)
  ch : o.changed = ps.filter fun f => o.changed.contains f
  nb : ∀ p ∈ o.changed, p ≠ ("by" : Str)
theorem free_op {ps : List Str} {o : Op} (h : OpForm ps o) (hr : arity o.sign = 0 ∨ binary.contains o.sign = true ∨ unary.contains o.sign = true) : ∃ a t, opRow o = a :: t ∧ a ≠ ("needs" : Str) ∧ a ≠ ("keeps" : Str) ∧ a ≠ ("hook" : Str) := by
  unfold opRow
  by_cases h0 : arity o.sign = 0
  · rw [if_pos h0]
    exact ⟨("make" : Str), _, rfl, by decide +kernel, by decide +kernel, by decide +kernel⟩
  · rw [if_neg h0]
    have hb : o.sign ∈ binary ∨ o.sign ∈ unary := by
      rcases hr with hr | hr | hr
      · exact absurd hr h0
      · exact .inl (List.contains_iff_mem.mp hr)
      · exact .inr (List.contains_iff_mem.mp hr)
    have key : ∀ s ∈ binary ++ unary, s ≠ ("needs" : Str) ∧ s ≠ ("keeps" : Str) ∧ s ≠ ("hook" : Str) := by decide +kernel
    have k := key o.sign (List.mem_append.mpr hb)
    split
    · exact ⟨o.sign, _, rfl, k.1, k.2.1, k.2.2⟩
    · exact ⟨o.sign, _, rfl, k.1, k.2.1, k.2.2⟩
theorem arity_bin {s : Str} (h : binary.contains s = true) : arity s = 2 := by
  unfold arity
  rw [if_pos h]
theorem arity_un {s : Str} (h : binary.contains s = false) (h2 : unary.contains s = true) : arity s = 1 := by
  unfold arity
  rw [h, h2]
  rfl
theorem bin_not_small : ∀ s ∈ binary, small s = false := by decide +kernel
theorem arity_req {s : Str} (h : request s = true) : arity s = 0 ∧ binary.contains s = false ∧ unary.contains s = false := by
  unfold request at h
  rw [Bool.and_eq_true, Bool.not_eq_true'] at h
  have hb : binary.contains s = false := by
    cases e : binary.contains s with
    | false => rfl
    | true =>
      have z := bin_not_small s (List.contains_iff_mem.mp e)
      rw [h.1] at z
      cases z
  refine ⟨?_, hb, h.2⟩
  unfold arity
  rw [hb, h.2]
  rfl
theorem findIdx_by {pre : List Str} {rest : List Str} (h : ∀ p ∈ pre, p ≠ ("by" : Str)) : (pre ++ ("by" : Str) :: rest).findIdx (· == ("by" : Str)) = pre.length := by
  rw [List.findIdx_append]
  have : pre.findIdx (· == ("by" : Str)) = pre.length := List.findIdx_eq_length.mpr fun x hx => by simpa using h x hx
  rw [this]
  simp [List.findIdx_cons]
theorem opM_row {ps : List Str} {o : Op} (h : OpForm ps o) (hps : ps ≠ []) : opM (opRow o) ps = if (makersOf (arity o.sign)).contains o.maker then some o else none := by
  by_cases hr : request o.sign = true ∧ binary.contains o.sign = false ∧ unary.contains o.sign = false
  · obtain ⟨hq, hb, hu⟩ := hr
    have ec : o.changed = ps := by
      rcases h.sg with z | z | z
      · rw [z] at hb; cases hb
      · rw [z] at hu; cases hu
      · exact z.2
    obtain ⟨a0, _, _⟩ := arity_req hq
    have e : opRow o = ("make" : Str) :: o.sign :: ("by" : Str) :: Txt.split o.maker " " := by
      unfold opRow
      rw [if_pos a0]
      rfl
    rw [e, a0]
    show requestM (("make" : Str) :: o.sign :: ("by" : Str) :: Txt.split o.maker " ") ps = _
    unfold requestM
    simp only [join_split]
    show (if (("by" : Str) == "by") && request o.sign && makers0.contains o.maker then some (⟨o.sign, ps, o.maker⟩ : Op) else none) = if makers0.contains o.maker then some o else none
    rw [hq, ← ec]
    rfl
  · have hs : binary.contains o.sign = true ∨ unary.contains o.sign = true := by
      rcases h.sg with z | z | z
      · exact .inl z
      · exact .inr z
      · exact absurd ⟨z.1, (arity_req z.1).2⟩ hr
    have a0 : arity o.sign ≠ 0 := by
      rcases hs with z | z
      · rw [arity_bin z]; decide
      · cases e : binary.contains o.sign with
        | true => rw [arity_bin e]; decide
        | false => rw [arity_un e z]; decide
    have nm : o.sign ≠ ("make" : Str) := by
      have key : ∀ s ∈ binary ++ unary, s ≠ ("make" : Str) := by decide +kernel
      exact key o.sign (List.mem_append.mpr (hs.imp (fun z => List.contains_iff_mem.mp z) fun z => List.contains_iff_mem.mp z))
    have hpre : ∃ pre : List Str, opRow o = o.sign :: (pre ++ ("by" : Str) :: Txt.split o.maker " ") ∧ (∀ p ∈ pre, p ≠ ("by" : Str)) ∧ selection pre ps = true ∧ pre.drop 1 = o.changed := by
      unfold opRow
      rw [if_neg a0]
      by_cases hc : o.changed = []
      · rw [if_pos hc]
        exact ⟨[], rfl, (fun p hp => by cases hp), rfl, by rw [hc]; rfl⟩
      · rw [if_neg hc]
        refine ⟨("changes" : Str) :: o.changed, by simp, ?_, ?_, rfl⟩
        · intro p hp
          rcases List.mem_cons.mp hp with rfl | hp
          · decide +kernel
          · exact h.nb p hp
        · have e1 : o.changed.isEmpty = false := by
            cases e : o.changed with
            | nil => exact absurd e hc
            | cons _ _ => rfl
          show ((("changes" : Str) == "changes") && !o.changed.isEmpty && decide (o.changed = ps.filter fun f => o.changed.contains f)) = true
          rw [e1, decide_eq_true h.ch]
          rfl
    obtain ⟨pre, e, hb, hsel, hd⟩ := hpre
    rw [e]
    unfold opM
    have n1 : (o.sign == ("make" : Str)) = false := by simpa using nm
    have n2 : (!binary.contains o.sign && !unary.contains o.sign) = false := by
      rcases hs with z | z <;> rw [z] <;> simp
    have n3 : (pre ++ ("by" : Str) :: Txt.split o.maker " ").contains "by" = true := by simp
    have ft : (pre ++ ("by" : Str) :: Txt.split o.maker " ").take pre.length = pre := List.take_left
    have fd : (pre ++ ("by" : Str) :: Txt.split o.maker " ").drop (pre.length + 1) = Txt.split o.maker " " := by
      rw [← List.drop_drop, List.drop_left]
      rfl
    simp only [n1, n2, n3, findIdx_by hb, ft, fd, join_split, hsel, hd, Bool.not_true, Bool.or_false, Bool.false_eq_true, if_false]
    cases (makersOf (arity o.sign)).contains o.maker <;> rfl
/-- the maker is allowed -/
def mkOk (hook : Option Str) (o : Op) : Bool := (makersOf (arity o.sign)).contains o.maker && !(o.maker == "hook" && hook.isNone)
theorem ops_run {ps : List Str} {hook : Option Str} (hps : ps ≠ []) : ∀ (ops : List Op) (k : Nat) (found : List Op), (∀ o ∈ ops, OpForm ps o) → found.length + ops.length ≤ 6 → ((found ++ ops).map (·.sign)).Nodup →
    (ops.all (mkOk hook) = true → opsM ps hook k (ops.map opRow) found = .ok (found ++ ops)) ∧ (ops.all (mkOk hook) = false → ∃ i, opsM ps hook k (ops.map opRow) found = .error i)
  | [], k, found, _, _, _ => ⟨fun _ => by rw [List.append_nil]; rfl, fun h => by cases h⟩
  | o :: ops, k, found, hf, hl, nd => by
    have e : found ++ o :: ops = (found ++ [o]) ++ ops := by rw [List.append_assoc]; rfl
    have hl' : found.length + 1 + ops.length ≤ 6 := by
      rw [List.length_cons] at hl
      omega
    have nn : (found.map (·.sign)).contains o.sign = false := by
      rw [List.map_append, List.nodup_append] at nd
      cases z : (found.map (·.sign)).contains o.sign with
      | false => rfl
      | true => exact absurd rfl (nd.2.2 o.sign (List.contains_iff_mem.mp z) o.sign (List.mem_cons_self ..))
    have ih := ops_run (hook := hook) hps ops (k + 1) (found ++ [o]) (fun z hz => hf z (List.mem_cons_of_mem _ hz)) (by rw [List.length_append]; exact hl') (by rw [← e]; exact nd)
    have step : opsM ps hook k (opRow o :: ops.map opRow) found = if mkOk hook o = true then opsM ps hook (k + 1) (ops.map opRow) (found ++ [o]) else .error k := by
      show (match opM (opRow o) ps with
        | none => Except.error k
        | some (o : Op) => if found.length = 6 || (found.map (fun z : Op => z.sign)).contains o.sign || (o.maker == "hook" && hook.isNone) then .error k else opsM ps hook (k + 1) (ops.map opRow) (found ++ [o])) = _
      rw [opM_row (hf o (List.mem_cons_self ..)) hps]
      unfold mkOk
      cases (makersOf (arity o.sign)).contains o.maker with
      | false => rfl
      | true =>
        show (if decide (found.length = 6) || (found.map (fun z : Op => z.sign)).contains o.sign || (o.maker == "hook" && hook.isNone) then Except.error k else opsM ps hook (k + 1) (ops.map opRow) (found ++ [o])) = _
        rw [nn, show decide (found.length = 6) = false from decide_eq_false (by omega)]
        cases (o.maker == ("hook" : Str) && hook.isNone) <;> rfl
    show (_ → opsM ps hook k (opRow o :: ops.map opRow) found = _) ∧ (_ → ∃ i, opsM ps hook k (opRow o :: ops.map opRow) found = _)
    rw [step, e]
    cases hm : mkOk hook o with
    | true =>
      refine ⟨fun h => ?_, fun h => ?_⟩
      · rw [if_pos rfl]
        rw [List.all_cons, hm, Bool.true_and] at h
        exact ih.1 h
      · rw [if_pos rfl]
        rw [List.all_cons, hm, Bool.true_and] at h
        exact ih.2 h
    | false =>
      refine ⟨fun h => ?_, fun _ => ⟨k, rfl⟩⟩
      rw [List.all_cons, hm] at h
      cases h
/-- a library whose makers may be any words -/
structure LibOk (L : Lib) : Prop where
  root : RootOk L.name L.ps L.kept L.hook
  ops0 : L.ops ≠ []
  ops6 : L.ops.length ≤ 6
  nd : (L.ops.map (·.sign)).Nodup
  form : ∀ o ∈ L.ops, OpForm L.ps o
  nl : ∀ o ∈ L.ops, NoNl o.maker
theorem kept_plain : ∀ {kept : List (Str × Str)} {known : List Str}, KeptOk known kept → (∀ p ∈ known, Plain p) → ∀ p ∈ kept, Plain p.1 ∧ Plain p.2
  | [], _, _, _, p, hp => by cases hp
  | q :: r, known, ko, hk, p, hp => by
    obtain ⟨k1, k2, k3, k4⟩ := ko
    rcases List.mem_cons.mp hp with rfl | hp
    · exact ⟨plain_field k1, hk _ k3⟩
    · refine kept_plain k4 (fun z hz => ?_) p hp
      rcases List.mem_append.mp hz with hz | hz
      · exact hk z hz
      · rw [List.mem_singleton.mp hz]
        exact plain_field k1
theorem LibOk.clean {L : Lib} (h : LibOk L) : Clean L := by
  have hp : ∀ p ∈ L.ps, Plain p := fun p hp => plain_field (h.root.pf p hp)
  refine ⟨plain_class h.root.name, hp, kept_plain h.root.ko hp, fun w hw => ?_, fun o ho => ⟨?_, fun p hq => ?_, h.nl o ho⟩⟩
  · have key : ∀ s ∈ rootHooks, Plain s := by decide +kernel
    exact key w (h.root.hk w hw)
  · have key : ∀ s ∈ binary ++ unary, Plain s := by decide +kernel
    rcases (h.form o ho).sg with z | z | z
    · exact key _ (List.mem_append.mpr (.inl (List.contains_iff_mem.mp z)))
    · exact key _ (List.mem_append.mpr (.inr (List.contains_iff_mem.mp z)))
    · unfold request at z
      rw [Bool.and_eq_true] at z
      exact plain_small z.1.1
  · rw [(h.form o ho).ch] at hq
    exact hp p (List.mem_filter.mp hq).1
theorem LibOk.free {L : Lib} (h : LibOk L) : Free (L.ops.map opRow) := by
  intro r hr
  obtain ⟨o, ho, rfl⟩ := List.mem_map.mp hr
  refine free_op (h.form o ho) ?_
  rcases (h.form o ho).sg with z | z | z
  · exact .inr (.inl z)
  · exact .inr (.inr z)
  · exact .inl (arity_req z.1).1
/-- THE TEXT IS READ BACK, if and only if its makers are allowed -/
theorem read_text {L : Lib} (h : LibOk L) : (L.ops.all (mkOk L.hook) = true → readM (textM L) = .ok L) ∧ (L.ops.all (mkOk L.hook) = false → ∃ i, readM (textM L) = .error i) := by
  have hne : L.ops.map opRow ≠ [] := fun e => h.ops0 (List.map_eq_nil_iff.mp e)
  have e : readM (textM L) = match opsM L.ps L.hook (rootRows L.name L.ps L.kept L.hook).length (L.ops.map opRow) [] with
      | .error k => .error k
      | .ok ops => .ok ⟨L.name, L.ps, L.kept, L.hook, ops⟩ := by
    unfold readM
    rw [rows_text h.clean]
    unfold rowsOf
    rw [read_root h.root h.free, opsOf_root hne]
  have r := ops_run (hook := L.hook) h.root.ps0 L.ops (rootRows L.name L.ps L.kept L.hook).length [] h.form (by simpa using h.ops6) (by simpa using h.nd)
  refine ⟨fun k => ?_, fun k => ?_⟩
  · rw [e, r.1 k]
    rfl
  · obtain ⟨i, hi⟩ := r.2 k
    exact ⟨i, by rw [e, hi]⟩
end LM

/-! what a library that was read is like: short names, few of them, signs unlike -/
namespace LM
open PySem TL L2
def Sh (w : Str) : Prop := w.length ≤ 1000
theorem sh_small {w : Str} (h : small w = true) : Sh w := by
  unfold small at h
  rw [Bool.and_eq_true, Bool.and_eq_true] at h
  have := of_decide_eq_true h.1.2
  show w.length ≤ 1000
  omega
theorem sh_field {w : Str} (h : fieldName w = true) : Sh w := by
  unfold fieldName at h
  rw [Bool.and_eq_true] at h
  exact sh_small h.1
theorem sh_class {w : Str} (h : className w = true) : Sh w := by
  unfold className at h
  rw [Bool.and_eq_true, Bool.and_eq_true, Bool.and_eq_true] at h
  have := of_decide_eq_true h.1.1.2
  show w.length ≤ 1000
  omega
instance (w : Str) : Decidable (Sh w) := inferInstanceAs (Decidable (_ ≤ _))
theorem sh_hooks : ∀ w ∈ rootHooks, Sh w := by decide +kernel
theorem sh_signs : ∀ w ∈ binary ++ unary, Sh w := by decide +kernel
theorem sh_makers : ∀ w ∈ makers0 ++ makers1 ++ makers2, Sh w := by decide +kernel
theorem sh_maker {n : Nat} {w : Str} (h : (makersOf n).contains w = true) : Sh w := by
  have hm := List.contains_iff_mem.mp h
  refine sh_makers w ?_
  match n, hm with
  | 0, hm => exact List.mem_append_left _ (List.mem_append_left _ hm)
  | 1, hm => exact List.mem_append_left _ (List.mem_append_right _ hm)
  | _ + 2, hm => exact List.mem_append_right _ hm
theorem strOk_small {w : Str} (h : small w = true) : PySem.PyData.strOk w = true := by
  unfold small at h
  rw [Bool.and_eq_true] at h
  unfold PySem.PyData.strOk
  rw [Array.all_eq_true_iff_forall_mem]
  intro c hc
  have := List.all_eq_true.mp h.2 c (Array.mem_toList_iff.mpr hc)
  simp only [Bool.and_eq_true, decide_eq_true_eq] at this
  exact decide_eq_true (by omega)
theorem strOk_field {w : Str} (h : fieldName w = true) : PySem.PyData.strOk w = true := by
  unfold fieldName at h
  rw [Bool.and_eq_true] at h
  exact strOk_small h.1
theorem needs_some {r : Rw} {found : List Str} {f : Str} (h : needsRow r found = some f) : fieldName f = true := by
  unfold needsRow at h
  split at h
  · split at h
    · rename_i c
      injection h with h
      subst h
      simp only [Bool.and_eq_true] at c
      exact c.1.2
    · cases h
  · cases h
theorem params_good : ∀ (rs : List Rw) (found : List Str), (∀ f ∈ found, fieldName f = true) → (∀ f ∈ paramsM rs found, fieldName f = true) ∧ (paramsM rs found).length ≤ found.length + rs.length
  | [], found, h => ⟨h, Nat.le_refl _⟩
  | r :: rs, found, h => by
    unfold paramsM
    cases e : needsRow r found with
    | none => exact ⟨h, by show found.length ≤ _; omega⟩
    | some f =>
      have ih := params_good rs (found ++ [f]) fun z hz => by
        rcases List.mem_append.mp hz with hz | hz
        · exact h z hz
        · rw [List.mem_singleton.mp hz]
          exact needs_some e
      refine ⟨ih.1, ?_⟩
      have := ih.2
      rw [List.length_append] at this
      show (paramsM rs (found ++ [f])).length ≤ found.length + (rs.length + 1)
      simp at this
      omega
theorem keeps_some {r : Rw} {known : List Str} {p : Str × Str} (h : keepsRow r known = some p) : fieldName p.1 = true ∧ p.2 ∈ known := by
  unfold keepsRow at h
  split at h
  · split at h
    · rename_i c
      injection h with h
      subst h
      simp only [Bool.and_eq_true] at c
      exact ⟨c.1.1.2, List.contains_iff_mem.mp c.2⟩
    · cases h
  · cases h
theorem kept_good : ∀ (rs : List Rw) (known : List Str) (found : List (Str × Str)), (∀ f ∈ known, Sh f) → (∀ p ∈ found, Sh p.1 ∧ Sh p.2) → (∀ p ∈ keptM rs known found, Sh p.1 ∧ Sh p.2) ∧ (keptM rs known found).length ≤ found.length + rs.length
  | [], known, found, _, h => ⟨h, Nat.le_refl _⟩
  | r :: rs, known, found, hk, h => by
    unfold keptM
    cases e : keepsRow r known with
    | none => exact ⟨h, by show found.length ≤ _; omega⟩
    | some p =>
      obtain ⟨e1, e2⟩ := keeps_some e
      have ih := kept_good rs (known ++ [p.1]) (found ++ [p]) (fun z hz => by
        rcases List.mem_append.mp hz with hz | hz
        · exact hk z hz
        · rw [List.mem_singleton.mp hz]
          exact sh_field e1) fun z hz => by
        rcases List.mem_append.mp hz with hz | hz
        · exact h z hz
        · rw [List.mem_singleton.mp hz]
          exact ⟨sh_field e1, hk _ e2⟩
      refine ⟨ih.1, ?_⟩
      have := ih.2
      rw [List.length_append] at this
      show (keptM rs (known ++ [p.1]) (found ++ [p])).length ≤ found.length + (rs.length + 1)
      simp at this
      omega
structure OpGood (ps : List Str) (o : Op) : Prop where
  sign : Sh o.sign
  maker : Sh o.maker
  sub : ∀ p ∈ o.changed, p ∈ ps
  len : o.changed.length ≤ ps.length
theorem op_good {r : Rw} {ps : List Str} {o : Op} (h : opM r ps = some o) : OpGood ps o := by
  unfold opM at h
  split at h
  · cases h
  · rename_i s rest
    split at h
    · unfold requestM at h
      split at h
      · split at h
        · rename_i c
          injection h with h
          subst h
          simp only [Bool.and_eq_true] at c
          refine ⟨?_, sh_maker (n := 0) c.2, fun p hp => hp, Nat.le_refl _⟩
          have q := c.1.2
          unfold request at q
          rw [Bool.and_eq_true] at q
          exact sh_small q.1
        · cases h
      · cases h
    · split at h
      · cases h
      · rename_i c1
        dsimp only at h
        split at h
        · cases h
        · rename_i c2
          injection h with h
          subst h
          rw [Bool.or_eq_true, not_or] at c1 c2
          have hs : s ∈ binary ++ unary := by
            cases hb : binary.contains s with
            | true => exact List.mem_append_left _ (List.contains_iff_mem.mp hb)
            | false =>
              cases hu : unary.contains s with
              | true => exact List.mem_append_right _ (List.contains_iff_mem.mp hu)
              | false => exact absurd (by rw [hb, hu]; rfl) c1.1
          have hm := c2.1
          have hsel := c2.2
          rw [Bool.not_eq_true', Bool.not_eq_false] at hm hsel
          refine ⟨sh_signs s hs, sh_maker hm, ?_, ?_⟩
          · show ∀ p ∈ (rest.take _).drop 1, _
            generalize rest.take _ = ws at hsel
            cases ws with
            | nil => intro p hp; cases hp
            | cons a ch =>
              intro p hp
              unfold selection at hsel
              simp only [Bool.and_eq_true] at hsel
              have e := of_decide_eq_true hsel.2
              have hp' : p ∈ ch := hp
              rw [e] at hp'
              exact (List.mem_filter.mp hp').1
          · show ((rest.take _).drop 1).length ≤ _
            generalize rest.take _ = ws at hsel
            cases ws with
            | nil => exact Nat.zero_le _
            | cons a ch =>
              unfold selection at hsel
              simp only [Bool.and_eq_true] at hsel
              have e := of_decide_eq_true hsel.2
              show ch.length ≤ _
              rw [e]
              exact List.length_filter_le _ _
theorem ops_good {ps : List Str} {hk : Option Str} : ∀ (rs : List Rw) (k : Nat) (found ops : List Op), opsM ps hk k rs found = .ok ops → (∀ o ∈ found, OpGood ps o) → (found.map (·.sign)).Nodup → found.length ≤ 6 →
    (∀ o ∈ ops, OpGood ps o) ∧ (ops.map (·.sign)).Nodup ∧ ops.length ≤ 6
  | [], k, found, ops, h, g, nd, l => by
    injection h with h
    subst h
    exact ⟨g, nd, l⟩
  | r :: rs, k, found, ops, h, g, nd, l => by
    unfold opsM at h
    cases e : opM r ps with
    | none => rw [e] at h; cases h
    | some o =>
      rw [e] at h
      dsimp only at h
      split at h
      · cases h
      · rename_i c
        rw [Bool.or_eq_true, not_or, Bool.or_eq_true, not_or] at c
        have n6 : found.length ≠ 6 := fun z => c.1.1 (decide_eq_true z)
        have ns : o.sign ∉ found.map (·.sign) := fun z => c.1.2 (List.contains_iff_mem.mpr z)
        refine ops_good rs (k + 1) (found ++ [o]) ops h (fun z hz => ?_) ?_ ?_
        · rcases List.mem_append.mp hz with hz | hz
          · exact g z hz
          · rw [List.mem_singleton.mp hz]
            exact op_good e
        · rw [List.map_append, List.nodup_append]
          refine ⟨nd, by simp, fun a ha b hb => ?_⟩
          rw [List.mem_singleton.mp hb]
          exact fun e => ns (by have e' : a = o.sign := e; rw [← e']; exact ha)
        · rw [List.length_append]
          show found.length + 1 ≤ 6
          omega
end LM

/-! sizes of the parts of a text -/
namespace LM
open PySem TL L2
theorem len_joinL (s : Nat) : ∀ ps : List (List Nat), ps ≠ [] → (joinL [s] ps).length + 1 = (ps.map List.length).sum + ps.length
  | [], h => absurd rfl h
  | [p], _ => by simp [joinL]
  | p :: q :: r, _ => by
    have ih := len_joinL s (q :: r) (by simp)
    show (p ++ ([s] ++ joinL [s] (q :: r))).length + 1 = _
    simp only [List.length_append, List.map_cons, List.sum_cons, List.length_cons, List.length_nil] at ih ⊢
    omega
theorem mem_joinL (s : Nat) : ∀ (ps : List (List Nat)) (p : List Nat) (c : Nat), p ∈ ps → c ∈ p → c ∈ joinL [s] ps
  | [], _, _, h, _ => by cases h
  | [q], p, c, h, hc => by
    rw [List.mem_singleton.mp h] at hc
    exact hc
  | q :: q' :: r, p, c, h, hc => by
    show c ∈ q ++ ([s] ++ joinL [s] (q' :: r))
    rcases List.mem_cons.mp h with rfl | h
    · exact List.mem_append_left _ hc
    · exact List.mem_append_right _ (List.mem_append_right _ (mem_joinL s (q' :: r) p c h hc))
theorem split_by {y : Str} {s : Nat} (ey : tl y = [s]) (hy : y.cps.all (· < 256) = true) (x : Str) : (Txt.split x y).map tl = spl [s] 0 [] (tl x) := by
  rw [split_spl x y (by rw [ey]; simp) (kind_ok hy), ey]
theorem split_len {y : Str} {s : Nat} (ey : tl y = [s]) (hy : y.cps.all (· < 256) = true) (x : Str) : ((Txt.split x y).map (·.length)).sum + (Txt.split x y).length = x.length + 1 := by
  have e := split_by ey hy x
  have q := len_joinL s (spl [s] 0 [] (tl x)) (spl1_ne s _ _)
  rw [spl1_join, List.nil_append, ← e, List.map_map, List.length_map, ← len_tl] at q
  have e2 : ((Txt.split x y).map (List.length ∘ tl)) = (Txt.split x y).map (·.length) := List.map_congr_left fun w _ => (len_tl w).symm
  rw [e2] at q
  exact q.symm
theorem split_mem {y : Str} {s : Nat} (ey : tl y = [s]) (hy : y.cps.all (· < 256) = true) {x w : Str} (h : w ∈ Txt.split x y) {c : Nat} (hc : c ∈ tl w) : c ∈ tl x := by
  have e := split_by ey hy x
  have q := mem_joinL s (spl [s] 0 [] (tl x)) (tl w) c (by rw [← e]; exact List.mem_map_of_mem h) hc
  rw [spl1_join, List.nil_append] at q
  exact q
theorem le_sum : ∀ (ws : List Str) (w : Str), w ∈ ws → w.length ≤ (ws.map (·.length)).sum
  | [], _, h => by cases h
  | x :: ws, w, h => by
    rw [List.map_cons, List.sum_cons]
    rcases List.mem_cons.mp h with rfl | h
    · omega
    · have := le_sum ws w h
      omega
theorem strOk_iff (x : Str) : PySem.PyData.strOk x = true ↔ ∀ c ∈ tl x, c < 0x110000 := by
  unfold PySem.PyData.strOk
  rw [Array.all_eq_true_iff_forall_mem]
  constructor
  · intro h c hc
    exact of_decide_eq_true (h c (Array.mem_toList_iff.mp hc))
  · intro h c hc
    exact decide_eq_true (h c (Array.mem_toList_iff.mpr hc))
/-- every row of a text: its words short and fine, few of them -/
theorem rows_ok {z : Str} (hz : z.length ≤ 1000000) (ho : PySem.PyData.strOk z = true) : (∀ r ∈ rowsM z, (∀ w ∈ r, w.length ≤ 1000000 ∧ PySem.PyData.strOk w = true) ∧ (r.map (·.length)).sum + r.length ≤ 2000000 ∧ r ≠ []) ∧ (rowsM z).length ≤ 1000001 ∧ rowsM z ≠ [] := by
  have q1 := split_len tl_nl nl_all z
  refine ⟨fun r hr => ?_, ?_, ?_⟩
  · obtain ⟨l, hl, rfl⟩ := List.mem_map.mp hr
    have q2 := split_len tl_sp sp_all l
    have q3 := le_sum _ l hl
    refine ⟨fun w hw => ⟨?_, ?_⟩, by omega, split_ne l⟩
    · have q4 := le_sum _ w hw
      have c1 := List.length_pos_iff.mpr (split_ne l)
      have c2 := List.length_pos_iff.mpr (split_nl_ne z)
      omega
    · rw [strOk_iff] at ho ⊢
      exact fun c hc => ho c (split_mem tl_nl nl_all hl (split_mem tl_sp sp_all hw hc))
  · unfold rowsM
    rw [List.length_map]
    omega
  · unfold rowsM
    exact fun e => split_nl_ne z (List.map_eq_nil_iff.mp e)
end LM

/-! sizes and signs of a right library's text; its makers exchanged -/
namespace LM
open PySem TL L2
/-- signs below 128 -/
def Asc (w : Str) : Prop := ∀ c ∈ tl w, c < 128
instance (w : Str) : Decidable (Asc w) := inferInstanceAs (Decidable (∀ c ∈ tl w, c < 128))
theorem Asc.ok {w : Str} (h : Asc w) : PySem.PyData.strOk w = true := (strOk_iff w).mpr fun c hc => Nat.lt_trans (h c hc) (by decide)
theorem Asc.app {x y : Str} (h : Asc x) (k : Asc y) : Asc (x ++ y) := fun c hc => by
  rw [tl_append, List.mem_append] at hc
  exact hc.elim (h c) (k c)
theorem asc_join {s : Str} (hs : Asc s) : ∀ {ws : List Str}, (∀ w ∈ ws, Asc w) → Asc (Str.join s ws)
  | [], _ => fun c hc => by cases hc
  | [x], h => h x (List.mem_singleton.mpr rfl)
  | x :: y :: r, h => by
    rw [join_cons2]
    exact ((h x (List.mem_cons_self ..)).app hs).app (asc_join hs fun w hw => h w (List.mem_cons_of_mem _ hw))
theorem asc_within {lo hi : Nat} {l : List Nat} (h : within lo hi l = true) (hh : hi < 128) : ∀ c ∈ l, c < 128 := fun c hc => by
  have := List.all_eq_true.mp h c hc
  simp only [Bool.and_eq_true, decide_eq_true_eq] at this
  omega
theorem asc_small {w : Str} (h : small w = true) : Asc w := by
  unfold small at h
  rw [Bool.and_eq_true] at h
  exact asc_within h.2 (by decide)
theorem asc_field {w : Str} (h : fieldName w = true) : Asc w := by
  unfold fieldName at h
  rw [Bool.and_eq_true] at h
  exact asc_small h.1
theorem asc_class {w : Str} (h : className w = true) : Asc w := by
  unfold className at h
  rw [Bool.and_eq_true, Bool.and_eq_true] at h
  have e : tl w = (tl w).take 1 ++ (tl w).drop 1 := (List.take_append_drop 1 _).symm
  intro c hc
  rw [e, List.mem_append] at hc
  exact hc.elim (asc_within h.1.2 (by decide) c) (asc_within h.2 (by decide) c)
theorem le8_small {w : Str} (h : small w = true) : w.length ≤ 8 := by
  unfold small at h
  rw [Bool.and_eq_true, Bool.and_eq_true] at h
  exact of_decide_eq_true h.1.2
theorem le8_field {w : Str} (h : fieldName w = true) : w.length ≤ 8 := by
  unfold fieldName at h
  rw [Bool.and_eq_true] at h
  exact le8_small h.1
theorem le8_class {w : Str} (h : className w = true) : w.length ≤ 8 := by
  unfold className at h
  rw [Bool.and_eq_true, Bool.and_eq_true, Bool.and_eq_true] at h
  exact of_decide_eq_true h.1.1.2
theorem len_cat (x y : Str) : (x ++ y).length = x.length + y.length := by rw [len_tl, len_tl, len_tl, tl_append, List.length_append]
theorem len_joined (s : Str) : ∀ (ws : List Str) (b : Nat), (∀ w ∈ ws, w.length ≤ b) → (Str.join s ws).length ≤ ws.length * (b + s.length)
  | [], _, _ => by show 0 ≤ _; omega
  | [x], b, h => by
    have := h x (List.mem_singleton.mpr rfl)
    show x.length ≤ 1 * _
    omega
  | x :: y :: r, b, h => by
    have q := len_joined s (y :: r) b fun w hw => h w (List.mem_cons_of_mem _ hw)
    have h1 := h x (List.mem_cons_self ..)
    rw [join_cons2, len_cat, len_cat]
    rw [List.length_cons, Nat.add_mul]
    omega
/-- what a maker in a text may be -/
structure MkFine (m : Str) : Prop where
  len : m.length ≤ 100
  asc : Asc m
  nl : NoNl m
theorem mk_fine : ∀ m ∈ makers0 ++ makers1 ++ makers2, m.length ≤ 100 ∧ Asc m ∧ 10 ∉ tl m := by decide +kernel
theorem maker_fine {n : Nat} {m : Str} (h : m ∈ makersOf n) : MkFine m := by
  have : m ∈ makers0 ++ makers1 ++ makers2 := by
    match n with
    | 0 => exact List.mem_append_left _ (List.mem_append_left _ h)
    | 1 => exact List.mem_append_left _ (List.mem_append_right _ h)
    | _ + 2 => exact List.mem_append_right _ h
  obtain ⟨h1, h2, h3⟩ := mk_fine m this
  exact ⟨h1, h2, h3⟩
theorem hook_fine : ∀ h ∈ rootHooks, h.length ≤ 8 ∧ Asc h := by decide +kernel
theorem sign_fine : ∀ s ∈ binary ++ unary, s.length ≤ 8 ∧ Asc s ∧ PySem.PyData.strOk s = true := by decide +kernel
theorem n_lib : ("library " : Str).length = 8 ∧ ("needs " : Str).length = 6 ∧ ("keeps " : Str).length = 6 ∧ (" of " : Str).length = 4 ∧ ("hook " : Str).length = 5 ∧ ("make " : Str).length = 5 ∧ (" by " : Str).length = 4 ∧ (" changes " : Str).length = 9 ∧ (" " : Str).length = 1 ∧ ("\n" : Str).length = 1 := by decide +kernel
theorem a_lib : Asc "library " ∧ Asc "needs " ∧ Asc "keeps " ∧ Asc " of " ∧ Asc "hook " ∧ Asc "make " ∧ Asc " by " ∧ Asc " changes " ∧ Asc " " ∧ Asc "\n" := by decide +kernel
theorem kept_fields : ∀ {kept : List (Str × Str)} {known : List Str}, KeptOk known kept → (∀ p ∈ known, fieldName p = true) → ∀ p ∈ kept, fieldName p.1 = true ∧ fieldName p.2 = true
  | [], _, _, _, p, hp => by cases hp
  | q :: r, known, ko, hk, p, hp => by
    obtain ⟨k1, k2, k3, k4⟩ := ko
    rcases List.mem_cons.mp hp with e | hp
    · subst e
      exact ⟨k1, hk _ k3⟩
    · refine kept_fields k4 (fun z hz => ?_) p hp
      rcases List.mem_append.mp hz with hz | hz
      · exact hk z hz
      · rw [List.mem_singleton.mp hz]
        exact k1
theorem LibOk.sign {L : Lib} (h : LibOk L) {o : Op} (ho : o ∈ L.ops) : o.sign.length ≤ 8 ∧ Asc o.sign := by
  rcases (h.form o ho).sg with z | z | z
  · have := sign_fine o.sign (List.mem_append_left _ (List.contains_iff_mem.mp z))
    exact ⟨this.1, this.2.1⟩
  · have := sign_fine o.sign (List.mem_append_right _ (List.contains_iff_mem.mp z))
    exact ⟨this.1, this.2.1⟩
  · have q := z.1
    unfold request at q
    rw [Bool.and_eq_true] at q
    exact ⟨le8_small q.1, asc_small q.1⟩
theorem LibOk.sub {L : Lib} (h : LibOk L) {o : Op} (ho : o ∈ L.ops) : (∀ p ∈ o.changed, p ∈ L.ps) ∧ o.changed.length ≤ 3 := by
  have e := (h.form o ho).ch
  constructor
  · intro p hp
    rw [e] at hp
    exact (List.mem_filter.mp hp).1
  · rw [e]
    exact Nat.le_trans (List.length_filter_le ..) h.root.ps3
theorem LibOk.line {L : Lib} (h : LibOk L) {o : Op} (ho : o ∈ L.ops) (hm : MkFine o.maker) : (opLine o).length ≤ 200 ∧ Asc (opLine o) := by
  obtain ⟨s1, s2⟩ := h.sign ho
  obtain ⟨c1, c2⟩ := h.sub ho
  obtain ⟨n1, n2, n3, n4, n5, n6, n7, n8, n9, n10⟩ := n_lib
  obtain ⟨a1, a2, a3, a4, a5, a6, a7, a8, a9, a10⟩ := a_lib
  have m1 := hm.len
  have q := len_joined " " o.changed 8 fun w hw => le8_field (h.root.pf w (c1 w hw))
  rw [n9] at q
  have q2 : o.changed.length * (8 + 1) ≤ 3 * (8 + 1) := Nat.mul_le_mul_right _ c2
  have aj : Asc (Str.join " " o.changed) := asc_join a9 fun w hw => asc_field (h.root.pf w (c1 w hw))
  unfold opLine
  split
  · exact ⟨by simp only [len_cat, n6, n7]; omega, ((a6.app s2).app a7).app hm.asc⟩
  · split
    · exact ⟨by simp only [len_cat, n7]; omega, (s2.app a7).app hm.asc⟩
    · exact ⟨by simp only [len_cat, n7, n8]; omega, (((s2.app a8).app aj).app a7).app hm.asc⟩
theorem LibOk.rootLine {L : Lib} (h : LibOk L) : (∀ l ∈ rootLines L.name L.ps L.kept L.hook, l.length ≤ 200 ∧ Asc l) ∧ (rootLines L.name L.ps L.kept L.hook).length ≤ 7 := by
  obtain ⟨n1, n2, n3, n4, n5, n6, n7, n8, n9, n10⟩ := n_lib
  obtain ⟨a1, a2, a3, a4, a5, a6, a7, a8, a9, a10⟩ := a_lib
  have kf := kept_fields h.root.ko h.root.pf
  constructor
  · intro l hl
    unfold rootLines at hl
    simp only [List.mem_append, List.mem_map] at hl
    rcases hl with ((hl | ⟨p, hp, rfl⟩) | ⟨p, hp, rfl⟩) | hl
    · rw [List.mem_singleton.mp hl, len_cat, n1]
      have := le8_class h.root.name
      exact ⟨by omega, a1.app (asc_class h.root.name)⟩
    · have := le8_field (h.root.pf p hp)
      rw [len_cat, n2]
      exact ⟨by omega, a2.app (asc_field (h.root.pf p hp))⟩
    · obtain ⟨f1, f2⟩ := kf p hp
      have := le8_field f1
      have := le8_field f2
      rw [len_cat, len_cat, len_cat, n3, n4]
      exact ⟨by omega, ((a3.app (asc_field f1)).app a4).app (asc_field f2)⟩
    · cases e : L.hook with
      | none => rw [e] at hl; cases hl
      | some z =>
        have := hook_fine z (h.root.hk z e)
        rw [e] at hl
        rw [List.mem_singleton.mp hl, len_cat, n5]
        exact ⟨by omega, a5.app this.2⟩
  · have := h.root.ps3
    have := h.root.kept2
    unfold rootLines
    simp only [List.length_append, List.length_map, List.length_cons, List.length_nil]
    cases L.hook <;> simp <;> omega
theorem LibOk.lines {L : Lib} (h : LibOk L) (hm : ∀ o ∈ L.ops, MkFine o.maker) : (∀ l ∈ linesM L, l.length ≤ 200 ∧ Asc l) ∧ (linesM L).length ≤ 13 := by
  obtain ⟨r1, r2⟩ := h.rootLine
  constructor
  · intro l hl
    unfold linesM at hl
    rcases List.mem_append.mp hl with hl | hl
    · exact r1 l hl
    · obtain ⟨o, ho, rfl⟩ := List.mem_map.mp hl
      exact h.line ho (hm o ho)
  · have := h.ops6
    unfold linesM
    rw [List.length_append, List.length_map]
    omega
theorem LibOk.text {L : Lib} (h : LibOk L) (hm : ∀ o ∈ L.ops, MkFine o.maker) : (textM L).length ≤ 1000000 ∧ PySem.PyData.strOk (textM L) = true := by
  obtain ⟨r1, r2⟩ := h.lines hm
  have q := len_joined "\n" (linesM L) 200 fun w hw => (r1 w hw).1
  rw [n_lib.2.2.2.2.2.2.2.2.2] at q
  have : (linesM L).length * (200 + 1) ≤ 13 * (200 + 1) := Nat.mul_le_mul_right _ r2
  refine ⟨?_, (asc_join a_lib.2.2.2.2.2.2.2.2.2 fun w hw => (r1 w hw).2).ok⟩
  show (Str.join "\n" (linesM L)).length ≤ _
  omega
/-- the makers of an operation, with or without the hook -/
def allow (n : Nat) (hk : Bool) : List Str := (makersOf n).filter fun m => hk || !(m == ("hook" : Str))
theorem allow_mk (hk : Option Str) (o : Op) : (allow (arity o.sign) hk.isSome).contains o.maker = mkOk hk o := by
  unfold allow mkOk
  have key : ∀ (l : List Str) (p : Str → Bool) (m : Str), (l.filter p).contains m = (l.contains m && p m) := fun l p m => by
    rw [Bool.eq_iff_iff, List.contains_iff_mem, List.mem_filter, Bool.and_eq_true, List.contains_iff_mem]
  rw [key]
  cases hk <;> simp
/-- operation j has another maker -/
def setMk (L : Lib) (j : Nat) (m : Str) : Lib := ⟨L.name, L.ps, L.kept, L.hook, L.ops.set j ⟨(L.ops.getD j ⟨"", [], ""⟩).sign, (L.ops.getD j ⟨"", [], ""⟩).changed, m⟩⟩
theorem set_ops {L : Lib} {j : Nat} {m : Str} {o : Op} (e : L.ops[j]? = some o) : (setMk L j m).ops = L.ops.set j ⟨o.sign, o.changed, m⟩ := by
  unfold setMk
  rw [List.getD_eq_getElem?_getD, e]
  rfl
theorem set_ok {L : Lib} (h : LibOk L) {j : Nat} {m : Str} {o : Op} (e : L.ops[j]? = some o) (hm : NoNl m) : LibOk (setMk L j m) := by
  have eo := set_ops (m := m) e
  have hj : j < L.ops.length := (List.getElem?_eq_some_iff.mp e).1
  have ho := List.mem_of_getElem? e
  have hs : (setMk L j m).ops.map (·.sign) = L.ops.map (·.sign) := by
    rw [eo, List.map_set]
    refine List.ext_getElem? fun i => ?_
    rw [List.getElem?_set]
    split
    · rename_i hi
      subst hi
      rw [List.length_map, if_pos hj, List.getElem?_map, e]
      rfl
    · rfl
  refine ⟨h.root, fun q => ?_, ?_, by rw [hs]; exact h.nd, fun z hz => ?_, fun z hz => ?_⟩
  · rw [eo] at q
    have := congrArg List.length q
    rw [List.length_set] at this
    exact h.ops0 (List.length_eq_zero_iff.mp this)
  · rw [eo, List.length_set]
    exact h.ops6
  · rw [eo] at hz
    rcases List.mem_or_eq_of_mem_set hz with hz | hz
    · exact h.form z hz
    · subst hz
      exact ⟨(h.form o ho).sg, (h.form o ho).ch, (h.form o ho).nb⟩
  · rw [eo] at hz
    rcases List.mem_or_eq_of_mem_set hz with hz | hz
    · exact h.nl z hz
    · subst hz
      exact hm
theorem set_all {L : Lib} {j : Nat} {m : Str} {o : Op} (e : L.ops[j]? = some o) (hall : L.ops.all (mkOk L.hook) = true) : (setMk L j m).ops.all (mkOk (setMk L j m).hook) = mkOk L.hook ⟨o.sign, o.changed, m⟩ := by
  have hj : j < L.ops.length := (List.getElem?_eq_some_iff.mp e).1
  show (setMk L j m).ops.all (mkOk L.hook) = _
  rw [set_ops e, Bool.eq_iff_iff, List.all_eq_true]
  constructor
  · intro k
    exact k _ (List.mem_set hj _)
  · intro k z hz
    rcases List.mem_or_eq_of_mem_set hz with hz | hz
    · exact List.all_eq_true.mp hall z hz
    · rw [hz]
      exact k
end LM

namespace K86
open PySem PySem.Spec PyProof.Rows L2 EV
def top (i : Nat) : Stmt := PySem.Challenge.pw_heirsback_k86_families_made.main.body.getD i (.Pass ⟨0, 0, 0, 0⟩)

abbrev s_own_copy : Stmt := top 2
theorem sc_own_copy : FnScope ["thing", "part"] ["thing"] (defScope s_own_copy) :=
  ⟨rfl, rfl, rfl, by decide +kernel, rfl, by decide +kernel, by decide +kernel⟩
abbrev s_BadWorld___init__ : Stmt := inClass (top 4) 0
theorem sc_BadWorld___init__ : FnScope ["self", "at"] ["self", "at"] (defScope s_BadWorld___init__) :=
  ⟨rfl, rfl, rfl, by decide +kernel, rfl, by decide +kernel, by decide +kernel⟩
abbrev s_BadFamily___init__ : Stmt := inClass (top 5) 0
theorem sc_BadFamily___init__ : FnScope ["self", "word"] ["self", "word"] (defScope s_BadFamily___init__) :=
  ⟨rfl, rfl, rfl, by decide +kernel, rfl, by decide +kernel, by decide +kernel⟩
abbrev s_NoClass___init__ : Stmt := inClass (top 6) 0
theorem sc_NoClass___init__ : FnScope ["self", "name"] ["self", "name"] (defScope s_NoClass___init__) :=
  ⟨rfl, rfl, rfl, by decide +kernel, rfl, by decide +kernel, by decide +kernel⟩
abbrev s_is_within : Stmt := top 13
theorem sc_is_within : FnScope ["word", "low", "high", "letter"] ["word", "low", "high"] (defScope s_is_within) :=
  ⟨rfl, rfl, rfl, by decide +kernel, rfl, by decide +kernel, by decide +kernel⟩
abbrev s_is_small_word : Stmt := top 14
theorem sc_is_small_word : FnScope ["word"] ["word"] (defScope s_is_small_word) :=
  ⟨rfl, rfl, rfl, by decide +kernel, rfl, by decide +kernel, by decide +kernel⟩
abbrev s_is_class_name : Stmt := top 15
theorem sc_is_class_name : FnScope ["word"] ["word"] (defScope s_is_class_name) :=
  ⟨rfl, rfl, rfl, by decide +kernel, rfl, by decide +kernel, by decide +kernel⟩
abbrev s_is_field_name : Stmt := top 16
theorem sc_is_field_name : FnScope ["word"] ["word"] (defScope s_is_field_name) :=
  ⟨rfl, rfl, rfl, by decide +kernel, rfl, by decide +kernel, by decide +kernel⟩
abbrev s_is_number : Stmt := top 17
theorem sc_is_number : FnScope ["word"] ["word"] (defScope s_is_number) :=
  ⟨rfl, rfl, rfl, by decide +kernel, rfl, by decide +kernel, by decide +kernel⟩
abbrev s_Shape___init__ : Stmt := inClass (top 19) 0
theorem sc_Shape___init__ : FnScope ["self", "lineage", "free", "more", "held", "ruled", "hook"] ["self", "lineage", "free", "more", "held", "ruled", "hook"] (defScope s_Shape___init__) :=
  ⟨rfl, rfl, rfl, by decide +kernel, rfl, by decide +kernel, by decide +kernel⟩
abbrev s_Shape_take : Stmt := inClass (top 19) 1
theorem sc_Shape_take : FnScope ["self", "words"] ["self", "words"] (defScope s_Shape_take) :=
  ⟨rfl, rfl, rfl, by decide +kernel, rfl, by decide +kernel, by decide +kernel⟩
abbrev s_Shape__take_fixed : Stmt := inClass (top 19) 2
theorem sc_Shape__take_fixed : FnScope ["self", "words"] ["self", "words"] (defScope s_Shape__take_fixed) :=
  ⟨rfl, rfl, rfl, by decide +kernel, rfl, by decide +kernel, by decide +kernel⟩
abbrev s_Shape__take_tied : Stmt := inClass (top 19) 3
theorem sc_Shape__take_tied : FnScope ["self", "words"] ["self", "words"] (defScope s_Shape__take_tied) :=
  ⟨rfl, rfl, rfl, by decide +kernel, rfl, by decide +kernel, by decide +kernel⟩
abbrev s_Shape__take_hook : Stmt := inClass (top 19) 4
theorem sc_Shape__take_hook : FnScope ["self", "words", "name"] ["self", "words"] (defScope s_Shape__take_hook) :=
  ⟨rfl, rfl, rfl, by decide +kernel, rfl, by decide +kernel, by decide +kernel⟩
abbrev s_Shape__take_field : Stmt := inClass (top 19) 5
theorem sc_Shape__take_field : FnScope ["self", "words"] ["self", "words"] (defScope s_Shape__take_field) :=
  ⟨rfl, rfl, rfl, by decide +kernel, rfl, by decide +kernel, by decide +kernel⟩
abbrev s_Shape__has_default : Stmt := inClass (top 19) 6
theorem sc_Shape__has_default : FnScope ["self", "_", "default"] ["self"] (defScope s_Shape__has_default) :=
  ⟨rfl, rfl, rfl, by decide +kernel, rfl, by decide +kernel, by decide +kernel⟩
abbrev s_root_shape : Stmt := top 20
theorem sc_root_shape : FnScope ["library", "parameters", "held", "ruled", "hook", "field", "_", "source"] ["library"] (defScope s_root_shape) :=
  ⟨rfl, rfl, rfl, by decide +kernel, rfl, by decide +kernel, by decide +kernel⟩
abbrev s_heir_shape : Stmt := top 21
theorem sc_heir_shape : FnScope ["name", "above"] ["name", "above"] (defScope s_heir_shape) :=
  ⟨rfl, rfl, rfl, by decide +kernel, rfl, by decide +kernel, by decide +kernel⟩
abbrev s_Draft___init__ : Stmt := inClass (top 26) 0
theorem sc_Draft___init__ : FnScope ["self", "library", "root", "field"] ["self", "library"] (defScope s_Draft___init__) :=
  ⟨rfl, rfl, rfl, by decide +kernel, rfl, by decide +kernel, by decide +kernel⟩
abbrev s_Draft_take : Stmt := inClass (top 26) 1
theorem sc_Draft_take : FnScope ["self", "words"] ["self", "words"] (defScope s_Draft_take) :=
  ⟨rfl, rfl, rfl, by decide +kernel, rfl, by decide +kernel, by decide +kernel⟩
abbrev s_Draft__take_heir : Stmt := inClass (top 26) 2
theorem sc_Draft__take_heir : FnScope ["self", "words", "name", "base"] ["self", "words"] (defScope s_Draft__take_heir) :=
  ⟨rfl, rfl, rfl, by decide +kernel, rfl, by decide +kernel, by decide +kernel⟩
abbrev s_Draft__take_member : Stmt := inClass (top 26) 3
theorem sc_Draft__take_member : FnScope ["self", "words", "licence"] ["self", "words"] (defScope s_Draft__take_member) :=
  ⟨rfl, rfl, rfl, by decide +kernel, rfl, by decide +kernel, by decide +kernel⟩
abbrev s_Draft__is_new : Stmt := inClass (top 26) 4
theorem sc_Draft__is_new : FnScope ["self", "words"] ["self", "words"] (defScope s_Draft__is_new) :=
  ⟨rfl, rfl, rfl, by decide +kernel, rfl, by decide +kernel, by decide +kernel⟩
abbrev s_World___init__ : Stmt := inClass (top 28) 0
theorem sc_World___init__ : FnScope ["self", "library", "lines", "shapes", "used"] ["self", "library", "lines", "shapes", "used"] (defScope s_World___init__) :=
  ⟨rfl, rfl, rfl, by decide +kernel, rfl, by decide +kernel, by decide +kernel⟩
abbrev s_World_read : Stmt := inClass (top 28) 1
theorem sc_World_read : FnScope ["cls", "library", "text", "lines", "draft", "at", "line"] ["cls", "library", "text"] (defScope s_World_read) :=
  ⟨rfl, rfl, rfl, by decide +kernel, rfl, by decide +kernel, by decide +kernel⟩
abbrev s_World_of : Stmt := inClass (top 28) 2
theorem sc_World_of : FnScope ["cls", "library", "lines"] ["cls", "library", "lines"] (defScope s_World_of) :=
  ⟨rfl, rfl, rfl, by decide +kernel, rfl, by decide +kernel, by decide +kernel⟩
abbrev s_World_lines : Stmt := inClass (top 28) 3
theorem sc_World_lines : FnScope ["self"] ["self"] (defScope s_World_lines) :=
  ⟨rfl, rfl, rfl, by decide +kernel, rfl, by decide +kernel, by decide +kernel⟩
abbrev s_World_names : Stmt := inClass (top 28) 4
theorem sc_World_names : FnScope ["self"] ["self"] (defScope s_World_names) :=
  ⟨rfl, rfl, rfl, by decide +kernel, rfl, by decide +kernel, by decide +kernel⟩
abbrev s_World_licences : Stmt := inClass (top 28) 5
theorem sc_World_licences : FnScope ["self", "licence"] ["self"] (defScope s_World_licences) :=
  ⟨rfl, rfl, rfl, by decide +kernel, rfl, by decide +kernel, by decide +kernel⟩
abbrev s_World_base : Stmt := inClass (top 28) 6
theorem sc_World_base : FnScope ["self", "name", "lineage"] ["self", "name"] (defScope s_World_base) :=
  ⟨rfl, rfl, rfl, by decide +kernel, rfl, by decide +kernel, by decide +kernel⟩
abbrev s_World_parameters : Stmt := inClass (top 28) 9
theorem sc_World_parameters : FnScope ["self", "name", "shape", "field"] ["self", "name"] (defScope s_World_parameters) :=
  ⟨rfl, rfl, rfl, by decide +kernel, rfl, by decide +kernel, by decide +kernel⟩
abbrev s_World__shape : Stmt := inClass (top 28) 14
theorem sc_World__shape : FnScope ["self", "name"] ["self", "name"] (defScope s_World__shape) :=
  ⟨rfl, rfl, rfl, by decide +kernel, rfl, by decide +kernel, by decide +kernel⟩
abbrev s_World___contains__ : Stmt := inClass (top 28) 15
theorem sc_World___contains__ : FnScope ["self", "x"] ["self", "x"] (defScope s_World___contains__) :=
  ⟨rfl, rfl, rfl, by decide +kernel, rfl, by decide +kernel, by decide +kernel⟩
abbrev s_World___len__ : Stmt := inClass (top 28) 16
theorem sc_World___len__ : FnScope ["self"] ["self"] (defScope s_World___len__) :=
  ⟨rfl, rfl, rfl, by decide +kernel, rfl, by decide +kernel, by decide +kernel⟩
abbrev s_World___str__ : Stmt := inClass (top 28) 17
theorem sc_World___str__ : FnScope ["self"] ["self"] (defScope s_World___str__) :=
  ⟨rfl, rfl, rfl, by decide +kernel, rfl, by decide +kernel, by decide +kernel⟩
abbrev s_World___eq__ : Stmt := inClass (top 28) 18
theorem sc_World___eq__ : FnScope ["self", "other"] ["self", "other"] (defScope s_World___eq__) :=
  ⟨rfl, rfl, rfl, by decide +kernel, rfl, by decide +kernel, by decide +kernel⟩
abbrev s_Family___init__ : Stmt := inClass (top 30) 1
theorem sc_Family___init__ : FnScope ["self", "words", "word", "licence"] ["self", "words"] (defScope s_Family___init__) :=
  ⟨rfl, rfl, rfl, by decide +kernel, rfl, by decide +kernel, by decide +kernel⟩
abbrev s_Family_of : Stmt := inClass (top 30) 2
theorem sc_Family_of : FnScope ["cls", "words"] ["cls", "words"] (defScope s_Family_of) :=
  ⟨rfl, rfl, rfl, by decide +kernel, rfl, by decide +kernel, by decide +kernel⟩
abbrev s_Family___and__ : Stmt := inClass (top 30) 5
theorem sc_Family___and__ : FnScope ["self", "other", "licence"] ["self", "other"] (defScope s_Family___and__) :=
  ⟨rfl, rfl, rfl, by decide +kernel, rfl, by decide +kernel, by decide +kernel⟩
abbrev s_Family___or__ : Stmt := inClass (top 30) 6
theorem sc_Family___or__ : FnScope ["self", "other"] ["self", "other"] (defScope s_Family___or__) :=
  ⟨rfl, rfl, rfl, by decide +kernel, rfl, by decide +kernel, by decide +kernel⟩
abbrev s_Family___sub__ : Stmt := inClass (top 30) 7
theorem sc_Family___sub__ : FnScope ["self", "other", "licence"] ["self", "other"] (defScope s_Family___sub__) :=
  ⟨rfl, rfl, rfl, by decide +kernel, rfl, by decide +kernel, by decide +kernel⟩
abbrev s_Family___contains__ : Stmt := inClass (top 30) 8
theorem sc_Family___contains__ : FnScope ["self", "x", "licence"] ["self", "x"] (defScope s_Family___contains__) :=
  ⟨rfl, rfl, rfl, by decide +kernel, rfl, by decide +kernel, by decide +kernel⟩
abbrev s_Family___iter__ : Stmt := inClass (top 30) 9
theorem sc_Family___iter__ : FnScope ["self"] ["self"] (defScope s_Family___iter__) :=
  ⟨rfl, rfl, rfl, by decide +kernel, rfl, by decide +kernel, by decide +kernel⟩
abbrev s_Family___len__ : Stmt := inClass (top 30) 10
theorem sc_Family___len__ : FnScope ["self"] ["self"] (defScope s_Family___len__) :=
  ⟨rfl, rfl, rfl, by decide +kernel, rfl, by decide +kernel, by decide +kernel⟩
abbrev s_Family___bool__ : Stmt := inClass (top 30) 11
theorem sc_Family___bool__ : FnScope ["self"] ["self"] (defScope s_Family___bool__) :=
  ⟨rfl, rfl, rfl, by decide +kernel, rfl, by decide +kernel, by decide +kernel⟩
abbrev s_Family___eq__ : Stmt := inClass (top 30) 12
theorem sc_Family___eq__ : FnScope ["self", "other"] ["self", "other"] (defScope s_Family___eq__) :=
  ⟨rfl, rfl, rfl, by decide +kernel, rfl, by decide +kernel, by decide +kernel⟩
abbrev s_Family___repr__ : Stmt := inClass (top 30) 13
theorem sc_Family___repr__ : FnScope ["self"] ["self"] (defScope s_Family___repr__) :=
  ⟨rfl, rfl, rfl, by decide +kernel, rfl, by decide +kernel, by decide +kernel⟩
abbrev s_law_bag : Stmt := top 32
theorem sc_law_bag : FnScope ["script", "at", "cell", "mixed", "k", "each"] ["script", "at"] (defScope s_law_bag) :=
  ⟨rfl, rfl, rfl, by decide +kernel, rfl, by decide +kernel, by decide +kernel⟩
abbrev s_law_take : Stmt := top 33
theorem sc_law_take : FnScope ["bag", "many", "digit"] ["bag", "many"] (defScope s_law_take) :=
  ⟨rfl, rfl, rfl, by decide +kernel, rfl, by decide +kernel, by decide +kernel⟩
abbrev s_law_of : Stmt := top 34
theorem sc_law_of : FnScope ["bag", "some"] ["bag", "some"] (defScope s_law_of) :=
  ⟨rfl, rfl, rfl, by decide +kernel, rfl, by decide +kernel, by decide +kernel⟩
abbrev s_law_licences : Stmt := top 35
theorem sc_law_licences : FnScope [] [] (defScope s_law_licences) :=
  ⟨rfl, rfl, rfl, by decide +kernel, rfl, by decide +kernel, by decide +kernel⟩
abbrev s_law_some : Stmt := top 36
theorem sc_law_some : FnScope ["bag", "found", "left", "turn"] ["bag"] (defScope s_law_some) :=
  ⟨rfl, rfl, rfl, by decide +kernel, rfl, by decide +kernel, by decide +kernel⟩
abbrev s_law_sorted : Stmt := top 37
theorem sc_law_sorted : FnScope ["words", "one"] ["words"] (defScope s_law_sorted) :=
  ⟨rfl, rfl, rfl, by decide +kernel, rfl, by decide +kernel, by decide +kernel⟩
abbrev s_law_refused : Stmt := top 38
theorem sc_law_refused : FnScope ["words"] ["words"] (defScope s_law_refused) :=
  ⟨rfl, rfl, rfl, by decide +kernel, rfl, by decide +kernel, by decide +kernel⟩
abbrev s_law_one_refused : Stmt := top 39
theorem sc_law_one_refused : FnScope ["one", "other"] ["one", "other"] (defScope s_law_one_refused) :=
  ⟨rfl, rfl, rfl, by decide +kernel, rfl, by decide +kernel, by decide +kernel⟩
abbrev s_law_family_right : Stmt := top 40
theorem sc_law_family_right : FnScope ["family", "words", "due", "one", "thing"] ["family", "words"] (defScope s_law_family_right) :=
  ⟨rfl, rfl, rfl, by decide +kernel, rfl, by decide +kernel, by decide +kernel⟩
abbrev s_law : Stmt := top 41
theorem sc_law : FnScope ["script", "strange", "at", "bag", "turn", "words", "kept", "family", "other", "one", "second", "wrong", "worse", "k"] ["script"] (defScope s_law) :=
  ⟨rfl, rfl, rfl, by decide +kernel, rfl, by decide +kernel, by decide +kernel⟩
structure Txt (K : Fg) (mg : Str → Option Value) : Prop where
  n_isinstance : mg "isinstance" = none
  n_list : mg "list" = none
  n_tuple : mg "tuple" = none
  n_int : mg "int" = none
  n_str : mg "str" = none
  n_bool : mg "bool" = none
  n_len : mg "len" = none
  n_abs : mg "abs" = none
  n_max : mg "max" = none
  n_min : mg "min" = none
  n_range : mg "range" = none
  n_enumerate : mg "enumerate" = none
  n_all : mg "all" = none
  n_ValueError : mg "ValueError" = none
  n_LookupError : mg "LookupError" = none
  n_KeyError : mg "KeyError" = none
  n_IndexError : mg "IndexError" = none
  n_repr : mg "repr" = none
end K86

namespace K86
open PySem PySem.Spec PyProof.Rows L2 EV TL LM
/-- a tuple of the written part -/
def TupK (K : Fg) (a : Addr) (xs : List V) : Prop := ∃ (o : Obj) (its : Array Value) (n : Nat), K.lookup a = some o ∧ o.cls = .type "tuple" ∧ o.data = .seq its n ∧ its.size ≤ sizeLine ∧ Vals xs its.toList
theorem TupK.sq {K : Fg} {a : Addr} {xs : List V} {H : Hp} (h : TupK K a xs) : SqT K H a xs := .inr h
theorem SqT.same {K : Fg} {H H' : Hp} {a : Addr} {xs : List V} (e : Same H H') (h : SqT K H a xs) : SqT K H' a xs := by
  rcases h with (h | ⟨o, h⟩) | h
  · exact .inl (.inl (e _ _ h))
  · exact .inl (.inr ⟨o, e _ _ h⟩)
  · exact .inr h
/-- the constants of the modules: none is read -/
structure Cst (K : Fg) (mg : Str → Option Value) : Prop extends Txt K mg where
/-! ### families -/
def lic : List Str := ["needs", "takes", "fixes", "ties", "keeps", "named", "call", "names", "renew", "copy"]
def famW (p : Str → Bool) : List Str := lic.filter p
def famF (q : Addr) : List (Str × V) := [("words", .ref q)]
theorem fam_words {q : Addr} : (famF q).lookup ("words" : Str) = some (V.ref q) := rfl
theorem fam_no {q : Addr} {m : Str} (h : m ≠ "words") : (famF q).lookup m = none := by
  unfold famF
  simp only [List.lookup, beq_eq_false_iff_ne.mpr h]
structure FamC (K : Fg) (C : Addr) : Prop where
  cls : Cls K C
  no : NoAttr K C "words"
  lic : ∃ mc a u, ClX.CRead K C mc ∧ ClX.CVal K C mc "LICENCES" (.ref a) u ∧ TupK K a (lic.map V.str)
def FamAt (K : Fg) (H : Hp) (C a : Addr) (p : Str → Bool) : Prop := ∃ dx q, H a = some (.ins C dx (famF q)) ∧ SqT K H q ((famW p).map V.str)
theorem FamAt.same {K : Fg} {H H' : Hp} {C a : Addr} {p : Str → Bool} (s : Same H H') : FamAt K H C a p → FamAt K H' C a p := fun ⟨dx, q, h1, h2⟩ => ⟨dx, q, s _ _ h1, SqT.same s h2⟩
theorem inV_strs (w : Str) (l : List Str) : inV (.str w) (l.map V.str) = l.contains w := by
  unfold inV
  induction l with
  | nil => rfl
  | cons x l ih =>
    rw [List.map_cons, List.any_cons, ih, List.contains_cons]
    congr 1
    show (x == w) = (w == x)
    exact Bool.beq_comm
theorem flat_strs (l : List Str) : (l.map V.str).all flatV = true := by
  induction l with
  | nil => rfl
  | cons x l ih => rw [List.map_cons, List.all_cons, ih]; rfl
theorem famW_le (p : Str → Bool) : (famW p).length ≤ 10 := List.length_filter_le p lic
theorem famW_in {p : Str → Bool} {w : Str} : (famW p).contains w = (lic.contains w && p w) := by
  rw [Bool.eq_iff_iff, Bool.and_eq_true, List.contains_iff_mem, List.contains_iff_mem]
  exact List.mem_filter
/-- what is kept while the fields of the object at a are written -/
def KeepA (a : Addr) (H H' : Hp) : Prop := ∀ b u, b ≠ a → H b = some u → H' b = some u
theorem keepA_sqX {b : Bool} {K : Fg} {a p C dx : Addr} {fs : List (Str × V)} {H H' : Hp} {xs : List V} (k : KeepA a H H') (ha : H a = some (.ins C dx fs)) (h : SqX b K H p xs) : SqX b K H' p xs := by
  have go : ∀ u, H p = some u → (∀ E dy gs, u ≠ .ins E dy gs) → H' p = some u := fun u e n => k p u (fun q => by rw [q, ha] at e; injection e with e; exact n _ _ _ e.symm) e
  cases b with
  | true =>
    rcases h with (h | ⟨o, h⟩) | h
    · exact .inl (.inl (go _ h fun _ _ _ => by intro z; cases z))
    · exact .inl (.inr ⟨o, go _ h fun _ _ _ => by intro z; cases z⟩)
    · exact .inr h
  | false =>
    rcases h with (h | ⟨o, h⟩) | h
    · exact .inl (.inl (go _ h fun _ _ _ => by intro z; cases z))
    · exact .inl (.inr ⟨o, go _ h fun _ _ _ => by intro z; cases z⟩)
    · exact .inr h
theorem sqX_same {b : Bool} {K : Fg} {H H' : Hp} {p : Addr} {xs : List V} (s : Same H H') (h : SqX b K H p xs) : SqX b K H' p xs := by
  cases b with
  | true => exact SqT.same s h
  | false => exact s.seq h
theorem sqX_or {b : Bool} {K : Fg} {H : Hp} {p : Addr} {xs : List V} (h : SqX b K H p xs) : SqL K H p xs ∨ SqT K H p xs := by
  cases b with
  | true => exact .inr h
  | false => exact .inl h
theorem con_filter (xs : List Str) (f : Str → Bool) (l : Str) : (xs.filter f).contains l = (xs.contains l && f l) := by
  rw [Bool.eq_iff_iff, Bool.and_eq_true, List.contains_iff_mem, List.contains_iff_mem]
  exact List.mem_filter
theorem famW_congr {p q : Str → Bool} (h : ∀ l, lic.contains l = true → p l = q l) : famW p = famW q := List.filter_congr fun l hl => h l (List.contains_iff_mem.mpr hl)
theorem FamAt.congr {K : Fg} {H : Hp} {C a : Addr} {p q : Str → Bool} (h : ∀ l, lic.contains l = true → p l = q l) (f : FamAt K H C a p) : FamAt K H C a q := by
  obtain ⟨dx, r, h1, h2⟩ := f
  rw [famW_congr h] at h2
  exact ⟨dx, r, h1, h2⟩
/-- an object that was just made -/
theorem made {G : Hp} {a dx C : Addr} (na : G a = none) (ndx : G dx = none) (nad : dx ≠ a) : Same G (upd (upd G dx (.own a)) a (.ins C dx [])) ∧
    ∀ H' : Hp, KeepA a (upd (upd G dx (.own a)) a (.ins C dx [])) H' → ∀ b u, G b = some u → H' b = some u := by
  have na2 : upd G dx (.own a) a = none := by rw [upd_ne (Ne.symm nad)]; exact na
  have s : Same G (upd (upd G dx (.own a)) a (.ins C dx [])) := (same_upd ndx).trans (same_upd na2)
  exact ⟨s, fun H' kp b u z => kp b u (ne_of_none z na) (s b u z)⟩
theorem FamAt.at {K : Fg} {H : Hp} {C a : Addr} {p : Str → Bool} (h : FamAt K H C a p) : ∃ dx q, H a = some (.ins C dx (famF q)) := let ⟨dx, q, e, _⟩ := h; ⟨dx, q, e⟩
theorem words_at {i : Nat} {p : Str → Bool} {x : V} (hx : ((famW p).map V.str)[i]? = some x) : ∃ lw, (famW p)[i]? = some lw ∧ V.str lw = x := by
  rw [List.getElem?_map] at hx
  cases q : (famW p)[i]? with
  | none => rw [q] at hx; cases hx
  | some lw => rw [q] at hx; exact ⟨lw, rfl, by injection hx⟩
theorem lic_of {p : Str → Bool} {w : Str} (h : w ∈ famW p) : lic.contains w = true ∧ p w = true := by
  have := List.mem_filter.mp h
  exact ⟨List.contains_iff_mem.mpr this.1, this.2⟩

theorem famW_inj {p q : Str → Bool} (h : famW p = famW q) : ∀ l, lic.contains l = true → p l = q l := by
  intro l hl
  have e : (famW p).contains l = (famW q).contains l := by rw [h]
  rw [famW_in, famW_in, hl] at e
  exact e
def strsD (ws : List Str) : PyData := .tuple (ws.map PyData.str)
theorem dp_strsT {K : Fg} {H : Hp} {l : Addr} {ws : List Str} (h : SqT K H l (ws.map V.str)) : Dp K H (.ref l) (strsD ws) := by
  refine .tup h ?_
  clear h
  induction ws with
  | nil => exact .nil
  | cons w ws ih => exact .cons (.str _) ih
theorem can_strs : ∀ (ws : List Str), (∀ w ∈ ws, PyData.strOk w = true) → PyData.canLayAll0 (ws.map PyData.str) = true ∧ PyData.depthAll (ws.map PyData.str) ≤ 1
  | [], _ => ⟨rfl, by decide⟩
  | w :: ws, h => by
    obtain ⟨i1, i2⟩ := can_strs ws fun y hy => h y (List.mem_cons_of_mem _ hy)
    constructor
    · show (PyData.strOk w && PyData.canLayAll0 (ws.map PyData.str)) = true
      rw [h w List.mem_cons_self, i1]
      rfl
    · show max (PyData.depth (.str w)) (PyData.depthAll (ws.map PyData.str)) ≤ 1
      refine Nat.max_le.mpr ⟨?_, i2⟩
      simp only [PyData.depth]
      omega
theorem strs_shaped {ws : List Str} (h : ∀ w ∈ ws, PyData.strOk w = true) : SeqAt.shaped (strsD ws) = true := by
  obtain ⟨h1, h2⟩ := can_strs ws h
  unfold SeqAt.shaped
  rw [show PyData.canLay0 (strsD ws) = true from h1, Bool.true_and]
  refine decide_eq_true ?_
  simp only [strsD, PyData.depth]
  omega
theorem eqv_strs : ∀ (ws zs : List Str), PyData.eqvAll (ws.map PyData.str) (zs.map PyData.str) = decide (ws = zs)
  | [], [] => rfl
  | [], _ :: _ => rfl
  | _ :: _, [] => rfl
  | w :: ws, z :: zs => by
    show ((w == z) && PyData.eqvAll (ws.map PyData.str) (zs.map PyData.str)) = _
    rw [eqv_strs ws zs, Bool.eq_iff_iff, Bool.and_eq_true, beq_iff_eq, decide_eq_true_eq, decide_eq_true_eq]
    exact ⟨fun ⟨a, b⟩ => by rw [a, b], fun e => by injection e with a b; exact ⟨a, b⟩⟩
theorem lic_ok : ∀ w ∈ lic, PyData.strOk w = true ∧ w.length ≤ 5 := by decide +kernel
theorem famW_ok {p : Str → Bool} : ∀ w ∈ famW p, PyData.strOk w = true := fun w hw => (lic_ok w (List.mem_filter.mp hw).1).1
/-- what isinstance asks of the class, about its own objects -/
structure IsiL (K : Fg) (C : Addr) : Prop where
  ca : PySem.W.findIn K (.ref C) "__class__" = some (some (.builtin "object.__class__"))
  cn : PySem.W.specialIn K (.builtin "object.__class__") "__get__" = some (some (.builtin "getset_descriptor.__get__"))
  ct : PySem.W.takesIn K (.builtin "object.__class__") = some true
  cm : PySem.W.mroIn K C (.type "object") = some true
theorem IsiL.tyx {K : Fg} {C a dx : Addr} {H : Hp} {fs : List (Str × V)} (i : IsiL K C) (c : Cls K C) (e : H a = some (.ins C dx fs)) : TyX K H (.ref a) (.ref C) := .base (.ins e c i.ca i.cn i.ct i.cm)
theorem kit_self {K : Fg} {C : Addr} : PySem.W.kitOne K (.ref C) (.ref C) = some true := by
  unfold PySem.W.kitOne
  rw [if_pos (beq_self_eq_true _)]
theorem kit_not {K : Fg} {C : Addr} (hd : PySem.W.hasDictIn K C = true) (ty : PySem.W.typeIn K (.ref C) = some (.type "type")) {T : String} (h : T ∈ plainTys) : PySem.W.kitOne K (.type T) (.ref C) = some false := by
  unfold PySem.W.kitOne PySem.W.kitCls
  rw [if_neg (by simp)]
  dsimp only
  obtain ⟨cd, hc, _⟩ := PySem.W.any_some hd
  rw [hc, ty]
  show (if (true && (some (Value.type "type") == some (Value.type "type"))) = true then PySem.W.subIn K (.type T) (.ref C) else none) = some false
  rw [if_pos (by decide +kernel)]
  exact plain_sub T h
def strsL (ws : List Str) : PyData := .list (ws.map PyData.str)
theorem dp_strsL {K : Fg} {H : Hp} {l : Addr} {ws : List Str} (h : SqL K H l (ws.map V.str)) : Dp K H (.ref l) (strsL ws) := by
  refine .lst h ?_
  clear h
  induction ws with
  | nil => exact .nil
  | cons w ws ih => exact .cons (.str _) ih
theorem strsL_shaped {ws : List Str} (h : ∀ w ∈ ws, PyData.strOk w = true) : SeqAt.shaped (strsL ws) = true := by
  obtain ⟨h1, h2⟩ := can_strs ws h
  unfold SeqAt.shaped
  rw [show PyData.canLay0 (strsL ws) = true from h1, Bool.true_and]
  refine decide_eq_true ?_
  simp only [strsL, PyData.depth]
  omega
theorem eq_lists {K : Fg} {H : Hp} {p q : Addr} {ws zs : List Str} {Q : VK} (h1 : SqL K H p (ws.map V.str)) (h2 : SqL K H q (zs.map V.str)) (o1 : ∀ w ∈ ws, PyData.strOk w = true) (o2 : ∀ w ∈ zs, PyData.strOk w = true) (k : Q (.bl (decide (ws = zs))) H) : rEqD K (.ref p) (.ref q) H Q := by
  refine ⟨_, _, dp_strsL h1, dp_strsL h2, strsL_shaped o1, strsL_shaped o2, ?_⟩
  show Q (.bl (PyData.eqvAll (ws.map PyData.str) (zs.map PyData.str))) H
  rw [eqv_strs]
  exact k
end K86

namespace K86
open PySem PySem.Spec PyProof.Rows L2 EV TL LM
/-- the values that the law hands over -/
inductive Od where
  | s (z : Str)
  | i (j : Int)
  | n
  | b (k : Bool)
  | l (ws : List Str)
  | t (ws : List Str)
def OdAt (H : Hp) (v : V) : Od → Prop
  | .s z => v = .str z
  | .i j => v = .int j
  | .n => v = .non
  | .b k => v = .bl k
  | .l ws => ∃ a, v = .ref a ∧ H a = some (.lst (ws.map V.str))
  | .t ws => ∃ a, v = .ref a ∧ H a = some (.tup (ws.map V.str))
def Od.data : Od → PyData
  | .s z => .str z
  | .i j => .int j
  | .n => .none
  | .b k => .bool k
  | .l ws => strsL ws
  | .t ws => strsD ws
def OkWs (ws : List Str) : Prop := ws.length ≤ 1000 ∧ ∀ w ∈ ws, PyData.strOk w = true
def Od.ok : Od → Prop
  | .s z => PyData.strOk z = true
  | .l ws => OkWs ws
  | .t ws => OkWs ws
  | _ => True
def IsSq (u : HO) : Prop := (∃ z, u = .lst z) ∨ ∃ z, u = .tup z
theorem OdAt.moved {H H' : Hp} {v : V} : ∀ {o : Od}, OdAt H v o → (∀ b u, H b = some u → IsSq u → H' b = some u) → OdAt H' v o
  | .s _, h, _ => h
  | .i _, h, _ => h
  | .n, h, _ => h
  | .b _, h, _ => h
  | .l _, ⟨a, e, h⟩, k => ⟨a, e, k _ _ h (.inl ⟨_, rfl⟩)⟩
  | .t _, ⟨a, e, h⟩, k => ⟨a, e, k _ _ h (.inr ⟨_, rfl⟩)⟩
theorem OdAt.same {H H' : Hp} {v : V} {o : Od} (h : OdAt H v o) (s : Same H H') : OdAt H' v o := h.moved fun b u z _ => s b u z
theorem OdAt.dp {K : Fg} {H : Hp} {v : V} : ∀ {o : Od}, OdAt H v o → Dp K H v o.data
  | .s _, h => by obtain rfl : v = _ := h; exact .str _
  | .i _, h => by obtain rfl : v = _ := h; exact .int _
  | .n, h => by obtain rfl : v = _ := h; exact .non
  | .b _, h => by obtain rfl : v = _ := h; exact .bl _
  | .l _, ⟨a, e, h⟩ => by subst e; exact dp_strsL (SqL.of h)
  | .t _, ⟨a, e, h⟩ => by subst e; exact dp_strsT (SqT.of h)
theorem Od.lay : ∀ {o : Od}, o.ok → PyData.canLay0 o.data = true ∧ PyData.depth o.data ≤ 2
  | .s z, h => ⟨h, by simp [Od.data, PyData.depth]⟩
  | .i j, _ => ⟨rfl, by simp [Od.data, PyData.depth]⟩
  | .n, _ => ⟨rfl, by decide⟩
  | .b k, _ => ⟨rfl, by simp [Od.data, PyData.depth]⟩
  | .l ws, h => by
    obtain ⟨h1, h2⟩ := can_strs ws h.2
    exact ⟨h1, by show PyData.depth (.list (ws.map PyData.str)) ≤ 2; simp only [PyData.depth]; omega⟩
  | .t ws, h => by
    obtain ⟨h1, h2⟩ := can_strs ws h.2
    exact ⟨h1, by show PyData.depth (.tuple (ws.map PyData.str)) ≤ 2; simp only [PyData.depth]; omega⟩
theorem Od.shaped {o : Od} (h : o.ok) : SeqAt.shaped o.data = true := by
  obtain ⟨h1, h2⟩ := Od.lay h
  unfold SeqAt.shaped
  rw [h1, Bool.true_and]
  exact decide_eq_true (by omega)
/-- an error in the air: a copy of the value in its dict -/
def RaisedO (C : Addr) (f : Str) (o : Od) (H : Hp) (E : XK) : Prop := ∀ d y H', Same H H' → H' d = some (.xd [(f, y)]) → OdAt H' y o → E (.ref C) (some d) H'
theorem RaisedO.mono {C : Addr} {f : Str} {o : Od} {H H1 : Hp} {E : XK} (x : RaisedO C f o H E) (s : Same H H1) : RaisedO C f o H1 E := fun d y H' s' => x d y H' (s.trans s')
/-- x in a tuple of data, x not in it -/
def rInT (K : Fg) (neg : Bool) : R2 := fun x y H Q => ∃ d ds, Dp K H x d ∧ Dp K H y (.tuple ds) ∧ SeqAt.shaped d = true ∧ SeqAt.shaped (.tuple ds) = true ∧ Q (.bl (if neg then !(ds.any fun z => PyData.eqv z d) else ds.any fun z => PyData.eqv z d)) H
theorem op_inT {X : Cx} (hu : X.A.units + 65 < cLine) : OpR X (compareOp .In) (rInT X.K false) := by
  intro pins s σ H x y v u Q I rx ry h
  obtain ⟨d, ds, hd, he, sd, se, q⟩ := h
  obtain ⟨as, r1⟩ := Dp.reads I d x v hd rx
  obtain ⟨bs, r2⟩ := Dp.reads I (.tuple ds) y u he ry
  exact SeqAt.in_tuple_reads r2 r1 (SeqAt.canLay_of_shaped se) (SeqAt.canLay_of_shaped sd) (room_in_shaped sd hu) ⟨.bl _, H, I, rfl, q⟩
theorem op_notInT {X : Cx} (hu : X.A.units + 65 < cLine) : OpR X (compareOp .NotIn) (rInT X.K true) := by
  intro pins s σ H x y v u Q I rx ry h
  obtain ⟨d, ds, hd, he, sd, se, q⟩ := h
  obtain ⟨as, r1⟩ := Dp.reads I d x v hd rx
  obtain ⟨bs, r2⟩ := Dp.reads I (.tuple ds) y u he ry
  exact SeqAt.notIn_tuple_reads r2 r1 (SeqAt.canLay_of_shaped se) (SeqAt.canLay_of_shaped sd) (room_in_shaped sd hu) ⟨.bl _, H, I, rfl, q⟩
theorem units65 {k : Nat} {A : Around} (r : Room k A) : A.units + 65 < cLine := by have := r.un; omega
def inO (ss : List Str) : Od → Bool
  | .s z => ss.contains z
  | _ => false
theorem any_none {d : PyData} (h : ∀ z, PyData.eqv (.str z) d = false) : ∀ ss : List Str, ((ss.map PyData.str).any fun z => PyData.eqv z d) = false
  | [] => rfl
  | a :: r => by rw [List.map_cons, List.any_cons, any_none h r, h]; rfl
theorem any_strs (ss : List Str) : ∀ o : Od, ((ss.map PyData.str).any fun z => PyData.eqv z o.data) = inO ss o
  | .s z => by
    show _ = ss.contains z
    induction ss with
    | nil => rfl
    | cons a r ih =>
      rw [List.map_cons, List.any_cons, ih, List.contains_cons]
      congr 1
      show (a == z) = (z == a)
      rw [Bool.eq_iff_iff, beq_iff_eq, beq_iff_eq]
      exact eq_comm
  | .i j => any_none (fun _ => rfl) ss
  | .n => any_none (fun _ => rfl) ss
  | .b k => any_none (fun _ => rfl) ss
  | .l z => any_none (fun _ => rfl) ss
  | .t z => any_none (fun _ => rfl) ss
section
variable {X : Cx}
/-- isinstance of the own error that an except suite holds -/
def rIsS (K : PySem.W.Frag) (a C : Addr) (cls : Value) (d : Option Addr) : List V → Hp → VK → Prop := fun xs H Q => ∃ (c : V) (u : Value) (b : Bool) (dd : Addr) (fs : List (Str × V)), xs = [.ref a, c] ∧ ClsV c u ∧ cls = .ref C ∧ d = some dd ∧ H dd = some (.xd fs) ∧
  PySem.W.kitOne K (.ref C) u = some b ∧ Q (.bl b) H
theorem call_isS {C a : Addr} {oe : Obj} {cls : Value} {d : Option Addr} {pn : List (Addr × Obj)} (T : XCls X.K C) (hz : Zc cls d oe) (hf : ∃ vs, oe.data = .fields vs) : CallR (X.suite a ((a, oe) :: pn)) (.builtin "isinstance") (rIsS X.K a C cls d) := by
  intro pins s σ H xs us Q I r h
  obtain ⟨c, u, b, dd, fs, rfl, hc, rfl, rfl, ea, ek, q⟩ := h
  obtain ⟨u1, u2, rfl, r1, r2⟩ := vals2 r
  obtain rfl : u1 = Value.ref a := r1
  have e2 := hc.eq r2
  subst e2
  have ha := (I.pin (a, oe) (List.mem_append_left _ List.mem_cons_self)).1
  obtain ⟨vs, hd⟩ := hf
  obtain ⟨mA, hns, hr⟩ := (I.hok dd _ ea : ObjOk X.prog X.w H s.heap dd (.xd fs))
  obtain ⟨od, ho, hl⟩ := lookIn_ns hns
  have J : PySem.W.InstAt s.heap a oe C (some od) := ⟨ha, hz.1, by unfold PySem.W.notCls; rw [hd] <;> rfl, by rw [hz.2]; exact ho⟩
  exact PySem.W.kia_one (PySem.W.kitx_exc (by obtain ⟨cd, hc, _⟩ := PySem.W.any_some T.ex.hd; rw [hc]; rfl) T.ex.hg T.ex.hk T.ex.hs T.ex.ha T.ex.hn T.ex.ht T.ex.hm) I.kIn J ek (fun z => nomatch z)
    fun tk => ⟨.bl b, H, I.kept (t' := tk) fun _ _ z => z, rfl, q⟩
end
section
variable {P : Program} {w : World} {K : Fg} {mg : Str → Option Value} {base : Heap}
/-- own_copy of a text -/
def spOwnS : Sp := fun vs H Q _ => ∃ z : Str, vs = [.str z] ∧ Q (.str z) H
theorem ok_own_copy0 {f : Addr} {fd : FuncData} (F : Fun K "own_copy" "own_copy" s_own_copy f fd) (T : Cst K mg) : FnOk P w K mg base CX0 1 f fd ["thing"] spOwnS := by
  refine F.ok sc_own_copy (fun vs H Q E h => ?_) (fun cdv A outer s H vs Q E hr h => ?_)
  · obtain ⟨z, rfl, _⟩ := h
    rfl
  · obtain ⟨z, rfl, q⟩ := h
    refine ⟨_, (pss_cons (ps_if (pt_val (pe_callB call_isi (by rfl) T.n_isinstance (by decide +kernel) (pa_cons (pv 0) (pa_cons (pe_bltn (v := .ty "list") rfl T.n_list (by decide +kernel) rfl) pa_nil)))) (pss_one ps_never) pss_nil) (pss_cons (ps_if (pt_val (pe_callB call_isi (by rfl) T.n_isinstance (by decide +kernel) (pa_cons (pv 0) (pa_cons (pe_bltn (v := .ty "tuple") rfl T.n_tuple (by decide +kernel) rfl) pa_nil)))) (pss_one ps_never) pss_nil) (pss_one (ps_ret (pv 0))))), ?_⟩
    exact ⟨_, rfl, _, _, _, _, false, rfl, .ty "list", .base (.str z), kit_ty (by decide +kernel), _, rfl, iteF ⟨_, rfl, _, _, _, _, false, rfl, .ty "tuple", .base (.str z), kit_ty (by decide +kernel), _, rfl, iteF ⟨_, rfl, q⟩⟩⟩
def spOwn : Sp := fun vs H Q _ => ∃ (v : V) (o : Od), vs = [v] ∧ OdAt H v o ∧ o.ok ∧ ∀ v' H', Same H H' → OdAt H' v' o → Q v' H'
theorem ok_own_copy {f : Addr} {fd : FuncData} (F : Fun K "own_copy" "own_copy" s_own_copy f fd) (T : Cst K mg) (O_own_copy : Ok P w K mg base 1 "own_copy" ["thing"] spOwnS) : FnOk P w K mg base CX0 2 f fd ["thing"] spOwn := by
  refine F.ok sc_own_copy (fun vs H Q E h => ?_) (fun cdv A outer s H vs Q E hr h => ?_)
  · obtain ⟨v, o, rfl, _⟩ := h
    rfl
  · obtain ⟨v, o, rfl, ho, ok, k⟩ := h
    have hh : (∃ t : String, TyX K H v (.type t) ∧ PySem.W.kitOne K (.type t) (.type "list") = some false ∧ PySem.W.kitOne K (.type t) (.type "tuple") = some false) ∨ (∃ z, o = .l z) ∨ ∃ z, o = .t z := by
      cases o with
      | s z => obtain rfl : v = _ := ho; exact .inl ⟨"str", .base (.str z), kit_ty (by decide +kernel), kit_ty (by decide +kernel)⟩
      | i j => obtain rfl : v = _ := ho; exact .inl ⟨"int", .base (.int j), kit_ty (by decide +kernel), kit_ty (by decide +kernel)⟩
      | n => obtain rfl : v = _ := ho; exact .inl ⟨"NoneType", .base .non, kit_ty (by decide +kernel), kit_ty (by decide +kernel)⟩
      | b kk => obtain rfl : v = _ := ho; exact .inl ⟨"bool", .base (.bl kk), kit_ty (by decide +kernel), kit_ty (by decide +kernel)⟩
      | l z => exact .inr (.inl ⟨z, rfl⟩)
      | t z => exact .inr (.inr ⟨z, rfl⟩)
    rcases hh with ⟨t, ty, h1, h2⟩ | ⟨ws, rfl⟩ | ⟨ws, rfl⟩
    · refine ⟨_, (pss_cons (ps_if (pt_val (pe_callB call_isi (by rfl) T.n_isinstance (by decide +kernel) (pa_cons (pv 0) (pa_cons (pe_bltn (v := .ty "list") rfl T.n_list (by decide +kernel) rfl) pa_nil)))) (pss_one ps_never) pss_nil) (pss_cons (ps_if (pt_val (pe_callB call_isi (by rfl) T.n_isinstance (by decide +kernel) (pa_cons (pv 0) (pa_cons (pe_bltn (v := .ty "tuple") rfl T.n_tuple (by decide +kernel) rfl) pa_nil)))) (pss_one ps_never) pss_nil) (pss_one (ps_ret (pv 0))))), ?_⟩
      exact ⟨_, rfl, _, _, _, _, false, rfl, .ty "list", ty, h1, _, rfl, iteF ⟨_, rfl, _, _, _, _, false, rfl, .ty "tuple", ty, h2, _, rfl, iteF ⟨_, rfl, k _ _ (Same.refl _) ho⟩⟩⟩
    · obtain ⟨a, rfl, ha⟩ := ho
      refine ⟨_, (pss_cons (ps_if (pt_val (pe_callB call_isi (by rfl) T.n_isinstance (by decide +kernel) (pa_cons (pv 0) (pa_cons (pe_bltn (v := .ty "list") rfl T.n_list (by decide +kernel) rfl) pa_nil)))) (pss_one (ps_ret (pe_lc (own := [("part", 1)]) rfl sc_own_copy.nd (pi_list (pv 0)) (blkOk_by (own := [("part", 1)]) (N := ["thing", "part"]) (sc := defScope s_own_copy) (by decide +kernel)) (fun _ _ _ _ _ => (pg_name (i := 1) sc_own_copy.nd rfl (Or.inl rfl))) (fun _ _ _ _ _ => pts_nil) (fun _ _ _ _ _ => (pe_callO O_own_copy (hr.mono (by decide)) (pa_cons (pv 1) pa_nil)))))) pss_nil) pss_never), ?_⟩
      refine ⟨_, rfl, .ref a, .ty "list", .type "list", .type "list", true, rfl, .ty _, .base (.lst ha), kit_ty (by decide +kernel), _, rfl, iteT ?_⟩
      refine ⟨_, rfl, a, rfl, ⟨_, SqL.of ha⟩, fun D nD => ?_⟩
      refine lc_fm (walk_list (xs := ws.map V.str)) (fun j => ws[j]?.map V.str) nD (by rw [List.length_map]; have := ok.1; omega) (fun _ s => SqL.of (s _ _ ha)) ?_ ?_
      · rintro i x G0 G1 NT NE hi sg ⟨rfl, hx⟩ w0 w1
        rw [List.getElem?_map] at hx
        obtain ⟨z, hz, rfl⟩ := Option.map_eq_some_iff.mp hx
        exact ⟨rfl, _, rfl, z, rfl, w1 _ _ (by rw [hz]; rfl) (Same.refl _)⟩
      · intro G2 s2 hD
        rw [gath_map ws V.str (by rw [List.length_map])] at hD
        exact k _ G2 s2 ⟨D, rfl, hD⟩
    · obtain ⟨a, rfl, ha⟩ := ho
      refine ⟨_, (pss_cons (ps_if (pt_val (pe_callB call_isi (by rfl) T.n_isinstance (by decide +kernel) (pa_cons (pv 0) (pa_cons (pe_bltn (v := .ty "list") rfl T.n_list (by decide +kernel) rfl) pa_nil)))) (pss_one ps_never) pss_nil) (pss_cons (ps_if (pt_val (pe_callB call_isi (by rfl) T.n_isinstance (by decide +kernel) (pa_cons (pv 0) (pa_cons (pe_bltn (v := .ty "tuple") rfl T.n_tuple (by decide +kernel) rfl) pa_nil)))) (pss_one (ps_ret (pe_callTy call_tuple_of (by rfl) T.n_tuple (by decide +kernel) (pa_cons (pe_lc (own := [("part", 1)]) rfl sc_own_copy.nd (pi_tup (pv 0)) (blkOk_by (own := [("part", 1)]) (N := ["thing", "part"]) (sc := defScope s_own_copy) (by decide +kernel)) (fun _ _ _ _ _ => (pg_name (i := 1) sc_own_copy.nd rfl (Or.inl rfl))) (fun _ _ _ _ _ => pts_nil) (fun _ _ _ _ _ => (pe_callO O_own_copy (hr.mono (by decide)) (pa_cons (pv 1) pa_nil)))) pa_nil)))) pss_nil) pss_never)), ?_⟩
      refine ⟨_, rfl, .ref a, .ty "list", .type "tuple", .type "list", false, rfl, .ty _, .base (.tup ha), kit_ty (by decide +kernel), _, rfl, iteF ?_⟩
      refine ⟨_, rfl, .ref a, .ty "tuple", .type "tuple", .type "tuple", true, rfl, .ty _, .base (.tup ha), kit_ty (by decide +kernel), _, rfl, iteT ?_⟩
      refine ⟨_, rfl, a, rfl, ⟨_, SqT.of ha⟩, fun D nD => ?_⟩
      refine lc_fm (walk_tup (xs := ws.map V.str)) (fun j => ws[j]?.map V.str) nD (by rw [List.length_map]; have := ok.1; omega) (fun _ s => SqT.of (s _ _ ha)) ?_ ?_
      · rintro i x G0 G1 NT NE hi sg ⟨rfl, hx⟩ w0 w1
        rw [List.getElem?_map] at hx
        obtain ⟨z, hz, rfl⟩ := Option.map_eq_some_iff.mp hx
        exact ⟨rfl, _, rfl, z, rfl, w1 _ _ (by rw [hz]; rfl) (Same.refl _)⟩
      · intro G2 s2 hD
        rw [gath_map ws V.str (by rw [List.length_map])] at hD
        exact ⟨D, _, rfl, .inl ⟨SqL.of hD, fun q nq => k _ _ (s2.trans (same_upd nq)) ⟨q, rfl, upd_same⟩⟩⟩
/-- an own error that keeps a copy -/
def spErrO (C : Addr) (f : Str) : Sp := fun vs H Q _ => ∃ (H0 : Hp) (a : Addr) (y : V) (o : Od), vs = [.ref a, y] ∧ H = upd H0 a (exo a C none) ∧ H0 a = none ∧ OdAt H0 y o ∧ o.ok ∧
  ∀ H' d y', Same H0 H' → H0 d = none → H' a = some (exo a C (some d)) → H' d = some (exd d [(f, y')]) → OdAt H' y' o → Q .non H'
theorem sq_ne {u v : HO} (h : IsSq u) (n1 : ∀ z, v ≠ .lst z) (n2 : ∀ z, v ≠ .tup z) : u ≠ v := by
  rintro rfl
  rcases h with ⟨z, e⟩ | ⟨z, e⟩
  · exact n1 z e
  · exact n2 z e
theorem ok_BadFamily {f C : Addr} {fd : FuncData} (F : Fun K "__init__" "BadFamily.__init__" s_BadFamily___init__ f fd) (x : XCls K C) (n : NoAttr K C "word") (O_own_copy : Ok P w K mg base 2 "own_copy" ["thing"] spOwn) :
    FnOk P w K mg base CX0 3 f fd ["self", "word"] (spErrO C "word") := by
  refine F.ok sc_BadFamily___init__ (fun vs H Q E h => ?_) (fun cdv A outer s H vs Q E hr h => ?_)
  · obtain ⟨H0, a, y, o, rfl, _⟩ := h
    rfl
  · obtain ⟨H0, a, y, o, rfl, rfl, na, ho, ok, k⟩ := h
    refine ⟨_, pss_one (ps_put1 (pv 0) (pe_callO O_own_copy (hr.mono (by decide)) (pa_cons (pv 1) pa_nil))), ⟨_, rfl, y, o, rfl, ho.same (same_upd na), ok, fun y' H1 s1 o1 => ?_⟩⟩
    refine ⟨_, rfl, a, C, rfl, x, n, s1 _ _ upd_same, fun dx nd ne => ?_⟩
    have s0 : Same H0 H1 := (same_upd na).trans s1
    refine k _ dx y' (fun b u z => ?_) (s0.free nd) upd_same (by rw [upd_ne ne]; exact upd_same) (o1.moved fun b u z e => ?_)
    · rw [upd_ne (ne_of_none z na), upd_ne (ne_of_none (s0 _ _ z) nd)]
      exact s0 _ _ z
    · rw [upd_ne (ne_of z (s1 _ _ upd_same) (sq_ne e (fun _ q => by cases q) (fun _ q => by cases q))), upd_ne (ne_of_none z nd)]
      exact z
theorem same_raise {H0 H2 : Hp} {a d : Addr} {o : HO} (s : Same H0 H2) (na : H0 a = none) (nd : H0 d = none) : Same H0 (upd (del H2 a) d o) := fun b u z => by
  rw [upd_ne (ne_of_none z nd), del_ne (ne_of_none z na)]
  exact s b u z
/-- what pmk_x asks of such an error -/
theorem raise_o {C : Addr} {f : Str} {H : Hp} {y : V} {o : Od} {E : XK} (ho : OdAt H y o) (ok : o.ok) (ke : RaisedO C f o H E) : ([y] : List V).length ≤ 1000 ∧ ∀ a, H a = none → spErrO C f (.ref a :: ([y] ++ [])) (upd H a (exo a C none))
    (fun v H2 => v = .non ∧ ∃ (d : Addr) (fs : List (Str × V)), H2 a = some (exo a C (some d)) ∧ H2 d = some (exd d fs) ∧ H d = none ∧ E (.ref C) (some d) (upd (del H2 a) d (.xd fs))) (fun _ _ _ => False) := by
  refine ⟨by show 1 ≤ 1000; decide, fun a na => ⟨H, a, y, o, rfl, rfl, na, ho, ok, fun H' d y' s9 nd ha hd o9 => ⟨rfl, d, _, ha, hd, nd, ke d y' _ (same_raise s9 na nd) upd_same (o9.moved fun b u z e => ?_)⟩⟩⟩
  rw [upd_ne (ne_of z hd (sq_ne e (fun _ q => by cases q) (fun _ q => by cases q))), del_ne (ne_of z ha (sq_ne e (fun _ q => by cases q) (fun _ q => by cases q)))]
  exact z
end
end K86

namespace K86
open PySem PySem.Spec PyProof.Rows L2 EV TL LM
/-- values of any kind -/
structure OdsAt (H : Hp) (xs : List V) (os : List Od) : Prop where
  len : xs.length = os.length
  at_ : ∀ (i : Nat) (x : V) (o : Od), xs[i]? = some x → os[i]? = some o → OdAt H x o ∧ o.ok
theorem OdsAt.same {H H' : Hp} {xs : List V} {os : List Od} (h : OdsAt H xs os) (s : Same H H') : OdsAt H' xs os := ⟨h.len, fun i x o a b => ⟨(h.at_ i x o a b).1.same s, (h.at_ i x o a b).2⟩⟩
def firstBad (os : List Od) : Option Od := os.find? fun o => !inO lic o
def Lics (ws : List Str) : Prop := ∀ w ∈ ws, lic.contains w = true
theorem first_at : ∀ {os : List Od} {i : Nat} {o : Od}, (∀ j o', j < i → os[j]? = some o' → inO lic o' = true) → os[i]? = some o → inO lic o = false → firstBad os = some o
  | [], _, _, _, h, _ => by simp at h
  | x :: os, 0, o, _, h, b => by
    obtain rfl : x = o := by simpa using h
    unfold firstBad
    rw [List.find?_cons, b]
    rfl
  | x :: os, i + 1, o, g, h, b => by
    have gx := g 0 x (by omega) rfl
    have ih := first_at (os := os) (i := i) (o := o) (fun j o' hj h' => g (j + 1) o' (by omega) (by simpa using h')) (by simpa using h) b
    unfold firstBad at ih ⊢
    rw [List.find?_cons, gx]
    exact ih
theorem all_lics : ∀ {os : List Od}, (∀ o ∈ os, inO lic o = true) → ∃ ws, os = ws.map Od.s ∧ Lics ws
  | [], _ => ⟨[], rfl, fun w hw => by cases hw⟩
  | o :: os, h => by
    obtain ⟨ws, rfl, l⟩ := all_lics fun o' ho => h o' (List.mem_cons_of_mem _ ho)
    have h0 := h o List.mem_cons_self
    cases o with
    | s z =>
      refine ⟨z :: ws, rfl, fun w hw => ?_⟩
      rcases List.mem_cons.mp hw with rfl | hw
      · exact h0
      · exact l w hw
    | _ => cases h0
theorem ods_strs {H : Hp} {xs : List V} {ws : List Str} (h : OdsAt H xs (ws.map Od.s)) : xs = ws.map V.str := by
  refine List.ext_getElem? fun i => ?_
  have hl := h.len
  rw [List.length_map] at hl
  rcases Nat.lt_or_ge i ws.length with q | q
  · have e1 : xs[i]? = some (xs[i]'(by omega)) := List.getElem?_eq_getElem (by omega)
    have e2 : (ws.map Od.s)[i]? = some (Od.s ws[i]) := by rw [List.getElem?_map, List.getElem?_eq_getElem q]; rfl
    have e3 : xs[i]'(by omega) = V.str ws[i] := (h.at_ i _ _ e1 e2).1
    rw [e1, e3, List.getElem?_map, List.getElem?_eq_getElem q]
    rfl
  · rw [List.getElem?_eq_none (by omega), List.getElem?_eq_none (by rw [List.length_map]; omega)]
theorem strs_ods {H : Hp} {ws : List Str} (h : ∀ w ∈ ws, PyData.strOk w = true) : OdsAt H (ws.map V.str) (ws.map Od.s) := by
  refine ⟨by rw [List.length_map, List.length_map], fun i x o a b => ?_⟩
  rw [List.getElem?_map] at a b
  cases q : ws[i]? with
  | none => rw [q] at a; cases a
  | some z =>
    rw [q] at a b
    obtain rfl : V.str z = x := by injection a
    obtain rfl : Od.s z = o := by injection b
    exact ⟨rfl, h z (List.mem_of_getElem? q)⟩
theorem lic_shaped : SeqAt.shaped (strsD lic) = true := strs_shaped fun w hw => (lic_ok w hw).1
section
variable {P : Program} {w : World} {K : Fg} {mg : Str → Option Value} {base : Heap}
/-- Family(words), words a list or a tuple of values -/
def spFamX (K : Fg) (C CB : Addr) : Sp := fun vs H Q E => ∃ (a dx l : Addr) (bt : Bool) (xs : List V) (os : List Od), vs = [.ref a, .ref l] ∧ H a = some (.ins C dx []) ∧ SqX bt K H l xs ∧ xs.length ≤ 1000 ∧ OdsAt H xs os ∧
  (∀ o, firstBad os = some o → RaisedO CB "word" o H E) ∧ (∀ ws, os = ws.map Od.s → Lics ws → ∀ H', KeepA a H H' → FamAt K H' C a (fun l => ws.contains l) → Q .non H')
theorem ok_Family {f C CB : Addr} {fd : FuncData} (F : Fun K "__init__" "Family.__init__" s_Family___init__ f fd) (T : Cst K mg) (hC : FamC K C) (gL : mg "Family" = some (.ref C)) (O_BadFamily : OkC P w K mg base 3 "BadFamily" CB ["self", "word"] (spErrO CB "word")) (ty_BadFamily : PySem.W.typeIn K (.ref CB) = some (.type "type")) :
    FnOk P w K mg base (L2.CX P w) 5 f fd ["self", "words"] (spFamX K C CB) := by
  obtain ⟨mc, aL, uL, rC, vC, tL⟩ := hC.lic
  refine F.okX sc_Family___init__ (fun vs H Q E h => ?_) (fun cdv A outer s H vs Q E hr h => ?_)
  · obtain ⟨a, dx, l, bt, xs, os, rfl, _⟩ := h
    rfl
  · obtain ⟨a, dx, l, bt, xs, os, rfl, ha, hl, hw, od, k1, k0⟩ := h
    refine ⟨_, (pss_cons (ps_for (passes_of rfl) rfl (pi_or (pi_list (pv 1)) (pi_tup (pv 1))) (pg_name (i := 2) sc_Family___init__.nd rfl (Or.inl rfl)) (pss_one (ps_if (pt_cmpR (op_notInT (units65 hr)) (pv 2) (ClX.pe_cval (pe_glob (v := .ref C) rfl gL rfl)) (by rfl)) (pss_one (ps_raise rfl (takes_of rfl rfl rfl rfl) (pmk_x O_BadFamily ty_BadFamily (hr.mono (by decide)) (pa_cons (pv 2) pa_nil)))) pss_nil)))
    (pss_one (ps_fld (pv 0) (pe_callTy call_tuple_of (by rfl) T.n_tuple (by decide +kernel) (pa_cons (pe_lc (own := [("licence", 3)]) rfl sc_Family___init__.nd (pi_tup (ClX.pe_cval (pe_glob (v := .ref C) rfl gL rfl))) (blkOk_by (own := [("licence", 3)]) (N := ["self", "words", "word", "licence"]) (sc := defScope s_Family___init__) (by decide +kernel)) (fun _ _ _ _ _ => (pg_name (i := 3) sc_Family___init__.nd rfl (Or.inl rfl))) (fun _ _ _ _ _ => (pts_one (pt_cmpR (show OpR _ _ (rIn K false) from op_in_seq) (pv 3) (pv 1) (by rfl)))) (fun _ _ _ _ _ => (pv 3))) pa_nil)) rfl))), ?_⟩
    refine any_walk bt ⟨_, rfl, rfl, rfl⟩ hl fun J wk => for_it wk (fun i σ G => G = H ∧ (∀ j o', j < i → os[j]? = some o' → inO lic o' = true) ∧ ∃ u : Option V, σ = [some (.ref a), some (.ref l), u, none]) ⟨rfl, (fun j o' hj => by omega), none, rfl⟩ (fun i σ G _ q => q.1 ▸ hl) ?_ ?_
    · rintro i x σ G G' hi ⟨rfl, gd, u, rfl⟩ ⟨rfl, hx⟩
      have lo := od.len
      have ho : os[i]? = some (os[i]'(by omega)) := List.getElem?_eq_getElem (by omega)
      obtain ⟨h1, h2⟩ := od.at_ i _ _ hx ho
      generalize os[i]'(by omega) = o at ho h1 h2
      refine ⟨_, rfl, C, mc, _, _, rfl, rC, vC, o.data, lic.map PyData.str, h1.dp, dp_strsT tL.sq, Od.shaped h2, lic_shaped, _, rfl, ?_⟩
      rw [any_strs]
      cases e : inO lic o with
      | true =>
        refine iteF ⟨rfl, fun j o' hj h' => ?_, _, rfl⟩
        rcases Nat.lt_succ_iff_lt_or_eq.mp hj with hj | rfl
        · exact gd j o' hj h'
        · rw [ho] at h'; injection h' with h'; rw [← h']; exact e
      | false => exact iteT ⟨_, rfl, raise_o h1 h2 (k1 o (first_at gd ho e))⟩
    · rintro σ G ⟨rfl, gd, u, rfl⟩
      obtain ⟨ws, rfl, il⟩ := all_lics (os := os) fun o ho => by
        obtain ⟨j, hj, rfl⟩ := List.mem_iff_getElem.mp ho
        exact gd j _ (by rw [od.len]; exact hj) (List.getElem?_eq_getElem hj)
      obtain rfl := ods_strs od
      have k := k0 ws rfl il
      refine ⟨C, mc, _, _, rfl, rC, vC, aL, rfl, ⟨_, tL.sq⟩, fun D nD => ?_⟩
      refine lc_fm (walk_tup (xs := lic.map V.str)) (fun j => lic[j]?.bind fun x => if ws.contains x = true then some (V.str x) else none) nD (by show 10 ≤ 1000000; decide) (fun _ _ => tL.sq) ?_ ?_
      · rintro i x G0 G1 NT NE hi sg ⟨rfl, hx⟩ w0 w1
        rw [List.getElem?_map] at hx
        obtain ⟨lw, hlw, rfl⟩ : ∃ lw, lic[i]? = some lw ∧ V.str lw = x := by
          cases q : lic[i]? with
          | none => rw [q] at hx; cases hx
          | some lw => rw [q] at hx; exact ⟨lw, rfl, by injection hx⟩
        refine ⟨rfl, _, rfl, _, rfl, l, _, rfl, sqX_or (sqX_same sg hl), rfl, flat_strs _, _, rfl, ?_⟩
        rw [inV_strs]
        cases e : ws.contains lw with
        | false => exact iteF (w0 (by rw [hlw]; show (if ws.contains lw = true then some (V.str lw) else none) = none; rw [e]; rfl) _ (Same.refl _))
        | true => exact iteT ⟨_, rfl, w1 _ _ (by rw [hlw]; show (if ws.contains lw = true then some (V.str lw) else none) = _; rw [e]; rfl) (Same.refl _)⟩
      · intro G2 s2 hD
        rw [gath_filter lic (fun x => ws.contains x) V.str (by rfl)] at hD
        refine ⟨D, _, rfl, .inl ⟨SqL.of hD, fun q nq => ?_⟩⟩
        have qa : q ≠ a := fun e => by rw [e, s2 _ _ ha] at nq; cases nq
        refine ⟨_, rfl, a, C, dx, _, rfl, ((s2.trans (same_upd nq)) _ _ ha), hC.cls, hC.no, by decide, ?_⟩
        refine k _ (fun b u n z => ?_) ⟨dx, q, ?_, SqT.of ?_⟩
        · rw [upd_ne n]
          exact (s2.trans (same_upd nq)) _ _ z
        · rw [upd_same]
          rfl
        · rw [upd_ne qa, upd_same]
          rfl
/-- what making a family asks and gives -/
def Making (K : Fg) (C CB : Addr) (os : List Od) (H : Hp) (Q : VK) (E : XK) : Prop := (∀ o, firstBad os = some o → RaisedO CB "word" o H E) ∧ (∀ ws, os = ws.map Od.s → Lics ws → ∀ r H', Same H H' → H r = none → FamAt K H' C r (fun l => ws.contains l) → Q (.ref r) H')
theorem make_fam {G : Hp} {C CB l : Addr} {bt : Bool} {xs : List V} {os : List Od} {Q : VK} {E : XK} (hl : SqX bt K G l xs) (hn : xs.length ≤ 1000) (od : OdsAt G xs os) (m : Making K C CB os G Q E) :
    ∀ a dx : Addr, G a = none → G dx = none → dx ≠ a → spFamX K C CB [.ref a, .ref l] (upd (upd G dx (.own a)) a (.ins C dx [])) (fun v H' => v = .non ∧ Q (.ref a) H') E := by
  intro a dx na ndx nad
  obtain ⟨m1, m2⟩ := made (C := C) na ndx nad
  exact ⟨a, dx, l, bt, xs, os, rfl, upd_same, sqX_same m1 hl, hn, od.same m1, fun o ho => (m.1 o ho).mono m1, fun ws e il H' kp fa => ⟨rfl, m.2 ws e il a H' (m2 H' kp) na fa⟩⟩
theorem mkF {G : Hp} {C CB l a dx : Addr} {bt : Bool} {xs : List V} {os : List Od} {R : VK} {E : XK} (hl : SqX bt K G l xs) (hn : xs.length ≤ 1000) (od : OdsAt G xs os) (na : G a = none) (ndx : G dx = none) (nad : dx ≠ a)
    (k1 : ∀ o, firstBad os = some o → RaisedO CB "word" o G E) (k0 : ∀ ws, os = ws.map Od.s → Lics ws → ∀ H', Same G H' → FamAt K H' C a (fun l => ws.contains l) → R .non H') :
    spFamX K C CB [.ref a, .ref l] (upd (upd G dx (.own a)) a (.ins C dx [])) R E := by
  obtain ⟨m1, m2⟩ := made (C := C) na ndx nad
  exact ⟨a, dx, l, bt, xs, os, rfl, upd_same, sqX_same m1 hl, hn, od.same m1, fun o ho => (k1 o ho).mono m1, fun ws e il H' kp fa => k0 ws e il H' (m2 H' kp) fa⟩
/-- Family.of(..) -/
def spOfB (K : Fg) (C CB : Addr) : Sp := fun vs H Q E => ∃ (p : Addr) (xs : List V) (os : List Od), vs = [.ref C, .ref p] ∧ H p = some (.tup xs) ∧ xs.length ≤ 1000 ∧ OdsAt H xs os ∧ Making K C CB os H Q E
def spOfS (K : Fg) (C CB : Addr) : Sp := fun vs H Q E => ∃ (xs : List V) (os : List Od), vs = .ref C :: xs ∧ xs.length ≤ 1000 ∧ OdsAt H xs os ∧ Making K C CB os H Q E
theorem ok_of {f C CB : Addr} {oc kV doc pm cdv ct : Value} {an od : Option Addr} {osl : Array (Option Value)} (lk : K.lookup f = some ⟨oc, od, .func (PySem.W.fnOf "of" "Family.of" (defArgs s_Family_of) (defBody s_Family_of) (defScope s_Family_of) .none kV doc pm an cdv ct), osl⟩) (hcd : PySem.W.codeIn K cdv "Family.of" = true)
    (O_Family : OkIX P w K mg base 5 "Family" C ["self", "words"] (spFamX K C CB)) : FnR P w K mg base (L2.CX P w) 7 f (spOfS K C CB) := by
  refine (StX.fn_star (ps := ["cls"]) (k := 6) (sp := spOfB K C CB) lk hcd sc_Family_of StX.cxUp (StX.bind_star1 (B := fun xs => bindArgs (PySem.W.fnOf "of" "Family.of" (defArgs s_Family_of) (defBody s_Family_of) (defScope s_Family_of) .none kV doc pm an cdv ct) ⟨xs, []⟩) (p1 := "cls") (pv := "words") (fun _ => rfl) (fun _ _ _ => rfl)) (fun A outer s H vs Q E hr h => ?_)).imp (fun vs H Q E h => ?_)
  · obtain ⟨p, xs, os, rfl, hp, hn, od, m⟩ := h
    refine ⟨_, (pss_one (ps_ret (pe_mkVX (takes_of rfl rfl rfl rfl) O_Family (hr.mono (by decide)) (pv 0) (pa_cons (pv 1) pa_nil)))), ?_⟩
    exact ⟨_, rfl, rfl, _, rfl, make_fam (bt := true) (SqT.of hp) hn od m⟩
  · obtain ⟨xs, os, rfl, hn, od, m⟩ := h
    refine ⟨[.ref C], xs, rfl, rfl, by rw [sizeLine_eq]; omega, fun p np => ⟨p, xs, os, rfl, upd_same, hn, od.same (same_upd np), fun o ho => (m.1 o ho).mono (same_upd np), fun ws e il r H' s n fa => m.2 ws e il r H' ((same_upd np).trans s) ((same_upd np).free n) fa⟩⟩
def spLenF (K : Fg) (C : Addr) : Sp := fun vs H Q _ => ∃ (a : Addr) (p : Str → Bool), vs = [.ref a] ∧ FamAt K H C a p ∧ Q (.int ((famW p).length : Nat)) H
theorem ok_len {f C : Addr} {fd : FuncData} (F : Fun K "__len__" "Family.__len__" s_Family___len__ f fd) (T : Cst K mg) (hC : FamC K C) : FnOk P w K mg base CX0 1 f fd ["self"] (spLenF K C) := by
  refine F.ok sc_Family___len__ (fun vs H Q E h => ?_) (fun cdv A outer s H vs Q E hr h => ?_)
  · obtain ⟨a, p, rfl, _⟩ := h
    rfl
  · obtain ⟨a, p, rfl, ⟨dx, wa, ha, hwa⟩, k⟩ := h
    refine ⟨_, (pss_one (ps_ret (pe_callB call_len_seq (by rfl) T.n_len (by decide +kernel) (pa_cons (pe_fld (pv 0) rfl) pa_nil)))), ?_⟩
    refine ⟨_, rfl, a, C, dx, _, _, rfl, ha, hC.cls, hC.no, fam_words, wa, _, rfl, .inr hwa, ?_⟩
    rw [List.length_map]
    exact k

/-- bool -/
def spBoolF (K : Fg) (C : Addr) : Sp := fun vs H Q _ => ∃ (a : Addr) (p : Str → Bool), vs = [.ref a] ∧ FamAt K H C a p ∧ Q (.bl (!(famW p).isEmpty)) H
theorem ok_bool {f C : Addr} {fd : FuncData} (F : Fun K "__bool__" "Family.__bool__" s_Family___bool__ f fd) (T : Cst K mg) (hC : FamC K C) : FnOk P w K mg base CX0 3 f fd ["self"] (spBoolF K C) := by
  refine F.ok sc_Family___bool__ (fun vs H Q E h => ?_) (fun cdv A outer s H vs Q E hr h => ?_)
  · obtain ⟨a, p, rfl, _⟩ := h
    rfl
  · obtain ⟨a, p, rfl, ⟨dx, wa, ha, hwa⟩, k⟩ := h
    refine ⟨_, (pss_one (ps_ret (pe_callTy call_boolT (by rfl) T.n_bool (by decide +kernel) (pa_cons (pe_fld (pv 0) rfl) pa_nil)))), ?_⟩
    refine ⟨_, rfl, a, C, dx, _, _, rfl, ha, hC.cls, hC.no, fam_words, wa, _, rfl, hwa, ?_⟩
    rw [List.isEmpty_map]
    exact k
theorem od_ty {H : Hp} {v : V} : ∀ {o : Od}, OdAt H v o → ∃ T, T ∈ plainTys ∧ TyX K H v (.type T)
  | .s z, h => by obtain rfl : v = _ := h; exact ⟨"str", by decide, .base (.str z)⟩
  | .i j, h => by obtain rfl : v = _ := h; exact ⟨"int", by decide, .base (.int j)⟩
  | .n, h => by obtain rfl : v = _ := h; exact ⟨"NoneType", by decide, .base .non⟩
  | .b kk, h => by obtain rfl : v = _ := h; exact ⟨"bool", by decide, .base (.bl kk)⟩
  | .l z, ⟨a, e, h⟩ => by subst e; exact ⟨"list", by decide, .base (.lst h)⟩
  | .t z, ⟨a, e, h⟩ => by subst e; exact ⟨"tuple", by decide, .base (.tup h)⟩
/-- x in a family -/
def spHasF (K : Fg) (C : Addr) : Sp := fun vs H Q _ => ∃ (a : Addr) (y : V) (o : Od) (p : Str → Bool), vs = [.ref a, y] ∧ FamAt K H C a p ∧ OdAt H y o ∧ o.ok ∧ Q (.bl (inO (famW p) o)) H
theorem ok_contains {f C CW : Addr} {fd : FuncData} (F : Fun K "__contains__" "Family.__contains__" s_Family___contains__ f fd) (T : Cst K mg) (hC : FamC K C) (hdW : PySem.W.hasDictIn K CW = true) (tyW : PySem.W.typeIn K (.ref CW) = some (.type "type")) (gW : mg "World" = some (.ref CW)) :
    FnOk P w K mg base CX0 1 f fd ["self", "x"] (spHasF K C) := by
  refine F.ok sc_Family___contains__ (fun vs H Q E h => ?_) (fun cdv A outer s H vs Q E hr h => ?_)
  · obtain ⟨a, y, o, p, rfl, _⟩ := h
    rfl
  · obtain ⟨a, y, o, p, rfl, ⟨dx, wa, ha, hwa⟩, ho, ok, k⟩ := h
    refine ⟨_, (pss_cons (ps_if (pt_val (pe_callB call_isi (by rfl) T.n_isinstance (by decide +kernel) (pa_cons (pv 1) (pa_cons (pe_glob (v := .ref CW) rfl gW rfl) pa_nil)))) (pss_one ps_never) pss_nil) (pss_one (ps_ret (pe_cmpR (op_inT (units65 hr)) (pv 1) (pe_fld (pv 0) rfl) (by rfl))))), ?_⟩
    obtain ⟨T', hT, hy⟩ := od_ty (K := K) ho
    refine ⟨_, rfl, _, _, _, _, false, rfl, .own CW, hy, kit_not hdW tyW hT, _, rfl, iteF ?_⟩
    refine ⟨_, rfl, _, rfl, a, C, dx, _, _, rfl, ha, hC.cls, hC.no, fam_words, o.data, (famW p).map PyData.str, ho.dp, dp_strsT hwa, Od.shaped ok, strs_shaped famW_ok, ?_⟩
    rw [any_strs]
    exact k
/-- == with a family, or with a value of a plain kind -/
def spEqF (K : Fg) (C : Addr) : Sp := fun vs H Q _ => ∃ (a : Addr) (y : V) (p : Str → Bool), vs = [.ref a, y] ∧ FamAt K H C a p ∧ ((∃ b q, y = .ref b ∧ FamAt K H C b q ∧ Q (.bl (decide (famW p = famW q))) H) ∨ (∃ T, T ∈ plainTys ∧ TyX K H y (.type T) ∧ Q (.bl false) H))
theorem ok_eq {f C : Addr} {fd : FuncData} (F : Fun K "__eq__" "Family.__eq__" s_Family___eq__ f fd) (T : Cst K mg) (hC : FamC K C) (iL : IsiL K C) (hd : PySem.W.hasDictIn K C = true) (ty : PySem.W.typeIn K (.ref C) = some (.type "type")) (gL : mg "Family" = some (.ref C)) :
    FnOk P w K mg base CX0 1 f fd ["self", "other"] (spEqF K C) := by
  refine F.ok sc_Family___eq__ (fun vs H Q E h => ?_) (fun cdv A outer s H vs Q E hr h => ?_)
  · obtain ⟨a, y, p, rfl, _⟩ := h
    rfl
  · obtain ⟨a, y, p, rfl, ⟨dx, wa, ha, hwa⟩, h⟩ := h
    refine ⟨_, (pss_one (ps_ret (pe_and (pe_callB call_isi (by rfl) T.n_isinstance (by decide +kernel) (pa_cons (pv 1) (pa_cons (pe_glob (v := .ref C) rfl gL rfl) pa_nil))) (pe_one (pe_cmpR (op_eqD hr.units) (pe_fld (pv 0) rfl) (pe_fld (pv 1) rfl) (nomark _)))))), ?_⟩
    rcases h with ⟨b, q, rfl, ⟨dy, wb, hb, hwb⟩, k⟩ | ⟨T', hT, hy, k⟩
    · refine ⟨_, rfl, _, _, _, _, true, rfl, .own C, iL.tyx hC.cls hb, kit_self, _, rfl, iteT ⟨_, rfl, a, C, dx, _, _, rfl, ha, hC.cls, hC.no, fam_words, _, rfl, b, C, dy, _, _, rfl, hb, hC.cls, hC.no, fam_words, _, _, dp_strsT hwa, dp_strsT hwb, strs_shaped famW_ok, strs_shaped famW_ok, ?_⟩⟩
      show Q (.bl (PyData.eqvAll ((famW p).map PyData.str) ((famW q).map PyData.str))) H
      rw [eqv_strs]
      exact k
    · exact ⟨_, rfl, _, _, _, _, false, rfl, .own C, hy, kit_not hd ty hT, _, rfl, iteF k⟩
def famR (p : Str → Bool) : Str := ("Family(" : Str) ++ Str.join ", " (famW p) ++ (")" : Str)
def spRepr (K : Fg) (C : Addr) : Sp := fun vs H Q _ => ∃ (a : Addr) (p : Str → Bool), vs = [.ref a] ∧ FamAt K H C a p ∧ Q (.str (famR p)) H
theorem sum_filter (f : Str → Nat) (p : Str → Bool) : ∀ xs : List Str, ((xs.filter p).map f).sum ≤ (xs.map f).sum
  | [] => Nat.le_refl _
  | x :: xs => by
    have ih := sum_filter f p xs
    rw [List.filter_cons]
    split
    · rw [List.map_cons, List.map_cons, List.sum_cons, List.sum_cons]
      omega
    · rw [List.map_cons, List.sum_cons]
      omega
theorem len_app (x y : Str) : (x ++ y).length = x.length + y.length := by rw [len_tl, len_tl, len_tl, tl_append, List.length_append]
theorem l_e : Str.empty.length = 0 := rfl
theorem len_join (s : Str) : ∀ ws : List Str, (Str.join s ws).length ≤ (ws.map (·.length)).sum + ws.length * s.length
  | [] => by simp [Str.join, l_e]
  | [x] => by
    show x.length ≤ _
    simp
  | x :: y :: r => by
    have := len_join s (y :: r)
    show (x ++ s ++ Str.join s (y :: r)).length ≤ _
    rw [len_app, len_app]
    simp only [List.map_cons, List.sum_cons, List.length_cons] at this ⊢
    rw [show (r.length + 1 + 1) * s.length = (r.length + 1) * s.length + s.length from Nat.succ_mul _ _]
    omega
theorem join_le (p : Str → Bool) : (Str.join ", " (famW p)).length ≤ 100 := by
  have a := len_join ", " (famW p)
  have b := sum_filter (fun w => w.length) p lic
  have c : (lic.map fun w => w.length).sum = 47 := by decide +kernel
  have d : (", " : Str).length = 2 := by decide +kernel
  have e := famW_le p
  rw [d] at a
  have f : ((famW p).map fun w => w.length).sum ≤ 47 := c ▸ b
  have g : (Str.join ", " (famW p)).length ≤ ((famW p).map fun w => w.length).sum + (famW p).length * 2 := a
  omega
theorem app_empty (x : Str) : Str.empty ++ x = x := ext_tl (by rw [tl_append]; rfl)
theorem ok_repr {f C : Addr} {fd : FuncData} (F : Fun K "__repr__" "Family.__repr__" s_Family___repr__ f fd) (T : Cst K mg) (hC : FamC K C) : FnOk P w K mg base CX0 1 f fd ["self"] (spRepr K C) := by
  refine F.ok sc_Family___repr__ (fun vs H Q E h => ?_) (fun cdv A outer s H vs Q E hr h => ?_)
  · obtain ⟨a, p, rfl, _⟩ := h
    rfl
  · obtain ⟨a, p, rfl, ⟨dx, wa, ha, hwa⟩, k⟩ := h
    refine ⟨_, (pss_one (ps_ret (pe_joinedT (.cons pe_str (.cons (pe_fmt (pe_join pe_str (pe_fld (pv 0) rfl))) (.cons pe_str .nil)))))), ?_⟩
    have jl := join_le p
    have l1 : ("Family(" : Str).length = 7 := by decide +kernel
    have l2 : (")" : Str).length = 1 := by decide +kernel
    have sz : sizeLine = 1048576 ∨ 1000 ≤ sizeLine := .inr (by rw [sizeLine_eq]; decide)
    have s1 : 1000 ≤ sizeLine := by rw [sizeLine_eq]; decide
    refine ⟨_, rfl, by rw [len_app, l1, l_e]; omega, ⟨_, rfl⟩, _, rfl, a, C, dx, _, _, rfl, ha, hC.cls, hC.no, fam_words, _, wa, famW p, rfl, rfl, .inr hwa, ?_, .inl ⟨_, rfl, by rw [join_eq]; omega, _, rfl, ?_, _, rfl, ?_, ?_⟩⟩
    · have := sum_filter (fun w => w.length) p lic
      have b : (lic.map fun w => w.length).sum = 47 := by decide +kernel
      have c : (", " : Str).length = 2 := by decide +kernel
      have e := famW_le p
      rw [c]
      show ((famW p).map fun w => w.length).sum + _ ≤ _
      have f : ((famW p).map fun w => w.length).sum ≤ 47 := b ▸ this
      omega
    · rw [join_eq, len_app, len_app, l1, l_e]
      omega
    · rw [join_eq, len_app, len_app, len_app, l1, l2, l_e]
      omega
    · rw [join_eq, app_empty]
      exact k
end
end K86

namespace K86
open PySem PySem.Spec PyProof.Rows L2 EV
/-! ### the bag of draws -/
/-- what stays of a heap in which the list at b is written -/
def Keep (b : Addr) (H H' : Hp) : Prop := ∀ a u, a ≠ b → H a = some u → H' a = some u
theorem Keep.refl {b : Addr} (H : Hp) : Keep b H H := fun _ _ _ h => h
theorem Keep.trans {b : Addr} {H H1 H2 : Hp} (h : Keep b H H1) (h' : Keep b H1 H2) : Keep b H H2 := fun a u n z => h' a u n (h a u n z)
theorem Keep.of {b : Addr} {H H' : Hp} (s : Same H H') : Keep b H H' := fun a u _ z => s a u z
theorem Keep.upd {b : Addr} {H : Hp} {o : HO} : Keep b H (upd H b o) := fun a u n z => by rw [upd_ne n]; exact z
theorem keep_new {b p : Addr} {H G : Hp} {o : HO} (k : Keep b H G) (np : H p = none) : Keep b H (L2.upd G p o) := fun a u n z => by
  rw [upd_ne (ne_of_none z np)]
  exact k a u n z
/-- the bag at b: digits and a mixed number -/
def BagAt (H : Hp) (b : Addr) : Prop := ∃ d m : Int, H b = some (.lst [.int d, .int m]) ∧ 0 ≤ d ∧ 0 ≤ m ∧ m < 4294967296
theorem BagAt.same {H H' : Hp} {b : Addr} (h : BagAt H b) (s : Same H H') : BagAt H' b := by
  obtain ⟨d, q, h1, h2⟩ := h
  exact ⟨d, q, s _ _ h1, h2⟩
theorem BagAt.ne {H : Hp} {b a : Addr} (h : BagAt H b) (n : H a = none) : a ≠ b := fun e => by
  obtain ⟨_, _, y, _⟩ := h
  rw [e, y] at n
  cases n
theorem BagAt.upd {H : Hp} {b p : Addr} {o : HO} (h : BagAt H b) (n : p ≠ b) : BagAt (L2.upd H p o) b := by
  obtain ⟨d, q, h1, h2⟩ := h
  exact ⟨d, q, (upd_ne (Ne.symm n)).trans h1, h2⟩
def spTake : Sp := fun vs H Q _ => ∃ (b : Addr) (many : Int), vs = [.ref b, .int many] ∧ BagAt H b ∧ 0 < many ∧ many.natAbs < 2 ^ 200 ∧
  ∀ (r : Int) (H' : Hp), 0 ≤ r → r < many → Keep b H H' → BagAt H' b → Q (.int r) H'
section
variable {P : Program} {w : World} {K : Fg} {mg : Str → Option Value} {base : Heap}
theorem ok_law_take {f : Addr} {fd : FuncData} (F : Fun K "_law_take" "_law_take" s_law_take f fd) (T : Txt K mg) : FnOk P w K mg base CX0 1 f fd ["bag", "many"] spTake := by
  refine F.ok sc_law_take (fun vs H Q E h => ?_) (fun cdv A outer s H vs Q E hr h => ?_)
  · obtain ⟨b, many, rfl, _⟩ := h
    rfl
  · obtain ⟨b, many, rfl, ⟨d, m, hb, d0, m0, m1⟩, h0, h200, k⟩ := h
    refine ⟨_, (pss_cons (ps_if (pt_cmpR op_gt (pe_ix ix_list (pv 0) pe_int (fun _ _ => rfl)) pe_int (nomark _)) (pss_cons (ps_set (i := 2) sc_law_take.nd rfl (Or.inl rfl) (pe_op op_mod (pe_callTy call_int1 (by rfl) T.n_int (by decide +kernel) (pa_cons (pe_ix ix_list (pv 0) pe_int (fun _ _ => rfl)) pa_nil)) (pv 1)))
    (pss_cons (ps_asg (pe_op op_fdivW (pe_ix ix_list (pv 0) pe_int (fun _ _ => rfl)) (pv 1)) (pg_sub (pv 0) pe_int set_list))
    (pss_one (ps_ret (pv 2))))) pss_nil)
    (pss_cons (ps_asg (pe_op op_mod (pe_callTy call_int1 (by rfl) T.n_int (by decide +kernel) (pa_cons (pe_op op_add (pe_op op_mul (pe_ix ix_list (pv 0) pe_int (fun _ _ => rfl)) pe_int) pe_int) pa_nil)) pe_int) (pg_sub (pv 0) pe_int set_list))
    (pss_one (ps_ret (pe_op op_mod (pe_op op_fdiv (pe_op op_mod (pe_callTy call_int1 (by rfl) T.n_int (by decide +kernel) (pa_cons (pe_op op_mul (pe_op op_fdiv (pe_ix ix_list (pv 0) pe_int (fun _ _ => rfl)) pe_int) pe_int) pa_nil)) pe_int) pe_int) (pv 1)))))), ?_⟩
    refine ⟨_, rfl, b, _, 0, _, rfl, rfl, SqL.of hb, rfl, _, _, rfl, rfl, _, rfl, ?_⟩
    refine ite2 (fun hd => ?_) (fun hd => ?_)
    · have hd' : 0 < d := of_decide_eq_true hd
      refine ⟨_, rfl, b, _, 0, _, rfl, rfl, SqL.of hb, rfl, .inl ⟨_, rfl, _, rfl, _, _, rfl, rfl, h0, ?_⟩⟩
      refine ⟨_, rfl, b, _, 0, _, rfl, rfl, SqL.of hb, rfl, _, rfl, _, _, rfl, rfl, wide_div h0 h200 (by decide) (by decide), ?_⟩
      refine ⟨_, rfl, b, _, 0, 0, rfl, rfl, hb, rfl, ?_⟩
      refine ⟨_, rfl, k _ _ (Int.emod_nonneg _ (by omega)) (Int.emod_lt_of_pos _ h0) Keep.upd ⟨d / many, m, upd_same, Int.ediv_nonneg d0 (by omega), m0, m1⟩⟩
    · refine ⟨_, rfl, b, _, 1, _, rfl, rfl, SqL.of hb, rfl, _, _, rfl, rfl, .inl ⟨by omega, by omega⟩, _, _, rfl, rfl, .inl ⟨_, rfl, _, _, rfl, rfl, by show (0 : Int) < 2147483647; decide, ?_⟩⟩
      refine ⟨_, rfl, b, _, 1, 1, rfl, rfl, hb, rfl, ?_⟩
      have z0 := Int.emod_nonneg (m * 45991 + 70001) (show (2147483647 : Int) ≠ 0 by decide)
      have z1 := Int.emod_lt_of_pos (m * 45991 + 70001) (show (0 : Int) < 2147483647 by decide)
      have hb1 : upd H b (.lst ([V.int d, .int m].set 1 (.int ((m * 45991 + 70001) % 2147483647)))) b = some (.lst [.int d, .int ((m * 45991 + 70001) % 2147483647)]) := upd_same
      refine ⟨_, rfl, b, _, 1, _, rfl, rfl, SqL.of hb1, rfl, _, _, rfl, rfl, ⟨by decide, by decide⟩, _, _, rfl, rfl, .inl ⟨by omega, by omega⟩,
        .inl ⟨_, rfl, _, _, rfl, rfl, by show (0 : Int) < 2147483579; decide, _, _, rfl, rfl, ⟨by decide, by decide⟩, _, rfl, _, _, rfl, rfl, h0, ?_⟩⟩
      exact k _ _ (Int.emod_nonneg _ (by omega)) (Int.emod_lt_of_pos _ h0) Keep.upd ⟨d, _, upd_same, d0, z0, by omega⟩
def spBag (K : Fg) : Sp := fun vs H Q _ => ∃ (a : Addr) (ns : List Int) (i : Nat), vs = [.ref a, .int (i : Nat)] ∧ SqL K H a (ns.map V.int) ∧ i ≤ 63 ∧ ∀ (b : Addr) (H' : Hp), H b = none → Same H H' → BagAt H' b → Q (.ref b) H'
theorem cut_take (xs : List V) (k : Nat) : cutV xs none (some (k : Int)) = xs.take k := by
  unfold cutV
  rw [HT.sIx_nat, HT.sIx_none, List.drop_zero, Nat.sub_zero]
  rcases Nat.lt_or_ge xs.length k with h | h
  · rw [Nat.min_eq_right (Nat.le_of_lt h), List.take_of_length_le (Nat.le_refl _), List.take_of_length_le (Nat.le_of_lt h)]
  · rw [Nat.min_eq_left h]
theorem at_ints {ns : List Int} {i : Nat} (h : i < ns.length) : ∃ z, atI (ns.map V.int) (i : Int) = some (V.int z) := ⟨ns[i], atI_nat (by rw [List.getElem?_map, List.getElem?_eq_getElem h]; rfl)⟩
theorem ok_law_bag {f : Addr} {fd : FuncData} (F : Fun K "_law_bag" "_law_bag" s_law_bag f fd) (T : Txt K mg) : FnOk P w K mg base CX0 1 f fd ["script", "at"] (spBag K) := by
  refine F.ok sc_law_bag (fun vs H Q E h => ?_) (fun cdv A outer s H vs Q E hr h => ?_)
  · obtain ⟨a, ns, i, rfl, _⟩ := h
    rfl
  · obtain ⟨a, ns, i, rfl, hS, i3, k⟩ := h
    refine ⟨_, (pss_cons (ps_set (i := 2) sc_law_bag.nd rfl (Or.inl rfl) (pe_mid (pe_ifExp (pt_cmpR op_lt (pv 1) (pe_callB call_len_seq (by rfl) T.n_len (by decide +kernel) (pa_cons (pv 0) pa_nil)) (nomark _)) (pe_ix ix_list (pv 0) (pv 1) (fun _ _ => rfl)) pe_int)))
    (pss_cons (ps_set (i := 3) sc_law_bag.nd rfl (Or.inl rfl) (pe_op op_add (pe_op op_mul pe_int (pv 1)) pe_int))
    (pss_cons (ps_for PassesOwn.never rfl (pi_enum (by rfl) T.n_enumerate (pa_cons (pe_slice sl_list (pv 0) po_none (po_some pe_int)) pa_nil)) (pg_tup rfl (pgs_cons (pg_name (i := 4) sc_law_bag.nd rfl (Or.inl rfl)) (pgs_cons (pg_name (i := 5) sc_law_bag.nd rfl (Or.inl rfl)) pgs_nil))) (pss_one (ps_set (i := 3) sc_law_bag.nd rfl (Or.inl rfl) (pe_op op_mod (pe_callTy call_int1 (by rfl) T.n_int (by decide +kernel) (pa_cons (pe_op op_add (pe_op op_add (pe_op op_mul (pv 3) pe_int) (pe_op op_mod (pe_callTy call_int1 (by rfl) T.n_int (by decide +kernel) (pa_cons (pv 5) pa_nil)) pe_int)) (pe_op op_mul pe_int (pv 4))) pa_nil)) pe_int))))
    (pss_one (ps_ret (pe_lst (pa_cons (pe_mid (pe_ifExp (pt_cmpR op_ge (pe_callB call_abs (by rfl) T.n_abs (by decide +kernel) (pa_cons (pv 2) pa_nil)) (pe_op op_pow pe_int pe_int) (nomark _)) (pe_callB call_abs (by rfl) T.n_abs (by decide +kernel) (pa_cons (pv 2) pa_nil)) pe_int)) (pa_cons (pv 3) pa_nil)))))))), ?_⟩
    refine ⟨fun v H1 => (∃ z : Int, v = .int z) ∧ H = H1, ⟨_, rfl, _, rfl, a, _, rfl, .inl hS, _, _, rfl, rfl, _, rfl, ite2 (fun hd => ?_) (fun hd => ⟨⟨_, rfl⟩, rfl⟩)⟩, ?_⟩
    · have hd' := of_decide_eq_true hd
      rw [List.length_map] at hd'
      obtain ⟨z, hz⟩ := at_ints (ns := ns) (i := i) (by omega)
      exact ⟨_, rfl, _, rfl, a, _, _, _, rfl, rfl, hS, hz, ⟨z, rfl⟩, rfl⟩
    · rintro _ _ ⟨⟨z, rfl⟩, rfl⟩
      refine ⟨_, rfl, _, _, rfl, rfl, .inl ⟨by decide, by decide⟩, _, _, rfl, rfl, ?_⟩
      refine ⟨_, rfl, 63, rfl, a, _, rfl, hS, fun c nc => ?_⟩
      have ec : upd H c (.lst (cutV (ns.map V.int) none (some 63))) c = some (.lst ((ns.take 63).map V.int)) := by
        rw [upd_same, show cutV (ns.map V.int) none (some 63) = (ns.map V.int).take 63 from cut_take _ 63, ← List.map_take]
      have s1 : Same H (upd H c (.lst (cutV (ns.map V.int) none (some 63)))) := same_upd nc
      generalize upd H c (.lst (cutV (ns.map V.int) none (some 63))) = G at ec s1
      refine ⟨c, _, rfl, SqL.of ec, for_it walk_enum (fun j σ G' => ∃ (mm : Int) (u1 u2 : Option V), σ = [some (.ref a), some (.int (i : Nat)), some (.int z), some (.int mm), u1, u2] ∧ 0 ≤ mm ∧ mm < 4294967296 ∧ Same G G')
        ⟨_, none, none, rfl, by omega, by omega, Same.refl _⟩ (fun j σ G' _ q => by
          obtain ⟨_, _, _, _, _, _, s⟩ := q
          exact SqL.of (s _ _ ec)) ?_ ?_⟩
      · rintro j x σ G1 G2 hj ⟨mm, u1, u2, rfl, m0, m1, s2⟩ ⟨T', kx, y, rfl, nT, rfl, ek, ey⟩
        have ek' : V.int ((j : Nat) : Int) = kx := by injection ek
        subst ek'
        obtain ⟨e, rfl⟩ : ∃ e, V.int e = y := by
          have ey' : ((ns.take 63).map V.int)[j]? = some y := ey
          rw [List.getElem?_map] at ey'
          cases q : (ns.take 63)[j]? with
          | none => rw [q] at ey'; cases ey'
          | some e => rw [q] at ey'; exact ⟨e, by injection ey'⟩
        refine ⟨T', _, rfl, SqT.of upd_same, rfl, _, _, rfl, _, _, rfl, rfl, _, rfl, _, _, rfl, rfl, .inl ⟨by omega, by omega⟩, _, rfl, .inl ⟨_, rfl, _, _, rfl, rfl, by show (0 : Int) < 2147483399; decide, _, _, rfl, rfl, _, rfl, _, _, rfl, rfl, .inl ⟨by decide, by decide⟩, _, _, rfl, rfl,
          .inl ⟨_, rfl, _, _, rfl, rfl, by show (0 : Int) < 2147483563; decide, _, _, _, rfl, Int.emod_nonneg _ (by decide), ?_, s2.trans (same_upd nT)⟩⟩⟩
        have := Int.emod_lt_of_pos (mm * 40692 + e % 2147483399 + 577 * ((j : Nat) : Int)) (show (0 : Int) < 2147483563 by decide)
        omega
      · rintro σ G1 ⟨mm, u1, u2, rfl, m0, m1, s2⟩
        have z0 : 0 ≤ (if z < 0 then -z else z) := by split <;> omega
        refine ⟨fun v G' => (∃ d : Int, v = .int d ∧ 0 ≤ d) ∧ G1 = G', ⟨_, rfl, _, rfl, _, _, rfl, rfl, ⟨by decide, by decide, by decide⟩, _, _, rfl, rfl, _, rfl, ite2 (fun hd => ⟨_, rfl, _, rfl, ⟨_, rfl, z0⟩, rfl⟩) (fun hd => ⟨⟨_, rfl, by decide⟩, rfl⟩)⟩, ?_⟩
        rintro _ _ ⟨⟨d, rfl, d0⟩, rfl⟩
        refine ⟨_, rfl, by show 2 ≤ sizeLine; decide, fun b nb => ?_⟩
        exact k b _ (s1.free (s2.free nb)) ((s1.trans s2).trans (same_upd nb)) ⟨_, _, upd_same, d0, m0, m1⟩
def spOf : Sp := fun vs H Q _ => ∃ (b l : Addr) (xs : List V), vs = [.ref b, .ref l] ∧ BagAt H b ∧ H l = some (.lst xs) ∧ l ≠ b ∧ 0 < xs.length ∧ xs.length ≤ 1000 ∧ ∀ (x : V) (H' : Hp), x ∈ xs → Keep b H H' → BagAt H' b → Q x H'
theorem small200 {z : Int} (h0 : 0 ≤ z) (h : z ≤ 1000000) : z.natAbs < 2 ^ 200 := Nat.lt_of_le_of_lt (show z.natAbs ≤ 1000000 by omega) (by decide)
end
end K86

namespace K86
open PySem PySem.Spec PyProof.Rows L2 EV TL LM
def StrsAt (H : Hp) (a : Addr) (ws : List Str) : Prop := H a = some (.lst (ws.map V.str))
theorem Keep.same {b : Addr} {H H1 H2 : Hp} (k : Keep b H H1) (s : Same H1 H2) : Keep b H H2 := k.trans (Keep.of s)
theorem Keep.free {b l : Addr} {H H' : Hp} (k : Keep b H H') (n : H' l = none) (ne : l ≠ b) : H l = none := by
  cases e : H l with
  | none => rfl
  | some u => rw [k l u ne e] at n; cases n
section
variable {P : Program} {w : World} {K : Fg} {mg : Str → Option Value} {base : Heap}
theorem ok_law_of {f : Addr} {fd : FuncData} (F : Fun K "_law_of" "_law_of" s_law_of f fd) (T : Cst K mg) (O_law_take : Ok P w K mg base 1 "_law_take" ["bag", "many"] spTake) :
    FnOk P w K mg base CX0 2 f fd ["bag", "some"] spOf := by
  refine F.ok sc_law_of (fun vs H Q E h => ?_) (fun cdv A outer s H vs Q E hr h => ?_)
  · obtain ⟨b, l, xs, rfl, _⟩ := h
    rfl
  · obtain ⟨b, l, xs, rfl, B, hl, lb, p0, p1, k⟩ := h
    refine ⟨_, (pss_one (ps_ret (pe_ix ix_list (pv 1) (pe_callO O_law_take (hr.mono (by decide)) (pa_cons (pv 0) (pa_cons (pe_callB call_len_seq (by rfl) T.n_len (by decide +kernel) (pa_cons (pv 1) pa_nil)) pa_nil))) (fun _ _ => rfl)))), ?_⟩
    refine ⟨_, rfl, _, rfl, _, rfl, l, xs, rfl, .inl (SqL.of hl), ?_⟩
    refine ⟨b, _, rfl, B, by omega, small200 (by omega) (by omega), fun r H' r0 r1 kp B' => ?_⟩
    obtain ⟨j, rfl⟩ := Int.eq_ofNat_of_zero_le r0
    have hj : j < xs.length := by omega
    exact ⟨l, xs, _, xs[j], rfl, rfl, SqL.of (kp _ _ lb hl), atI_nat (List.getElem?_eq_getElem hj), k _ _ (List.getElem_mem hj) kp B'⟩
def spLics : Sp := fun vs H Q _ => vs = [] ∧ ∀ l, H l = none → Q (.ref l) (upd H l (.lst (lic.map V.str)))
theorem ok_law_licences {f : Addr} {fd : FuncData} (F : Fun K "_law_licences" "_law_licences" s_law_licences f fd) (T : Cst K mg) : FnOk P w K mg base CX0 1 f fd [] spLics := by
  refine F.ok sc_law_licences (fun vs H Q E h => ?_) (fun cdv A outer s H vs Q E hr h => ?_)
  · obtain ⟨rfl, _⟩ := h
    rfl
  · obtain ⟨rfl, k⟩ := h
    refine ⟨_, (pss_one (ps_ret (pe_lst (pa_cons pe_str (pa_cons pe_str (pa_cons pe_str (pa_cons pe_str (pa_cons pe_str (pa_cons pe_str (pa_cons pe_str (pa_cons pe_str (pa_cons pe_str (pa_cons pe_str pa_nil))))))))))))), ?_⟩
    exact ⟨by show 10 ≤ sizeLine; decide, fun l nl => k l nl⟩
/-- some licences, drawn -/
def spSome : Sp := fun vs H Q _ => ∃ b : Addr, vs = [.ref b] ∧ BagAt H b ∧ ∀ (l : Addr) (ws : List Str) (H' : Hp), Keep b H H' → BagAt H' b → H l = none → l ≠ b → StrsAt H' l ws → ws.length ≤ 20 → Lics ws → Q (.ref l) H'
theorem erase_map {α : Type} (f : α → V) : ∀ (L : List α) (j : Nat), (L.map f).eraseIdx j = (L.eraseIdx j).map f
  | [], _ => rfl
  | _ :: _, 0 => rfl
  | x :: L, j + 1 => by
    show f x :: (L.map f).eraseIdx j = f x :: (L.eraseIdx j).map f
    rw [erase_map f L j]
theorem ok_law_some {f : Addr} {fd : FuncData} (F : Fun K "_law_some" "_law_some" s_law_some f fd) (T : Cst K mg) (O_law_take : Ok P w K mg base 1 "_law_take" ["bag", "many"] spTake) (O_law_of : Ok P w K mg base 2 "_law_of" ["bag", "some"] spOf) (O_law_licences : Ok P w K mg base 1 "_law_licences" [] spLics) :
    FnOk P w K mg base CX0 3 f fd ["bag"] spSome := by
  refine F.ok sc_law_some (fun vs H Q E h => ?_) (fun cdv A outer s H vs Q E hr h => ?_)
  · obtain ⟨b, rfl, _⟩ := h
    rfl
  · obtain ⟨b, rfl, B, k⟩ := h
    refine ⟨_, (pss_cons (ps_par (i := 1) (j := 2) (by rfl) sc_law_some.nd rfl rfl (by decide) rfl rfl (pa_cons (pe_lst pa_nil) (pa_cons (pe_callO0 O_law_licences (hr.mono (by decide))) pa_nil)) (by rfl))
    (pss_cons (ps_for PassesOwn.never rfl (pi_range1 rfl T.n_range (pa_cons (pe_callO O_law_take (hr.mono (by decide)) (pa_cons (pv 0) (pa_cons pe_int pa_nil))) pa_nil)) (pg_name (i := 3) sc_law_some.nd rfl (Or.inl rfl)) (pss_cons (ps_expr (pe_bm PySem.F.plainAttrs_list PySem.F.slot_list_append PySem.F.type_list_append mt_append (pv 1) (pa_cons (pe_bm PySem.F.plainAttrs_list PySem.F.slot_list_pop PySem.F.type_list_pop mt_popAt (pv 2) (pa_cons (pe_callO O_law_take (hr.mono (by decide)) (pa_cons (pv 0) (pa_cons (pe_callB call_len_seq (by rfl) T.n_len (by decide +kernel) (pa_cons (pv 2) pa_nil)) pa_nil))) pa_nil)) pa_nil)))
    (pss_one (ps_if (pt_cmpR op_eq (pe_callO O_law_take (hr.mono (by decide)) (pa_cons (pv 0) (pa_cons pe_int pa_nil))) pe_int (nomark _)) (pss_one (ps_expr (pe_bm PySem.F.plainAttrs_list PySem.F.slot_list_append PySem.F.type_list_append mt_append (pv 1) (pa_cons (pe_callO O_law_of (hr.mono (by decide)) (pa_cons (pv 0) (pa_cons (pv 1) pa_nil))) pa_nil)))) pss_nil))))
    (pss_one (ps_ret (pv 1))))), ?_⟩
    refine ⟨by show 0 ≤ sizeLine; decide, fun p np => ⟨rfl, fun l nl => ?_⟩⟩
    have pl : p ≠ l := fun e => by rw [← e, upd_same] at nl; cases nl
    have nlH : H l = none := (same_upd np).free nl
    have lb := B.ne nlH
    have pb := B.ne np
    have kG : Keep b H (upd (upd H p (.lst [])) l (.lst (lic.map V.str))) := keep_new (keep_new (Keep.refl H) np) nlH
    have B0 : BagAt (upd (upd H p (.lst [])) l (.lst (lic.map V.str))) b := (B.upd pb).upd lb
    have hl0 : upd (upd H p (.lst [])) l (.lst (lic.map V.str)) l = some (.lst (lic.map V.str)) := upd_same
    have hp0 : StrsAt (upd (upd H p (.lst [])) l (.lst (lic.map V.str))) p [] := by
      show upd _ l _ p = _
      rw [upd_ne pl, upd_same]
      rfl
    generalize upd (upd H p (.lst [])) l (.lst (lic.map V.str)) = G0 at kG B0 hl0 hp0
    refine ⟨_, _, rfl, _, rfl, b, 11, rfl, B0, by decide, by decide, fun r H1 r0 r1 k1 B1 => ⟨r, rfl, by omega, by omega, ?_⟩⟩
    refine for_range (lo := 0) (n := r.toNat) (fun i σ G => ∃ (L ws : List Str) (u : Option V), σ = [some (.ref b), some (.ref p), some (.ref l), u] ∧ G l = some (.lst (L.map V.str)) ∧ L.length = 10 - i ∧ Lics L ∧ StrsAt G p ws ∧ ws.length ≤ 2 * i ∧ Lics ws ∧ Keep b H G ∧ BagAt G b)
      ⟨lic, [], none, rfl, k1 _ _ lb hl0, by decide, fun w hw => List.contains_iff_mem.mpr hw, k1 _ _ pb hp0, Nat.le_refl _, (fun w hw => by cases hw), kG.trans k1, B1⟩ ?_ ?_
    · rintro i σ G hi ⟨L, ws, u, rfl, hl, lL, iL, hp, lw, iw, kH, Bg⟩
      have i10 : i < 10 := by omega
      have hLp : 0 < L.length := by omega
      refine ⟨_, rfl, .inl ⟨rfl, _, SqL.of hp⟩, _, rfl, .inl ⟨rfl, _, SqL.of hl⟩, _, rfl, _, rfl, l, _, rfl, .inl (SqL.of hl), b, _, rfl, Bg, by rw [List.length_map]; omega, small200 (by omega) (by rw [List.length_map]; omega), fun r' G1 q0 q1 k1' B1' => ?_⟩
      obtain ⟨j, rfl⟩ := Int.eq_ofNat_of_zero_le q0
      rw [List.length_map] at q1
      have hj : j < L.length := by omega
      have hseq : seqIndex? ((j : Nat) : Int) (L.map V.str).length = some j := by
        refine (ixN_seq (n := (L.map V.str).length) (i := ((j : Nat) : Int)) (j := j) ?_).1
        unfold ixN
        rw [if_pos (by omega), if_pos (by rw [List.length_map]; omega), Int.toNat_natCast]
      have hget : (L.map V.str)[j]? = some (V.str L[j]) := by
        rw [List.getElem?_map, List.getElem?_eq_getElem hj]
        rfl
      refine ⟨l, _, ((j : Nat) : Int), j, _, rfl, rfl, k1' _ _ lb hl, by omega, by omega, hseq, hget, ?_⟩
      have hl2 : upd G1 l (.lst ((L.map V.str).eraseIdx j)) l = some (.lst ((L.eraseIdx j).map V.str)) := by
        rw [upd_same, erase_map]
      have hp2 : StrsAt (upd G1 l (.lst ((L.map V.str).eraseIdx j))) p ws := by
        show upd G1 l _ p = _
        rw [upd_ne pl]
        exact k1' _ _ pb hp
      have kH2 : Keep b H (upd G1 l (.lst ((L.map V.str).eraseIdx j))) := keep_new (kH.trans k1') nlH
      have B2 : BagAt (upd G1 l (.lst ((L.map V.str).eraseIdx j))) b := B1'.upd lb
      generalize upd G1 l (.lst ((L.map V.str).eraseIdx j)) = G2 at hl2 hp2 kH2 B2
      have hc : lic.contains L[j] = true := iL _ (List.getElem_mem hj)
      have iL2 : Lics (L.eraseIdx j) := fun w hw => iL w (List.mem_of_mem_eraseIdx hw)
      have lL2 : (L.eraseIdx j).length = 10 - (i + 1) := by
        rw [List.length_eraseIdx_of_lt hj, lL]
        omega
      generalize L[j] = c at hc
      generalize L.eraseIdx j = L2 at hl2 iL2 lL2
      refine ⟨p, _, _, rfl, rfl, hp2, by rw [List.length_map, sizeLine_eq]; omega, ?_⟩
      have hp3 : StrsAt (upd G2 p (.lst (ws.map V.str ++ [V.str c]))) p (ws ++ [c]) := by
        show upd G2 p _ p = _
        rw [upd_same, List.map_append]
        rfl
      have hl3 : upd G2 p (.lst (ws.map V.str ++ [V.str c])) l = some (.lst (L2.map V.str)) := by
        rw [upd_ne (Ne.symm pl)]
        exact hl2
      have kH3 : Keep b H (upd G2 p (.lst (ws.map V.str ++ [V.str c]))) := keep_new kH2 np
      have B3 : BagAt (upd G2 p (.lst (ws.map V.str ++ [V.str c]))) b := B2.upd pb
      generalize upd G2 p (.lst (ws.map V.str ++ [V.str c])) = G3 at hp3 hl3 kH3 B3
      have iw3 : Lics (ws ++ [c]) := fun w hw => by
        rcases List.mem_append.mp hw with hw | hw
        · exact iw w hw
        · rw [List.mem_singleton.mp hw]; exact hc
      have lw3 : (ws ++ [c]).length ≤ 2 * i + 1 := by
        rw [List.length_append]
        show ws.length + 1 ≤ _
        omega
      have pos3 : 0 < ((ws ++ [c]).map V.str).length := by
        rw [List.length_map, List.length_append]
        exact Nat.succ_pos _
      generalize ws ++ [c] = ws3 at hp3 iw3 lw3 pos3
      refine ⟨_, rfl, b, 4, rfl, B3, by decide, by decide, fun r4 G4 _ _ k4 B4 => ⟨rfl, _, rfl, ?_⟩⟩
      have hp4 : StrsAt G4 p ws3 := k4 _ _ pb hp3
      have hl4 := k4 _ _ lb hl3
      have kH4 := kH3.trans k4
      refine ite2 (fun _ => ?_) (fun _ => ⟨L2, ws3, _, rfl, hl4, lL2, iL2, hp4, by omega, iw3, kH4, B4⟩)
      refine ⟨_, rfl, .inl ⟨rfl, _, SqL.of hp4⟩, _, rfl, _, rfl, b, p, _, rfl, B4, hp4, pb, pos3, by rw [List.length_map]; omega, fun x G5 hx k5 B5 => ?_⟩
      obtain ⟨c2, hc2, rfl⟩ := List.mem_map.mp hx
      have hp5 : StrsAt G5 p ws3 := k5 _ _ pb hp4
      refine ⟨p, _, _, rfl, rfl, hp5, by rw [List.length_map, sizeLine_eq]; omega, L2, ws3 ++ [c2], _, rfl, ?_, lL2, iL2, ?_, ?_, ?_, keep_new (kH4.trans k5) np, B5.upd pb⟩
      · rw [upd_ne (Ne.symm pl)]
        exact k5 _ _ lb hl4
      · show upd G5 p _ p = _
        rw [upd_same, List.map_append]
        rfl
      · rw [List.length_append]
        show ws3.length + 1 ≤ _
        omega
      · intro w hw
        rcases List.mem_append.mp hw with hw | hw
        · exact iw3 w hw
        · rw [List.mem_singleton.mp hw]; exact iw3 _ hc2
    · rintro σ G ⟨L, ws, u, rfl, hl, lL, iL, hp, lw, iw, kH, Bg⟩
      exact ⟨_, rfl, k p ws G kH Bg np pb hp (by omega) iw⟩
end
end K86

namespace K86
open PySem PySem.Spec PyProof.Rows L2 EV TL LM
theorem Lics.ok {ws : List Str} (h : Lics ws) : ∀ w ∈ ws, PyData.strOk w = true := fun w hw => (lic_ok w (List.contains_iff_mem.mp (h w hw))).1

theorem kit_sub {K : Fg} {D : Value} {C : Addr} {b : Bool} (hd : PySem.W.hasDictIn K C = true) (ty : PySem.W.typeIn K (.ref C) = some (.type "type")) (s : PySem.W.subIn K D (.ref C) = some b) (ne : D = .ref C → b = true) : PySem.W.kitOne K D (.ref C) = some b := by
  unfold PySem.W.kitOne PySem.W.kitCls
  by_cases e : (D == Value.ref C) = true
  · rw [if_pos e, ne (beq_iff_eq.mp e)]
  · rw [if_neg e]
    dsimp only
    obtain ⟨cd, hc, _⟩ := PySem.W.any_some hd
    rw [hc, ty]
    show (if (true && (some (Value.type "type") == some (Value.type "type"))) = true then PySem.W.subIn K D (.ref C) else none) = some b
    rw [if_pos (by decide +kernel)]
    exact s
theorem kit_subT {K : Fg} {D : Addr} {T : String} {b : Bool} (m : PySem.W.kitMeta T = true) (s : PySem.W.subIn K (.ref D) (.type T) = some b) : PySem.W.kitOne K (.ref D) (.type T) = some b := by
  unfold PySem.W.kitOne PySem.W.kitCls
  rw [if_neg (by simp)]
  dsimp only
  rw [if_pos m]
  exact s

/-- what the text says of the error's class where it is caught -/
structure CatchC (K : Fg) (mg : Str → Option Value) (x : Str) (C : Addr) : Prop where
  nm : mg x = some (.ref C)
  te : PySem.W.exmOne K (.ref C) (.ref C) = some true
/-- what the law asks of an error's class -/
structure ErrC (K : Fg) (CH C : Addr) : Prop where
  h : PySem.W.kitOne K (.ref C) (.ref CH) = some true
  v : PySem.W.kitOne K (.ref C) (.type "ValueError") = some true
theorem sc_law_refusedE : FnScope ["words", "e"] ["words"] (defScope s_law_refused) := ⟨rfl, rfl, rfl, by decide +kernel, rfl, by decide +kernel, by decide +kernel⟩
theorem sc_law_one_refusedE : FnScope ["one", "other", "e"] ["one", "other"] (defScope s_law_one_refused) := ⟨rfl, rfl, rfl, by decide +kernel, rfl, by decide +kernel, by decide +kernel⟩
theorem first_none : ∀ {ws : List Str}, Lics ws → firstBad (ws.map Od.s) = none
  | [], _ => rfl
  | w :: ws, h => by
    have h0 : inO lic (.s w) = true := h w List.mem_cons_self
    have ih := first_none (ws := ws) fun x hx => h x (List.mem_cons_of_mem _ hx)
    unfold firstBad at ih ⊢
    rw [List.map_cons, List.find?_cons, h0]
    exact ih
theorem only_bad {os : List Od} {o : Od} {C : Addr} {H : Hp} {E : XK} (e : firstBad os = some o) (r : RaisedO C "word" o H E) : ∀ o', firstBad os = some o' → RaisedO C "word" o' H E := fun o' h => by
  rw [e] at h
  injection h with h
  rw [← h]
  exact r
theorem bad_none {os : List Od} {o : Od} {A : List Str → Prop} (e : firstBad os = some o) : ∀ ws, os = ws.map Od.s → Lics ws → A ws := fun ws h l => by
  rw [h, first_none l] at e
  cases e
/-- the error is what comes of it -/
theorem making_bad {K : Fg} {C CB : Addr} {os : List Od} {H : Hp} {Q : VK} {E : XK} {o : Od} (e : firstBad os = some o) (r : RaisedO CB "word" o H E) : Making K C CB os H Q E := by
  refine ⟨fun o' h => ?_, fun ws h l => ?_⟩
  · rw [e] at h
    injection h with h
    rw [← h]
    exact r
  · rw [h, first_none l] at e
    cases e
section
variable {P : Program} {w : World} {K : Fg} {mg : Str → Option Value} {base : Heap}
def spSorted (K : Fg) : Sp := fun vs H Q _ => ∃ (l : Addr) (ws : List Str), vs = [.ref l] ∧ SqL K H l (ws.map V.str) ∧ ∀ p G, Same H G → H p = none → StrsAt G p (famW fun x => ws.contains x) → Q (.ref p) G
theorem ok_law_sorted {f : Addr} {fd : FuncData} (F : Fun K "_law_sorted" "_law_sorted" s_law_sorted f fd) (T : Cst K mg) (O_law_licences : Ok P w K mg base 1 "_law_licences" [] spLics) : FnOk P w K mg base CX0 2 f fd ["words"] (spSorted K) := by
  refine F.ok sc_law_sorted (fun vs H Q E h => ?_) (fun cdv A outer s H vs Q E hr h => ?_)
  · obtain ⟨l, ws, rfl, _⟩ := h
    rfl
  · obtain ⟨l, ws, rfl, hl, k⟩ := h
    refine ⟨_, (pss_one (ps_ret (pe_lc (own := [("one", 1)]) rfl sc_law_sorted.nd (pi_list (pe_callO0 O_law_licences (hr.mono (by decide)))) (blkOk_by (own := [("one", 1)]) (N := ["words", "one"]) (sc := defScope s_law_sorted) (by decide +kernel)) (fun _ _ _ _ _ => (pg_name (i := 1) sc_law_sorted.nd rfl (Or.inl rfl))) (fun _ _ _ _ _ => (pts_one (pt_cmpR (show OpR _ _ (rIn K false) from op_in_seq) (pv 1) (pv 0) (by rfl)))) (fun _ _ _ _ _ => (pv 1))))), ?_⟩
    refine ⟨rfl, fun p np => ⟨p, rfl, ⟨_, SqL.of upd_same⟩, fun D nD => ?_⟩⟩
    have s0 : Same H (upd H p (.lst (lic.map V.str))) := same_upd np
    have hp : upd H p (.lst (lic.map V.str)) p = some (.lst (lic.map V.str)) := upd_same
    generalize upd H p (.lst (lic.map V.str)) = G0 at s0 hp nD
    refine lc_fm (walk_list (xs := lic.map V.str)) (fun j => lic[j]?.bind fun x => if ws.contains x = true then some (V.str x) else none) nD (by show 10 ≤ 1000000; decide) (fun _ s => SqL.of (s _ _ hp)) ?_ ?_
    · rintro i x G1 G2 NT NE hi sg ⟨rfl, hx⟩ w0 w1
      rw [List.getElem?_map] at hx
      obtain ⟨lw, hlw, rfl⟩ : ∃ lw, lic[i]? = some lw ∧ V.str lw = x := by
        cases q : lic[i]? with
        | none => rw [q] at hx; cases hx
        | some lw => rw [q] at hx; exact ⟨lw, rfl, by injection hx⟩
      refine ⟨rfl, _, rfl, _, rfl, l, _, rfl, .inl ((s0.trans sg).seq hl), rfl, flat_strs _, _, rfl, ?_⟩
      rw [inV_strs]
      cases e : ws.contains lw with
      | false => exact iteF (w0 (by rw [hlw]; show (if ws.contains lw = true then some (V.str lw) else none) = none; rw [e]; rfl) _ (Same.refl _))
      | true => exact iteT ⟨_, rfl, w1 _ _ (by rw [hlw]; show (if ws.contains lw = true then some (V.str lw) else none) = _; rw [e]; rfl) (Same.refl _)⟩
    · intro G2 s2 hD
      rw [gath_filter lic (fun x => ws.contains x) V.str (by rfl)] at hD
      exact k D G2 (s0.trans s2) (s0.free nD) hD

/-- a family that is not made, and what is told of it -/
def spRef (K : Fg) : Sp := fun vs H Q _ => ∃ (l : Addr) (bt : Bool) (xs : List V) (os : List Od) (o : Od), vs = [.ref l] ∧ SqX bt K H l xs ∧ xs.length ≤ 1000 ∧ OdsAt H xs os ∧ firstBad os = some o ∧
  ∀ r y G, Same H G → G r = some (.lst [y, .bl true, .bl true]) → OdAt G y o → Q (.ref r) G
theorem ok_law_refused {f C CB CH : Addr} {fd : FuncData} (F : Fun K "_law_refused" "_law_refused" s_law_refused f fd) (T : Cst K mg) (cB : CatchC K mg "BadFamily" CB) (xB : XCls K CB) (nB : NoAttr K CB "word") (gH : mg "HeirsbackError" = some (.ref CH)) (eB : ErrC K CH CB)
    (O_Family : OkIX P w K mg base 5 "Family" C ["self", "words"] (spFamX K C CB)) : FnOk P w K mg base CX0 7 f fd ["words"] (spRef K) := by
  refine F.ok sc_law_refusedE (fun vs H Q E h => ?_) (fun cdv A outer s H vs Q E hr h => ?_)
  · obtain ⟨l, bt, xs, os, o, rfl, _⟩ := h
    rfl
  · obtain ⟨l, bt, xs, os, o, rfl, hl, hn, od, fb, k⟩ := h
    refine ⟨_, (pss_cons (ps_try_asMany rfl rfl sc_law_refusedE.nd takes0
      (fun W pn xe tk _ => pss_one (ps_expr (pe_mkX tk O_Family (hr.mono (by decide)) (pa_cons (pv 0) pa_nil))))
      (.cons (i := 1) rfl rfl ⟨rfl, by decide, .inl cB.nm⟩ (fun a oe cls d pn hz hv => pss_one (ps_ret (pe_lst (pa_cons (pe_byX xB nB hz hv (pv 1)) (pa_cons (pe_callB (call_isS xB hz hv) (by rfl) T.n_isinstance (by decide +kernel) (pa_cons (pv 1) (pa_cons (pe_glob (v := .ref CH) rfl gH rfl) pa_nil))) (pa_cons (pe_callB (call_isS xB hz hv) (by rfl) T.n_isinstance (by decide +kernel) (pa_cons (pv 1) (pa_cons (pe_bltn (v := .ty "ValueError") rfl T.n_ValueError (by decide +kernel) rfl) pa_nil))) pa_nil)))))) .nil))
      (pss_one (ps_ret (pe_lst pa_nil)))), ?_⟩
    refine ⟨_, rfl, fun a dx na ndx nad => mkF hl hn od na ndx nad (only_bad fb fun d y H' s1 hd ho => ?_) (bad_none fb)⟩
    refine ⟨true, cB.te, fun _ a9 na => ?_, fun q => by cases q⟩
    refine ⟨_, rfl, rfl, rfl, d, _, y, rfl, hd, by simp [List.lookup], ?_⟩
    refine ⟨_, rfl, _, _, true, d, _, rfl, .own CH, rfl, rfl, hd, eB.h, ?_⟩
    refine ⟨_, rfl, _, _, true, d, _, rfl, .ty "ValueError", rfl, rfl, hd, eB.v, ?_⟩
    refine ⟨by show 3 ≤ sizeLine; decide, fun r nr => ?_⟩
    exact k r y _ (s1.trans (same_upd nr)) upd_same (ho.same (same_upd nr))
/-- two values to of -/
def spOneRef : Sp := fun vs H Q _ => ∃ (x y : V) (ox oy o : Od), vs = [x, y] ∧ OdAt H x ox ∧ ox.ok ∧ OdAt H y oy ∧ oy.ok ∧ firstBad [ox, oy] = some o ∧ ∀ r z G, Same H G → G r = some (.lst [z]) → OdAt G z o → Q (.ref r) G
theorem ods_two {H : Hp} {x y : V} {ox oy : Od} (h1 : OdAt H x ox) (k1 : ox.ok) (h2 : OdAt H y oy) (k2 : oy.ok) : OdsAt H [x, y] [ox, oy] := by
  refine ⟨rfl, fun i a b ha hb => ?_⟩
  match i with
  | 0 => injection ha with ha; injection hb with hb; rw [← ha, ← hb]; exact ⟨h1, k1⟩
  | 1 => injection ha with ha; injection hb with hb; rw [← ha, ← hb]; exact ⟨h2, k2⟩
  | i + 2 => simp at ha
theorem ok_law_one_refused {f C CB : Addr} {fd : FuncData} (F : Fun K "_law_one_refused" "_law_one_refused" s_law_one_refused f fd) (T : Cst K mg) (cB : CatchC K mg "BadFamily" CB) (xB : XCls K CB) (nB : NoAttr K CB "word") (gL : mg "Family" = some (.ref C))
    (O_of : OkCS (L2.CX P w) P w K mg base 7 C "of" (spOfS K C CB)) : FnOk P w K mg base CX0 8 f fd ["one", "other"] spOneRef := by
  refine F.ok sc_law_one_refusedE (fun vs H Q E h => ?_) (fun cdv A outer s H vs Q E hr h => ?_)
  · obtain ⟨x, y, ox, oy, o, rfl, _⟩ := h
    rfl
  · obtain ⟨x, y, ox, oy, o, rfl, h1, k1, h2, k2, fb, k⟩ := h
    refine ⟨_, (pss_cons (ps_try_asMany rfl rfl sc_law_one_refusedE.nd takes0
      (fun W pn xe tk _ => pss_one (ps_expr (pe_cmS (fun σ => passAt tk σ) (pe_glob (v := .ref C) rfl gL rfl) O_of (hr.mono (by decide)) (pa_cons (pv 0) (pa_cons (pv 1) pa_nil)))))
      (.cons (i := 2) rfl rfl ⟨rfl, by decide, .inl cB.nm⟩ (fun a oe cls d pn hz hv => pss_one (ps_ret (pe_lst (pa_cons (pe_byX xB nB hz hv (pv 2)) pa_nil)))) .nil))
      (pss_one (ps_ret (pe_lst pa_nil)))), ?_⟩
    refine ⟨rfl, _, rfl, _, rfl, [x, y], [ox, oy], rfl, by show 2 ≤ 1000; decide, ods_two h1 k1 h2 k2, making_bad fb fun d z H' s1 hd ho => ?_⟩
    refine ⟨true, cB.te, fun _ a9 na => ?_, fun q => by cases q⟩
    refine ⟨_, rfl, rfl, rfl, d, _, z, rfl, hd, by simp [List.lookup], ?_⟩
    refine ⟨by show 1 ≤ sizeLine; decide, fun r nr => ?_⟩
    exact k r z _ (s1.trans (same_upd nr)) upd_same (ho.same (same_upd nr))
end
end K86

namespace K86
open PySem PySem.Spec PyProof.Rows L2 EV TL LM
theorem tyx_sqT {K : Fg} {H : Hp} {a : Addr} {xs : List V} (h : SqT K H a xs) : TyX K H (.ref a) (.type "tuple") := by
  rcases h with (h | ⟨o, h⟩) | ⟨o, its, n, h, c, _⟩
  · exact .base (.tup h)
  · exact .fTuple h
  · exact .kTuple h c
theorem ne_same {K : Fg} {H : Hp} {x y : V} {d : PyData} {Q : VK} (h1 : Dp K H x d) (h2 : Dp K H y d) (s : SeqAt.shaped d = true) (q : Q (.bl false) H) : rNeD K x y H Q := by
  refine ⟨d, d, h1, h2, s, s, ?_⟩
  rw [SeqAt.eqv_refl d (SeqAt.canLay_of_shaped s)]
  exact q
theorem ne_eqv {x : V} {H : Hp} {Q : VK} (s : scal x x = true) (q : Q (.bl false) H) : rNe x x H Q := ⟨s, by rw [decide_eq_true rfl]; exact q⟩
section
variable {P : Program} {w : World} {K : Fg} {mg : Str → Option Value} {base : Heap}
/-- whether a family has exactly some licences: it does -/
def spRight (K : Fg) (C : Addr) : Sp := fun vs H Q _ => ∃ (a l : Addr) (ws : List Str), vs = [.ref a, .ref l] ∧ FamAt K H C a (fun x => ws.contains x) ∧ SqL K H l (ws.map V.str) ∧ ws.length ≤ 1000 ∧ Lics ws ∧ ∀ G, Same H G → Q (.bl true) G
theorem ok_law_family_right {f C : Addr} {fd : FuncData} (F : Fun K "_law_family_right" "_law_family_right" s_law_family_right f fd) (T : Cst K mg) (hC : FamC K C) (Ol : OkM CX0 P w K mg base 1 C "__len__" ["self"] (spLenF K C)) (Ob : OkM CX0 P w K mg base 3 C "__bool__" ["self"] (spBoolF K C)) (Orp : OkM CX0 P w K mg base 1 C "__repr__" ["self"] (spRepr K C))
    (Oc : OkM CX0 P w K mg base 1 C "__contains__" ["self", "x"] (spHasF K C)) (O_law_licences : Ok P w K mg base 1 "_law_licences" [] spLics) (O_law_sorted : Ok P w K mg base 2 "_law_sorted" ["words"] (spSorted K)) :
    FnOk P w K mg base CX0 6 f fd ["family", "words"] (spRight K C) := by
  refine F.ok sc_law_family_right (fun vs H Q E h => ?_) (fun cdv A outer s H vs Q E hr h => ?_)
  · obtain ⟨a, l, ws, rfl, _⟩ := h
    rfl
  · obtain ⟨a, l, ws, rfl, fa, hl, lw, iw, k⟩ := h
    refine ⟨_, (pss_cons (ps_set (i := 2) sc_law_family_right.nd rfl (Or.inl rfl) (pe_callO O_law_sorted (hr.mono (by decide)) (pa_cons (pv 1) pa_nil)))
    (pss_cons (ps_if (PW.pt (pw_or (pt_not (pt_val (pe_callB call_isi (by rfl) T.n_isinstance (by decide +kernel) (pa_cons (pe_fld (pv 0) rfl) (pa_cons (pe_bltn (v := .ty "tuple") rfl T.n_tuple (by decide +kernel) rfl) pa_nil))))) (pw_or (pt_cmpR (op_neD hr.units) (pe_callTy call_list_of (by rfl) T.n_list (by decide +kernel) (pa_cons (pe_fld (pv 0) rfl) pa_nil)) (pv 2) (nomark _)) (pw_or1 (pt_cmpR op_ne (pe_callB (call_lenO Ol (hr.mono (by decide))) (by rfl) T.n_len (by decide +kernel) (pa_cons (pv 0) pa_nil)) (pe_callB call_len_seq (by rfl) T.n_len (by decide +kernel) (pa_cons (pv 2) pa_nil)) (nomark _)))))) (pss_one (ps_ret pe_bl)) pss_nil)
    (pss_cons (ps_if (PW.pt (pw_or (pt_cmpR op_ne (pe_callTy (call_boolO Ob (hr.mono (by decide))) (by rfl) T.n_bool (by decide +kernel) (pa_cons (pv 0) pa_nil)) (pe_cmpR (op_neD hr.units) (pv 2) (pe_lst pa_nil) (nomark _)) (nomark _)) (pw_or1 (pt_cmpR op_ne (pe_callB (call_reprO Orp (hr.mono (by decide))) (by rfl) T.n_repr (by decide +kernel) (pa_cons (pv 0) pa_nil)) (pe_op op_add_str (pe_op op_add_str pe_str (pe_join pe_str (pv 2))) pe_str) (nomark _))))) (pss_one (ps_ret pe_bl)) pss_nil)
    (pss_cons (ps_for PassesOwn.never rfl (pi_list (pe_callO0 O_law_licences (hr.mono (by decide)))) (pg_name (i := 3) sc_law_family_right.nd rfl (Or.inl rfl)) (pss_one (ps_if (pt_cmpR op_ne (pe_cmpR (op_inO Oc (hr.mono (by decide))) (pv 3) (pv 0) (by rfl)) (pe_cmpR (show OpR _ _ (rIn K false) from op_in_seq) (pv 3) (pv 2) (by rfl)) (nomark _)) (pss_one (ps_ret pe_bl)) pss_nil)))
    (pss_cons (ps_for PassesOwn.never rfl (pi_list (pe_lst (pa_cons pe_non (pa_cons pe_int (pa_cons pe_bl (pa_cons pe_str (pa_cons pe_str (pa_cons pe_str (pa_cons pe_str (pa_cons pe_str (pa_cons (pe_lst (pa_cons pe_str pa_nil)) (pa_cons (pe_tup (pa_cons pe_str pa_nil)) (pa_cons (pv 2) pa_nil))))))))))))) (pg_name (i := 4) sc_law_family_right.nd rfl (Or.inl rfl)) (pss_one (ps_if (pt_cmpR (op_inO Oc (hr.mono (by decide))) (pv 4) (pv 0) (by rfl)) (pss_one (ps_ret pe_bl)) pss_nil)))
    (pss_one (ps_ret pe_bl))))))), ?_⟩
    refine ⟨_, rfl, l, ws, rfl, hl, fun p G s np hp => ?_⟩
    have fa := fa.same s
    have k := fun G' (s' : Same G G') => k G' (s.trans s')
    clear hl np
    have dl := famW_le fun x => ws.contains x
    have dok := famW_ok (p := fun x => ws.contains x)
    generalize hd : (famW fun x => ws.contains x) = due at hp dl dok
    obtain ⟨dx, qa, ha, hqa⟩ := id fa
    have hq2 : SqT K G qa (due.map V.str) := hd ▸ hqa
    clear hqa
    refine ⟨_, rfl, a, C, dx, _, _, rfl, ha, hC.cls, hC.no, fam_words, .ref qa, .ty "tuple", .type "tuple", .type "tuple", true, rfl, .ty _, tyx_sqT hq2, kit_ty (by decide +kernel), _, rfl, iteF ?_⟩
    refine ⟨_, rfl, a, C, dx, _, _, rfl, ha, hC.cls, hC.no, fam_words, qa, _, rfl, .inr hq2, fun m nm => ⟨_, rfl, ne_same (dp_strsL (SqL.of upd_same)) (dp_strsL (SqL.of ((same_upd nm) _ _ hp))) (strsL_shaped dok) ⟨_, rfl, iteF ?_⟩⟩⟩
    have s1 := same_upd (o := .lst (due.map V.str)) nm
    generalize upd G m (.lst (due.map V.str)) = G1 at s1
    have fa := fa.same s1
    have hp : StrsAt G1 p due := s1 _ _ hp
    have ha := s1 _ _ ha
    have k := fun G' (s' : Same G1 G') => k G' (s1.trans s')
    clear hq2 s1 nm
    refine ⟨_, rfl, a, dx, _, rfl, ha, a, _, rfl, fa, ⟨_, rfl, Int.natCast_nonneg _, by rw [hd]; omega, ⟨_, rfl, p, _, rfl, .inl (SqL.of hp), ?_⟩⟩⟩
    rw [hd, List.length_map]
    refine ne_eqv rfl ⟨_, rfl, iteF ?_⟩
    refine ⟨_, rfl, a, dx, _, rfl, ha, a, _, rfl, fa, ⟨_, rfl, ⟨_, rfl, by show 0 ≤ sizeLine; decide, fun m nm => ?_⟩⟩⟩
    have s1 := same_upd (o := .lst []) nm
    have hm : StrsAt (upd G1 m (.lst [])) m [] := upd_same
    generalize upd G1 m (.lst []) = G2 at s1 hm
    have fa := fa.same s1
    have hp : StrsAt G2 p due := s1 _ _ hp
    have ha := s1 _ _ ha
    have k := fun G' (s' : Same G2 G') => k G' (s1.trans s')
    clear s1 nm
    refine ⟨_, _, dp_strsL (SqL.of hp), dp_strsL (ws := []) (SqL.of hm), strsL_shaped dok, strsL_shaped (fun w hw => by cases hw), ?_⟩
    show rNe (.bl (!(famW fun x => ws.contains x).isEmpty)) (.bl (!PyData.eqvAll (due.map PyData.str) (([] : List Str).map PyData.str))) _ _
    rw [hd, eqv_strs, show decide (due = []) = due.isEmpty by cases due <;> rfl]
    refine ne_eqv rfl ⟨_, rfl, iteF ?_⟩
    clear hm
    have jl : (Str.join ", " due).length ≤ 100 := hd ▸ join_le _
    have l1 : ("Family(" : Str).length = 7 := by decide +kernel
    have l2 : (")" : Str).length = 1 := by decide +kernel
    have c0 : (", " : Str).length = 2 := by decide +kernel
    have s0 : 1000 ≤ sizeLine := by rw [sizeLine_eq]; decide
    have sm : (due.map fun w => w.length).sum ≤ 47 := hd ▸ Nat.le_trans (sum_filter (fun w => w.length) (fun x => ws.contains x) lic) (by decide +kernel)
    refine ⟨_, rfl, a, dx, _, rfl, ha, a, _, rfl, fa, ⟨_, rfl, ⟨_, rfl⟩, _, rfl, _, p, due, rfl, rfl, .inl (SqL.of hp), by rw [c0]; omega, ⟨_, _, rfl, rfl, by rw [join_eq, l1]; omega, ⟨_, _, rfl, rfl, by rw [join_eq, len_app, l1, l2]; omega, ?_⟩⟩⟩⟩
    rw [join_eq]
    show rNe (.str (("Family(" : Str) ++ Str.join ", " (famW fun x => ws.contains x) ++ (")" : Str))) _ _ _
    rw [hd]
    refine ne_eqv rfl ⟨_, rfl, iteF ?_⟩
    clear jl l1 l2 c0 s0 sm
    refine ⟨rfl, fun m nm => ⟨m, rfl, ⟨_, SqL.of upd_same⟩, ?_⟩⟩
    have s1 := same_upd (o := .lst (lic.map V.str)) nm
    have hm : StrsAt (upd G2 m (.lst (lic.map V.str))) m lic := upd_same
    generalize upd G2 m (.lst (lic.map V.str)) = G3 at s1 hm
    have fa := fa.same s1
    have hp : StrsAt G3 p due := s1 _ _ hp
    have ha := s1 _ _ ha
    have k := fun G' (s' : Same G3 G') => k G' (s1.trans s')
    clear s1 nm
    refine for_list (xs := lic.map V.str) (fun i σ G' => G' = G3 ∧ ∃ u : Option V, σ = [some (.ref a), some (.ref l), some (.ref p), u, none]) ⟨rfl, _, rfl⟩ (fun i σ G' _ z => z.1 ▸ SqL.of hm) ?_ ?_
    · rintro i x σ G' hx ⟨rfl, u, rfl⟩
      rw [List.getElem?_map] at hx
      obtain ⟨z, hz, rfl⟩ := Option.map_eq_some_iff.mp hx
      refine ⟨_, rfl, _, rfl, a, dx, _, rfl, ha, a, _, .s z, _, rfl, fa, rfl, (lic_ok z (List.mem_of_getElem? hz)).1, ⟨_, rfl, _, rfl, _, rfl, p, _, rfl, .inl (SqL.of hp), rfl, flat_strs _, ?_⟩⟩
      show rNe (.bl ((famW fun x => ws.contains x).contains z)) (.bl (inV (.str z) (due.map V.str))) _ _
      rw [inV_strs, hd]
      exact ne_eqv rfl ⟨_, rfl, iteF ⟨rfl, _, rfl⟩⟩
    · rintro σ G' ⟨rfl, u, rfl⟩
      refine ⟨by show 1 ≤ sizeLine; decide, fun m1 n1 => ⟨by show 1 ≤ sizeLine; decide, fun m2 n2 => ⟨_, rfl, by show 11 ≤ sizeLine; decide, fun m3 n3 => ⟨m3, rfl, ⟨_, SqL.of upd_same⟩, ?_⟩⟩⟩⟩
      have h1 : StrsAt (upd G' m1 (.lst [.str "needs"])) m1 ["needs"] := upd_same
      have s1 := same_upd (o := .lst [.str "needs"]) n1
      generalize upd G' m1 (.lst [.str "needs"]) = G4 at h1 s1 n2 n3
      have h2 : upd G4 m2 (.tup [.str "needs"]) m2 = some (.tup ((["needs"] : List Str).map V.str)) := upd_same
      have s2 := same_upd (o := .tup [.str "needs"]) n2
      generalize upd G4 m2 (.tup [.str "needs"]) = G5 at h2 s2 n3
      have h3 : upd G5 m3 (.lst [.non, .int 0, .bl true, .str "", .str "need", .str "bare", .str "hook", .str "Needs", .ref m1, .ref m2, .ref p]) m3 = some (.lst [.non, .int 0, .bl true, .str "", .str "need", .str "bare", .str "hook", .str "Needs", .ref m1, .ref m2, .ref p]) := upd_same
      have s3 := same_upd (o := .lst [.non, .int 0, .bl true, .str "", .str "need", .str "bare", .str "hook", .str "Needs", .ref m1, .ref m2, .ref p]) n3
      generalize upd G5 m3 (.lst [.non, .int 0, .bl true, .str "", .str "need", .str "bare", .str "hook", .str "Needs", .ref m1, .ref m2, .ref p]) = G6 at h3 s3
      have s13 := s1.trans (s2.trans s3)
      have fa := fa.same s13
      have ha := s13 _ _ ha
      have nk : OkWs ["needs"] := ⟨by decide, by decide +kernel⟩
      have no : ∀ z : Str, lic.contains z = false → inO (famW fun x => ws.contains x) (.s z) = false := fun z h => by
        show (famW fun x => ws.contains x).contains z = false
        rw [famW_in, h]
        rfl
      have pl : ∀ y ∈ ([.non, .int 0, .bl true, .str "", .str "need", .str "bare", .str "hook", .str "Needs", .ref m1, .ref m2, .ref p] : List V), ∃ o : Od, OdAt G6 y o ∧ o.ok ∧ inO (famW fun x => ws.contains x) o = false := by
        intro y hy
        simp only [List.mem_cons, List.not_mem_nil, or_false] at hy
        rcases hy with rfl | rfl | rfl | rfl | rfl | rfl | rfl | rfl | rfl | rfl | rfl
        · exact ⟨.n, rfl, trivial, rfl⟩
        · exact ⟨.i 0, rfl, trivial, rfl⟩
        · exact ⟨.b true, rfl, trivial, rfl⟩
        · exact ⟨.s "", rfl, (by show PyData.strOk ("" : Str) = true; decide +kernel), no _ (by decide +kernel)⟩
        · exact ⟨.s "need", rfl, (by show PyData.strOk ("need" : Str) = true; decide +kernel), no _ (by decide +kernel)⟩
        · exact ⟨.s "bare", rfl, (by show PyData.strOk ("bare" : Str) = true; decide +kernel), no _ (by decide +kernel)⟩
        · exact ⟨.s "hook", rfl, (by show PyData.strOk ("hook" : Str) = true; decide +kernel), no _ (by decide +kernel)⟩
        · exact ⟨.s "Needs", rfl, (by show PyData.strOk ("Needs" : Str) = true; decide +kernel), no _ (by decide +kernel)⟩
        · exact ⟨.l ["needs"], ⟨m1, rfl, s3 _ _ (s2 _ _ h1)⟩, nk, rfl⟩
        · exact ⟨.t ["needs"], ⟨m2, rfl, s3 _ _ h2⟩, nk, rfl⟩
        · exact ⟨.l due, ⟨p, rfl, s13 _ _ hp⟩, ⟨by omega, dok⟩, rfl⟩
      refine for_list (xs := [.non, .int 0, .bl true, .str "", .str "need", .str "bare", .str "hook", .str "Needs", .ref m1, .ref m2, .ref p]) (fun i σ G' => G' = G6 ∧ ∃ u1 u2 : Option V, σ = [some (.ref a), some (.ref l), some (.ref p), u1, u2]) ⟨rfl, _, _, rfl⟩ (fun i σ G' _ z => z.1 ▸ SqL.of h3) ?_ ?_
      · rintro i x σ G7 hx ⟨rfl, u1, u2, rfl⟩
        obtain ⟨o, ho, ok, hb⟩ := pl x (List.mem_of_getElem? hx)
        refine ⟨_, rfl, _, rfl, a, dx, _, rfl, ha, a, _, o, _, rfl, fa, ho, ok, ⟨_, rfl, _, rfl, ?_⟩⟩
        rw [hb]
        exact iteF ⟨rfl, _, _, rfl⟩
      · rintro σ G7 ⟨rfl, u1, u2, rfl⟩
        exact k _ s13
end
end K86

namespace K86
open PySem PySem.Spec PyProof.Rows L2 EV TL LM
theorem map_s_inj : ∀ {ws zs : List Str}, ws.map Od.s = zs.map Od.s → ws = zs
  | [], [], _ => rfl
  | [], _ :: _, h => by cases h
  | _ :: _, [], h => by cases h
  | w :: ws, z :: zs, h => by
    rw [List.map_cons, List.map_cons] at h
    injection h with h1 h2
    injection h1 with h1
    rw [h1, map_s_inj h2]
theorem mkG {K : Fg} {G : Hp} {C CB l a dx : Addr} {bt : Bool} {ws : List Str} {R : VK} {E : XK} (hl : SqX bt K G l (ws.map V.str)) (hn : ws.length ≤ 1000) (il : Lics ws) (na : G a = none) (ndx : G dx = none) (nad : dx ≠ a)
    (k : ∀ H', Same G H' → FamAt K H' C a (fun l => ws.contains l) → R .non H') : spFamX K C CB [.ref a, .ref l] (upd (upd G dx (.own a)) a (.ins C dx [])) R E :=
  mkF hl (by rw [List.length_map]; exact hn) (strs_ods il.ok) na ndx nad (fun o h => by rw [first_none il] at h; cases h) (fun ws' e _ => by rw [← map_s_inj e]; exact k)
theorem making_good {K : Fg} {C CB : Addr} {ws : List Str} {H : Hp} {Q : VK} {E : XK} (il : Lics ws) (k : ∀ r H', Same H H' → H r = none → FamAt K H' C r (fun l => ws.contains l) → Q (.ref r) H') : Making K C CB (ws.map Od.s) H Q E :=
  ⟨(fun o h => by rw [first_none il] at h; cases h), fun ws' e _ => by rw [← map_s_inj e]; exact k⟩
theorem FamAt.keep {K : Fg} {H H' : Hp} {C a b : Addr} {p : Str → Bool} {zs : List V} (k : Keep b H H') (hb : H b = some (.lst zs)) (f : FamAt K H C a p) : FamAt K H' C a p := by
  obtain ⟨dx, q, h1, h2⟩ := f
  have go : ∀ c u, H c = some u → (∀ zs, u ≠ .lst zs) → H' c = some u := fun c u e n => k c u (fun q => by rw [q, hb] at e; injection e with e; exact n _ e.symm) e
  refine ⟨dx, q, go _ _ h1 (fun _ => by intro z; cases z), ?_⟩
  rcases h2 with (h | ⟨o, h⟩) | h
  · exact .inl (.inl (go _ _ h fun _ => by intro z; cases z))
  · exact .inl (.inr ⟨o, go _ _ h fun _ => by intro z; cases z⟩)
  · exact .inr h
theorem BagAt.lst {H : Hp} {b : Addr} (h : BagAt H b) : ∃ zs, H b = some (.lst zs) := let ⟨_, _, e, _⟩ := h; ⟨_, e⟩
theorem eq_go {K : Fg} {H : Hp} {C a b : Addr} {p q : Str → Bool} {Q : VK} (fa : FamAt K H C a p) (fb : FamAt K H C b q) (k : Q (.bl (!decide (famW p = famW q))) H) : rNeA C (spEqF K C) (.ref a) (.ref b) H Q := by
  obtain ⟨dx, qa, ha⟩ := fa.at
  obtain ⟨dy, qb, hb⟩ := fb.at
  refine ⟨a, dx, _, _, rfl, ha, .ins hb, fun b' D dy' gs e hb' => ?_, a, .ref b, p, rfl, fa, .inl ⟨b, q, rfl, fb, _, rfl, k⟩⟩
  injection e with e
  subst e
  rw [hb] at hb'
  injection hb' with hb'
  injection hb' with h1
  exact h1.symm
theorem fam_ne {p q : Str → Bool} {A B : Prop} (h : famW p = famW q) (b : B) : if (!decide (famW p = famW q)) = true then A else B := by
  rw [decide_eq_true h]
  exact iteF b
theorem cut_from (xs : List V) (k : Nat) : cutV xs (some (k : Int)) none = xs.drop k := by
  unfold cutV
  rw [HT.sIx_nat, HT.sIx_none]
  rcases Nat.le_total k xs.length with h | h
  · rw [Nat.min_eq_left h, List.take_of_length_le (by rw [List.length_drop]; exact Nat.le_refl _)]
  · rw [Nat.min_eq_right h]
    simp [List.drop_of_length_le h]
theorem ods_app {H : Hp} {xs ys : List V} {os ps : List Od} (h : OdsAt H xs os) (g : OdsAt H ys ps) : OdsAt H (xs ++ ys) (os ++ ps) := by
  refine ⟨by rw [List.length_append, List.length_append, h.len, g.len], fun i x o a b => ?_⟩
  rcases Nat.lt_or_ge i xs.length with q | q
  · rw [List.getElem?_append_left q] at a
    rw [List.getElem?_append_left (by rw [← h.len]; exact q)] at b
    exact h.at_ i x o a b
  · rw [List.getElem?_append_right q] at a
    rw [List.getElem?_append_right (by rw [← h.len]; exact q), ← h.len] at b
    exact g.at_ _ x o a b
theorem ods_one {H : Hp} {x : V} {o : Od} (h : OdAt H x o) (k : o.ok) : OdsAt H [x] [o] := by
  refine ⟨rfl, fun i a b ha hb => ?_⟩
  match i with
  | 0 => injection ha with ha; injection hb with hb; rw [← ha, ← hb]; exact ⟨h, k⟩
  | i + 1 => simp at ha
theorem first_mid : ∀ {ws : List Str} {o : Od} {r : List Od}, Lics ws → inO lic o = false → firstBad (ws.map Od.s ++ o :: r) = some o
  | [], o, r, _, h => by
    unfold firstBad
    rw [List.map_nil, List.nil_append, List.find?_cons, h]
    rfl
  | w :: ws, o, r, l, h => by
    have h0 : inO lic (.s w) = true := l w List.mem_cons_self
    have ih := first_mid (ws := ws) (o := o) (r := r) (fun x hx => l x (List.mem_cons_of_mem _ hx)) h
    unfold firstBad at ih ⊢
    rw [List.map_cons, List.cons_append, List.find?_cons, h0]
    exact ih
def toldD (o : Od) : PyData := .list [o.data, .bool true, .bool true]
theorem told_shaped {o : Od} (h : o.ok) : SeqAt.shaped (toldD o) = true := by
  obtain ⟨h1, h2⟩ := Od.lay h
  unfold SeqAt.shaped
  rw [show PyData.canLay0 (toldD o) = (PyData.canLay0 o.data && (true && (true && true))) from rfl, h1, Bool.true_and, Bool.true_and, Bool.true_and, Bool.true_and]
  refine decide_eq_true ?_
  simp only [toldD, PyData.depth, PyData.depthAll]
  omega
theorem one_shaped {o : Od} (h : o.ok) : SeqAt.shaped (.list [o.data]) = true := by
  obtain ⟨h1, h2⟩ := Od.lay h
  unfold SeqAt.shaped
  rw [show PyData.canLay0 (.list [o.data]) = (PyData.canLay0 o.data && true) from rfl, h1, Bool.true_and, Bool.true_and]
  refine decide_eq_true ?_
  simp only [PyData.depth, PyData.depthAll]
  omega
theorem told_dp {K : Fg} {H : Hp} {a : Addr} {y : V} {o : Od} (h : H a = some (.lst [y, .bl true, .bl true])) (ho : OdAt H y o) : Dp K H (.ref a) (toldD o) := .lst (SqL.of h) (.cons ho.dp (.cons (.bl _) (.cons (.bl _) .nil)))
theorem one_dp {K : Fg} {H : Hp} {a : Addr} {y : V} {o : Od} (h : H a = some (.lst [y])) (ho : OdAt H y o) : Dp K H (.ref a) (.list [o.data]) := .lst (SqL.of h) (.cons ho.dp .nil)
/-- a strange value -/
def Odd (H : Hp) (y : V) : Prop := ∃ o : Od, OdAt H y o ∧ o.ok ∧ inO lic o = false
theorem Odd.keep {H H' : Hp} {b : Addr} {y : V} (h : Odd H y) (k : Keep b H H') (nb : H b = none) : Odd H' y := by
  obtain ⟨o, h1, h2, h3⟩ := h
  exact ⟨o, h1.moved fun c u z _ => k c u (fun e => by rw [e, nb] at z; cases z) z, h2, h3⟩
section
variable {P : Program} {w : World} {K : Fg} {mg : Str → Option Value} {base : Heap}
def spLaw (K : Fg) : Sp := fun vs H Q _ => ∃ (a : Addr) (ns : List Int), vs = [.ref a] ∧ SqL K H a (ns.map V.int) ∧ ns.length ≤ 63 ∧ ∀ H', Q (.bl true) H'
theorem ok_law {f C CB : Addr} {fd : FuncData} (F : Fun K "law" "law" s_law f fd) (T : Cst K mg) (hC : FamC K C) (gL : mg "Family" = some (.ref C)) (nC : NeC K C) (O_Family : OkIX P w K mg base 5 "Family" C ["self", "words"] (spFamX K C CB)) (O_of : OkCS (L2.CX P w) P w K mg base 7 C "of" (spOfS K C CB))
    (Oe : OkM CX0 P w K mg base 1 C "__eq__" ["self", "other"] (spEqF K C)) (O_law_bag : Ok P w K mg base 1 "_law_bag" ["script", "at"] (spBag K)) (O_law_take : Ok P w K mg base 1 "_law_take" ["bag", "many"] spTake) (O_law_of : Ok P w K mg base 2 "_law_of" ["bag", "some"] spOf)
    (O_law_licences : Ok P w K mg base 1 "_law_licences" [] spLics) (O_law_some : Ok P w K mg base 3 "_law_some" ["bag"] spSome) (O_law_refused : Ok P w K mg base 7 "_law_refused" ["words"] (spRef K)) (O_law_one_refused : Ok P w K mg base 8 "_law_one_refused" ["one", "other"] spOneRef)
    (O_law_family_right : Ok P w K mg base 6 "_law_family_right" ["family", "words"] (spRight K C)) : FnOk P w K mg base CX0 9 f fd ["script"] (spLaw K) := by
  obtain ⟨mc, aL, uL, rC, vC, tL⟩ := hC.lic
  refine F.ok sc_law (fun vs H Q E h => ?_) (fun cdv A outer s H vs Q E hr h => ?_)
  · obtain ⟨a, ns, rfl, _⟩ := h
    rfl
  · obtain ⟨a, ns, rfl, hS, hlen, k⟩ := h
    refine ⟨_, (pss_cons (ps_if (PW.pt (pw_or (pt_cmpR (op_neD hr.units) (pe_callTy call_list_of (by rfl) T.n_list (by decide +kernel) (pa_cons (ClX.pe_cval (pe_glob (v := .ref C) rfl gL rfl)) pa_nil)) (pe_callO0 O_law_licences (hr.mono (by decide))) (nomark _)) (pw_or1 (pt_not (pt_val (pe_callB call_isi (by rfl) T.n_isinstance (by decide +kernel) (pa_cons (ClX.pe_cval (pe_glob (v := .ref C) rfl gL rfl)) (pa_cons (pe_bltn (v := .ty "tuple") rfl T.n_tuple (by decide +kernel) rfl) pa_nil)))))))) (pss_one (ps_ret pe_bl)) pss_nil)
    (pss_cons (ps_set (i := 1) sc_law.nd rfl (Or.inl rfl) (pe_lst (pa_cons pe_non (pa_cons pe_bl (pa_cons pe_int (pa_cons pe_str (pa_cons pe_str (pa_cons pe_str (pa_cons pe_str (pa_cons pe_str (pa_cons pe_str (pa_cons (pe_lst (pa_cons pe_str pa_nil)) (pa_cons (pe_tup (pa_cons pe_str (pa_cons pe_str pa_nil))) (pa_cons (pe_lst pa_nil) (pa_cons (pe_op op_pow pe_int pe_int) pa_nil)))))))))))))))
    (pss_cons (ps_for PassesOwn.never rfl (pi_range1 rfl T.n_range (pa_cons (pe_callB (call_max2 rfl) (by rfl) T.n_max (by decide +kernel) (pa_cons pe_int (pa_cons (pe_callB (call_min2 rfl) (by rfl) T.n_min (by decide +kernel) (pa_cons pe_int (pa_cons (pe_callB call_len_seq (by rfl) T.n_len (by decide +kernel) (pa_cons (pv 0) pa_nil)) pa_nil))) pa_nil))) pa_nil)) (pg_name (i := 2) sc_law.nd rfl (Or.inl rfl)) (pss_cons (ps_set (i := 3) sc_law.nd rfl (Or.inl rfl) (pe_callO O_law_bag (hr.mono (by decide)) (pa_cons (pv 0) (pa_cons (pv 2) pa_nil))))
    (pss_one (ps_for PassesOwn.never rfl (pi_range1 rfl T.n_range (pa_cons pe_int pa_nil)) (pg_name (i := 4) sc_law.nd rfl (Or.inl rfl)) (pss_cons (ps_set (i := 5) sc_law.nd rfl (Or.inl rfl) (pe_callO O_law_some (hr.mono (by decide)) (pa_cons (pv 3) pa_nil)))
    (pss_cons (ps_set (i := 6) sc_law.nd rfl (Or.inl rfl) (pe_callTy call_list_of (by rfl) T.n_list (by decide +kernel) (pa_cons (pv 5) pa_nil)))
    (pss_cons (ps_par (i := 7) (j := 8) (by rfl) sc_law.nd rfl rfl (by decide) rfl rfl (pa_cons (pe_mkX takes0 O_Family (hr.mono (by decide)) (pa_cons (pv 5) pa_nil)) (pa_cons (pe_mkX takes0 O_Family (hr.mono (by decide)) (pa_cons (pe_callTy call_tuple_of (by rfl) T.n_tuple (by decide +kernel) (pa_cons (pv 5) pa_nil)) pa_nil)) pa_nil)) (by rfl))
    (pss_cons (ps_if (PW.pt (pw_or (pt_not (pt_val (pe_callO O_law_family_right (hr.mono (by decide)) (pa_cons (pv 7) (pa_cons (pv 6) pa_nil))))) (pw_or (pt_not (pt_val (pe_callO O_law_family_right (hr.mono (by decide)) (pa_cons (pv 8) (pa_cons (pv 6) pa_nil))))) (pw_or1 (pt_cmpR (op_neD hr.units) (pv 5) (pv 6) (nomark _)))))) (pss_one (ps_ret pe_bl)) pss_nil)
    (pss_cons (ps_expr (pe_bm PySem.F.plainAttrs_list PySem.F.slot_list_append PySem.F.type_list_append mt_append (pv 5) (pa_cons pe_str pa_nil)))
    (pss_cons (ps_expr (pe_bm PySem.F.plainAttrs_list PySem.F.slot_list_append PySem.F.type_list_append mt_append (pv 5) (pa_cons pe_str pa_nil)))
    (pss_cons (ps_if (PW.pt (pw_or (pt_not (pt_val (pe_callO O_law_family_right (hr.mono (by decide)) (pa_cons (pv 7) (pa_cons (pv 6) pa_nil))))) (pw_or1 (pt_cmpR (op_neA Oe nC (hr.mono (by decide))) (pv 7) (pv 8) (nomark _))))) (pss_one (ps_ret pe_bl)) pss_nil)
    (pss_cons (ps_par (i := 9) (j := 10) (by rfl) sc_law.nd rfl rfl (by decide) rfl rfl (pa_cons (pe_callO O_law_of (hr.mono (by decide)) (pa_cons (pv 3) (pa_cons (pe_callO0 O_law_licences (hr.mono (by decide))) pa_nil))) (pa_cons (pe_callO O_law_of (hr.mono (by decide)) (pa_cons (pv 3) (pa_cons (pe_callO0 O_law_licences (hr.mono (by decide))) pa_nil))) pa_nil)) (by rfl))
    (pss_cons (ps_if (pt_not (pt_val (pe_callO O_law_family_right (hr.mono (by decide)) (pa_cons (pe_cmS (fun σ => passAt takes0 σ) (pe_glob (v := .ref C) rfl gL rfl) O_of (hr.mono (by decide)) (pa_cons (pv 9) (pa_cons (pv 10) pa_nil))) (pa_cons (pe_lst (pa_cons (pv 9) (pa_cons (pv 10) pa_nil))) pa_nil))))) (pss_one (ps_ret pe_bl)) pss_nil)
    (pss_cons (ps_if (PW.pt (pw_or (pt_not (pt_val (pe_callO O_law_family_right (hr.mono (by decide)) (pa_cons (pe_cmS (fun σ => passAt takes0 σ) (pe_glob (v := .ref C) rfl gL rfl) O_of (hr.mono (by decide)) (pa_cons (pv 9) pa_nil)) (pa_cons (pe_lst (pa_cons (pv 9) pa_nil)) pa_nil))))) (pw_or1 (pt_not (pt_val (pe_callO O_law_family_right (hr.mono (by decide)) (pa_cons (pe_cmS0 (fun σ => passAt takes0 σ) (pe_glob (v := .ref C) rfl gL rfl) O_of (hr.mono (by decide))) (pa_cons (pe_lst pa_nil) pa_nil)))))))) (pss_one (ps_ret pe_bl)) pss_nil)
    (pss_cons (ps_par (i := 11) (j := 12) (by rfl) sc_law.nd rfl rfl (by decide) rfl rfl (pa_cons (pe_callO O_law_of (hr.mono (by decide)) (pa_cons (pv 3) (pa_cons (pv 1) pa_nil))) (pa_cons (pe_callO O_law_of (hr.mono (by decide)) (pa_cons (pv 3) (pa_cons (pv 1) pa_nil))) pa_nil)) (by rfl))
    (pss_cons (ps_set (i := 13) sc_law.nd rfl (Or.inl rfl) (pe_callO O_law_take (hr.mono (by decide)) (pa_cons (pv 3) (pa_cons (pe_op op_add (pe_callB call_len_seq (by rfl) T.n_len (by decide +kernel) (pa_cons (pv 6) pa_nil)) pe_int) pa_nil))))
    (pss_cons (ps_if (pt_cmpR (op_neD hr.units) (pe_callO O_law_refused (hr.mono (by decide)) (pa_cons (pe_op op_cat (pe_op op_cat (pe_op op_cat (pe_slice sl_list (pv 6) po_none (po_some (pv 13))) (pe_lst (pa_cons (pv 11) pa_nil))) (pe_slice sl_list (pv 6) (po_some (pv 13)) po_none)) (pe_lst (pa_cons (pv 12) pa_nil))) pa_nil)) (pe_lst (pa_cons (pv 11) (pa_cons pe_bl (pa_cons pe_bl pa_nil)))) (nomark _)) (pss_one (ps_ret pe_bl)) pss_nil)
    (pss_cons (ps_if (pt_cmpR (op_neD hr.units) (pe_callO O_law_refused (hr.mono (by decide)) (pa_cons (pe_callTy call_tuple_of (by rfl) T.n_tuple (by decide +kernel) (pa_cons (pe_op op_cat (pe_op op_cat (pe_lst (pa_cons (pv 12) pa_nil)) (pv 6)) (pe_lst (pa_cons (pv 11) pa_nil))) pa_nil)) pa_nil)) (pe_lst (pa_cons (pv 12) (pa_cons pe_bl (pa_cons pe_bl pa_nil)))) (nomark _)) (pss_one (ps_ret pe_bl)) pss_nil)
    (pss_one (ps_if (PW.pt (pw_or (pt_cmpR (op_neD hr.units) (pe_callO O_law_one_refused (hr.mono (by decide)) (pa_cons (pv 9) (pa_cons (pv 11) pa_nil))) (pe_lst (pa_cons (pv 11) pa_nil)) (nomark _)) (pw_or1 (pt_cmpR (op_neD hr.units) (pe_callO O_law_one_refused (hr.mono (by decide)) (pa_cons (pv 12) (pa_cons (pv 11) pa_nil))) (pe_lst (pa_cons (pv 12) pa_nil)) (nomark _))))) (pss_one (ps_ret pe_bl)) pss_nil))))))))))))))))))))
    (pss_one (ps_ret pe_bl))))), ?_⟩
    have lok : ∀ w ∈ lic, PyData.strOk w = true := fun w hw => (lic_ok w hw).1
    refine ⟨C, mc, _, _, rfl, rC, vC, aL, _, rfl, .inr tL.sq, fun m nm => ⟨rfl, fun m2 nm2 => ne_same (dp_strsL (SqL.of ((same_upd nm2) _ _ upd_same))) (dp_strsL (SqL.of upd_same)) (strsL_shaped lok) ⟨_, rfl, iteF ?_⟩⟩⟩
    refine ⟨C, mc, _, _, rfl, rC, vC, .ref aL, .ty "tuple", .type "tuple", .type "tuple", true, rfl, .ty _, tyx_sqT tL.sq, kit_ty (by decide +kernel), _, rfl, iteF ?_⟩
    have S0 := (same_upd (o := .lst (lic.map V.str)) nm).trans (same_upd (o := .lst (lic.map V.str)) nm2)
    have hS := S0.seq hS
    generalize upd (upd H m (.lst (lic.map V.str))) m2 (.lst (lic.map V.str)) = H0 at hS
    clear nm nm2 S0
    refine ⟨by show 1 ≤ sizeLine; decide, fun q1 n1 => ⟨by show 2 ≤ sizeLine; decide, fun q2 n2 => ⟨by show 0 ≤ sizeLine; decide, fun q3 n3 => ⟨_, _, rfl, rfl, ⟨by decide, by decide, by decide⟩, by show 13 ≤ sizeLine; decide, fun q4 n4 => ?_⟩⟩⟩⟩
    have h1 : upd H0 q1 (.lst [.str "call"]) q1 = some (.lst ((["call"] : List Str).map V.str)) := upd_same
    have s1 := same_upd (o := .lst [.str "call"]) n1
    generalize upd H0 q1 (.lst [.str "call"]) = H1 at h1 s1 n2 n3 n4
    have h2 : upd H1 q2 (.tup [.str "call", .str "names"]) q2 = some (.tup ((["call", "names"] : List Str).map V.str)) := upd_same
    have s2 := same_upd (o := .tup [.str "call", .str "names"]) n2
    generalize upd H1 q2 (.tup [.str "call", .str "names"]) = H2 at h2 s2 n3 n4
    have h3 : upd H2 q3 (.lst []) q3 = some (.lst (([] : List Str).map V.str)) := upd_same
    have s3 := same_upd (o := .lst []) n3
    generalize upd H2 q3 (.lst []) = H3 at h3 s3 n4
    generalize e4 : ([.non, .bl true, .int 0, .str "", .str "hook", .str "bare", .str "Call", .str "needs ", .str "own", .ref q1, .ref q2, .ref q3, .int (10 ^ (20 : Int).toNat)] : List V) = xs
    have lxs : xs.length = 13 := by rw [← e4]; rfl
    have h4 : upd H3 q4 (.lst xs) q4 = some (.lst xs) := upd_same
    have s4 := same_upd (o := .lst xs) n4
    have odd : ∀ y ∈ xs, Odd (upd H3 q4 (.lst xs)) y := by
      intro y hy
      rw [← e4] at hy
      simp only [List.mem_cons, List.not_mem_nil, or_false] at hy
      rcases hy with rfl | rfl | rfl | rfl | rfl | rfl | rfl | rfl | rfl | rfl | rfl | rfl | rfl
      · exact ⟨.n, rfl, trivial, rfl⟩
      · exact ⟨.b true, rfl, trivial, rfl⟩
      · exact ⟨.i 0, rfl, trivial, rfl⟩
      · exact ⟨.s "", rfl, (by show PyData.strOk ("" : Str) = true; decide +kernel), (by show lic.contains ("" : Str) = false; decide +kernel)⟩
      · exact ⟨.s "hook", rfl, (by show PyData.strOk ("hook" : Str) = true; decide +kernel), (by show lic.contains ("hook" : Str) = false; decide +kernel)⟩
      · exact ⟨.s "bare", rfl, (by show PyData.strOk ("bare" : Str) = true; decide +kernel), (by show lic.contains ("bare" : Str) = false; decide +kernel)⟩
      · exact ⟨.s "Call", rfl, (by show PyData.strOk ("Call" : Str) = true; decide +kernel), (by show lic.contains ("Call" : Str) = false; decide +kernel)⟩
      · exact ⟨.s "needs ", rfl, (by show PyData.strOk ("needs " : Str) = true; decide +kernel), (by show lic.contains ("needs " : Str) = false; decide +kernel)⟩
      · exact ⟨.s "own", rfl, (by show PyData.strOk ("own" : Str) = true; decide +kernel), (by show lic.contains ("own" : Str) = false; decide +kernel)⟩
      · exact ⟨.l ["call"], ⟨q1, rfl, s4 _ _ (s3 _ _ (s2 _ _ h1))⟩, ⟨by decide, by decide +kernel⟩, rfl⟩
      · exact ⟨.t ["call", "names"], ⟨q2, rfl, s4 _ _ (s3 _ _ h2)⟩, ⟨by decide, by decide +kernel⟩, rfl⟩
      · exact ⟨.l [], ⟨q3, rfl, s4 _ _ h3⟩, ⟨by decide, fun w hw => by cases hw⟩, rfl⟩
      · exact ⟨.i _, rfl, trivial, rfl⟩
    have hS := (s1.trans (s2.trans (s3.trans s4))).seq hS
    generalize upd H3 q4 (.lst xs) = H4 at h4 odd hS
    clear h1 h2 h3 s1 s2 s3 s4 n1 n2 n3 n4 e4
    have hN : ∀ m : Int, m = (if (ns.map V.int).length < (4 : Int) then ((ns.map V.int).length : Int) else 4) → 1 ≤ (if m > 1 then m else 1) ∧ (if m > 1 then m else 1) ≤ 4 := fun m hm => by
      have q : m ≤ 4 := by rw [hm]; split <;> omega
      split <;> omega
    obtain ⟨c1, c5⟩ := hN _ rfl
    refine ⟨_, rfl, a, _, rfl, .inl hS, _, _, rfl, _, _, rfl, _, rfl, by omega, by omega, ?_⟩
    refine for_range (lo := 0) (fun i σ G => Same H4 G ∧ ∃ u2 u3 u4 u5 u6 u7 u8 u9 u10 u11 u12 u13 : Option V, σ = [some (.ref a), some (.ref q4), u2, u3, u4, u5, u6, u7, u8, u9, u10, u11, u12, u13]) ⟨Same.refl _, none, none, none, none, none, none, none, none, none, none, none, none, rfl⟩ ?_ ?_
    · rintro i σ G hi ⟨S0, u2, u3, u4, u5, u6, u7, u8, u9, u10, u11, u12, u13, rfl⟩
      refine ⟨_, rfl, _, rfl, a, ns, i, by simp, S0.seq hS, by omega, fun b G1 nb S1 B1 => ?_⟩
      have nbH : H4 b = none := S0.free nb
      have sH1 := S0.trans S1
      have qb : q4 ≠ b := fun e => by rw [e, nbH] at h4; cases h4
      refine ⟨8, rfl, by decide, by decide, for_range (lo := 0) (n := 8) (fun j σ G2 => Keep b H4 G2 ∧ BagAt G2 b ∧ ∃ u4 u5 u6 u7 u8 u9 u10 u11 u12 u13 : Option V, σ = [some (.ref a), some (.ref q4), some (.int (0 + (i : Nat))), some (.ref b), u4, u5, u6, u7, u8, u9, u10, u11, u12, u13]) ⟨Keep.of sH1, B1, u4, u5, u6, u7, u8, u9, u10, u11, u12, u13, rfl⟩ ?_ ?_⟩
      · rintro j σ G2 hj ⟨k2, B2, u4, u5, u6, u7, u8, u9, u10, u11, u12, u13, rfl⟩
        refine ⟨_, rfl, b, rfl, B2, fun l ws G3 k3 B3 nl lb h1 n1 i1 => ?_⟩
        refine ⟨_, rfl, l, _, rfl, .inl (SqL.of h1), fun c nc => ?_⟩
        have k23 := k2.trans k3
        have cb := B3.ne nc
        have nlH : H4 l = none := k2.free nl lb
        have lc : l ≠ c := fun e => by rw [← e, h1] at nc; cases nc
        have hc : StrsAt (upd G3 c (.lst (ws.map V.str))) c ws := upd_same
        have s4 := same_upd (o := .lst (ws.map V.str)) nc
        generalize upd G3 c (.lst (ws.map V.str)) = G4 at hc s4
        have k24 := k23.same s4
        have B4 := B3.same s4
        have h1 : StrsAt G4 l ws := s4 _ _ h1
        clear k23 k2 k3 B2 B3 nl nc s4
        refine ⟨_, rfl, fun f1 d1 nf1 nd1 ne1 => mkG (bt := false) (SqL.of h1) (by omega) i1 nf1 nd1 ne1 fun G5 s5 e1 => ⟨rfl, ?_⟩⟩
        refine ⟨_, rfl, l, _, rfl, .inl ⟨SqL.of (s5 _ _ h1), fun t nt => fun f2 d2 nf2 nd2 ne2 => mkG (bt := true) (SqT.of upd_same) (by omega) i1 nf2 nd2 ne2 fun G6 s6 e2 => ⟨rfl, ?_⟩⟩⟩
        have s46 := s5.trans ((same_upd nt).trans s6)
        have e1 := e1.same ((same_upd nt).trans s6)
        have h1 : StrsAt G6 l ws := s46 _ _ h1
        have hc : StrsAt G6 c ws := s46 _ _ hc
        have k26 := k24.same s46
        have B6 := B4.same s46
        clear s5 s6 s46 k24 B4 nt nf1 nd1 ne1 nf2 nd2 ne2
        refine ⟨_, _, rfl, ?_⟩
        refine ⟨_, rfl, _, rfl, f1, c, ws, rfl, e1, SqL.of hc, by omega, i1, fun G7 s7 => ⟨_, rfl, iteF ?_⟩⟩
        refine ⟨_, rfl, _, rfl, f2, c, ws, rfl, e2.same s7, SqL.of (s7 _ _ hc), by omega, i1, fun G8 s8 => ⟨_, rfl, iteF ?_⟩⟩
        have s68 := s7.trans s8
        have e1 := e1.same s68
        have e2 := e2.same s68
        have h1 : StrsAt G8 l ws := s68 _ _ h1
        have hc : StrsAt G8 c ws := s68 _ _ hc
        have k28 := k26.same s68
        have B8 := B6.same s68
        clear s7 s8 s68 k26 B6
        refine ⟨_, rfl, _, rfl, ne_same (dp_strsL (SqL.of h1)) (dp_strsL (SqL.of hc)) (strsL_shaped i1.ok) ⟨_, rfl, iteF ?_⟩⟩
        refine ⟨_, rfl, .inl ⟨rfl, _, SqL.of h1⟩, l, _, _, rfl, rfl, h1, by rw [List.length_map, sizeLine_eq]; omega, ?_⟩
        refine ⟨_, rfl, .inl ⟨rfl, _, SqL.of upd_same⟩, l, _, _, rfl, rfl, upd_same, by rw [List.length_append, List.length_map, sizeLine_eq]; show ws.length + 1 < _; omega, ?_⟩
        have kl : Keep l G8 (upd (upd G8 l (.lst (ws.map V.str ++ [.str "copy"]))) l (.lst (ws.map V.str ++ [.str "copy"] ++ [.str "nothing"]))) := Keep.upd.trans Keep.upd
        have k29 : Keep b H4 (upd (upd G8 l (.lst (ws.map V.str ++ [.str "copy"]))) l (.lst (ws.map V.str ++ [.str "copy"] ++ [.str "nothing"]))) := keep_new (keep_new k28 nlH) nlH
        have B9 : BagAt (upd (upd G8 l (.lst (ws.map V.str ++ [.str "copy"]))) l (.lst (ws.map V.str ++ [.str "copy"] ++ [.str "nothing"]))) b := (B8.upd lb).upd lb
        generalize upd (upd G8 l (.lst (ws.map V.str ++ [.str "copy"]))) l (.lst (ws.map V.str ++ [.str "copy"] ++ [.str "nothing"])) = G9 at kl k29 B9
        have e1 := e1.keep kl h1
        have e2 := e2.keep kl h1
        have hc : StrsAt G9 c ws := kl _ _ (Ne.symm lc) hc
        clear kl k28 B8 h1
        refine ⟨_, rfl, _, rfl, f1, c, ws, rfl, e1, SqL.of hc, by omega, i1, fun G10 s10 => ⟨_, rfl, iteF ?_⟩⟩
        refine ⟨_, rfl, _, rfl, eq_go (e1.same s10) (e2.same s10) ⟨_, rfl, fam_ne rfl ?_⟩⟩
        have hc : StrsAt G10 c ws := s10 _ _ hc
        have kA := k29.same s10
        have BA := B9.same s10
        clear e1 e2 k29 B9 s10
        refine ⟨_, rfl, rfl, fun m nm => ⟨b, m, _, rfl, BA.same (same_upd nm), upd_same, BA.ne nm, by show 0 < 10; decide, by show 10 ≤ 1000; decide, fun x G11 hx k11 B11 => ?_⟩⟩
        obtain ⟨z1, hz1, rfl⟩ := List.mem_map.mp hx
        have hc : StrsAt G11 c ws := k11 _ _ cb ((same_upd nm) _ _ hc)
        have kB := (kA.same (same_upd nm)).trans k11
        clear hx nm k11 kA BA
        refine ⟨_, rfl, rfl, fun m nm => ⟨b, m, _, rfl, B11.same (same_upd nm), upd_same, B11.ne nm, by show 0 < 10; decide, by show 10 ≤ 1000; decide, fun x G12 hx k12 B12 => ?_⟩⟩
        obtain ⟨z2, hz2, rfl⟩ := List.mem_map.mp hx
        have hc : StrsAt G12 c ws := k12 _ _ cb ((same_upd nm) _ _ hc)
        have kC := (kB.same (same_upd nm)).trans k12
        clear hx nm k12 kB B11
        have t1 : lic.contains z1 = true := List.contains_iff_mem.mpr hz1
        have t2 : lic.contains z2 = true := List.contains_iff_mem.mpr hz2
        have il0 : Lics [] := fun w hw => by cases hw
        have il1 : Lics [z1] := fun w hw => by rw [List.mem_singleton.mp hw]; exact t1
        have il2 : Lics [z1, z2] := fun w hw => by
          rcases List.mem_cons.mp hw with rfl | hw
          · exact t1
          · rw [List.mem_singleton.mp hw]; exact t2
        refine ⟨_, _, rfl, ?_⟩
        refine ⟨rfl, _, rfl, _, rfl, _, _, rfl, by show 2 ≤ 1000; decide, strs_ods (ws := [z1, z2]) il2.ok, making_good il2 fun r G13 s13 nr fr => ⟨_, rfl, _, rfl, by show 2 ≤ sizeLine; decide, fun m nm => ⟨r, m, [z1, z2], rfl, fr.same (same_upd nm), SqL.of upd_same, by show 2 ≤ 1000; decide, il2, fun G14 s14 => ⟨_, rfl, iteF ?_⟩⟩⟩⟩
        have s := s13.trans ((same_upd nm).trans s14)
        have hc : StrsAt G14 c ws := s _ _ hc
        have kD := kC.same s
        have BD := B12.same s
        clear s13 nr fr nm s14 s kC B12
        refine ⟨rfl, _, rfl, _, _, rfl, by show 1 ≤ 1000; decide, strs_ods (ws := [z1]) il1.ok, making_good il1 fun r G13 s13 nr fr => ⟨_, rfl, by show 1 ≤ sizeLine; decide, fun m nm => ⟨r, m, [z1], rfl, fr.same (same_upd nm), SqL.of upd_same, by show 1 ≤ 1000; decide, il1, fun G15 s14 => ⟨_, rfl, iteF ?_⟩⟩⟩⟩
        have s := s13.trans ((same_upd nm).trans s14)
        have hc : StrsAt G15 c ws := s _ _ hc
        have kE := kD.same s
        have BE := BD.same s
        clear s13 nr fr nm s14 s kD BD
        refine ⟨rfl, _, _, rfl, by show 0 ≤ 1000; decide, strs_ods (ws := []) il0.ok, making_good il0 fun r G13 s13 nr fr => ⟨by show 0 ≤ sizeLine; decide, fun m nm => ⟨r, m, [], rfl, fr.same (same_upd nm), SqL.of upd_same, by show 0 ≤ 1000; decide, il0, fun G16 s14 => ⟨_, rfl, iteF ?_⟩⟩⟩⟩
        have s := s13.trans ((same_upd nm).trans s14)
        have hc : StrsAt G16 c ws := s _ _ hc
        have kF := kE.same s
        have BF := BE.same s
        clear s13 nr fr nm s14 s kE BE
        refine ⟨_, rfl, _, rfl, b, q4, xs, rfl, BF, kF _ _ qb h4, qb, by omega, by omega, fun x G17 hx k17 B17 => ?_⟩
        have hc : StrsAt G17 c ws := k17 _ _ cb hc
        have kG := kF.trans k17
        refine ⟨_, rfl, _, rfl, b, q4, xs, rfl, B17, kG _ _ qb h4, qb, by omega, by omega, fun y G18 hy k18 B18 => ⟨_, _, rfl, ?_⟩⟩
        have hc : StrsAt G18 c ws := k18 _ _ cb hc
        have kH := kG.trans k18
        clear kF k17 kG k18 BF B17
        refine ⟨_, rfl, _, rfl, c, _, rfl, .inl (SqL.of hc), _, _, rfl, rfl, b, _, rfl, B18, by omega, small200 (by omega) (by rw [List.length_map]; omega), fun r G19 r0 r1 k19 B19 => ?_⟩
        obtain ⟨kk, rfl⟩ := Int.eq_ofNat_of_zero_le r0
        have hc : StrsAt G19 c ws := k19 _ _ cb hc
        have kI := kH.trans k19
        obtain ⟨o1, h1, p1, b1⟩ := (odd x hx).keep kI nbH
        obtain ⟨o2, h2, p2, b2⟩ := (odd y hy).keep kI nbH
        clear kH k19 B18 r0 r1
        have sz : 1000 ≤ sizeLine := by rw [sizeLine_eq]; decide
        have lt1 : (ws.take kk).length ≤ 20 := by rw [List.length_take]; omega
        have ld1 : (ws.drop kk).length ≤ 20 := by rw [List.length_drop]; omega
        have it1 : Lics (ws.take kk) := fun w hw => i1 w (List.mem_of_mem_take hw)
        have id1 : Lics (ws.drop kk) := fun w hw => i1 w (List.mem_of_mem_drop hw)
        refine ⟨_, rfl, _, rfl, kk, rfl, c, _, rfl, SqL.of hc, fun a1 n1 => ?_⟩
        have g1 : StrsAt (upd G19 a1 (.lst (cutV (ws.map V.str) none (some ((kk : Nat) : Int))))) a1 (ws.take kk) := by
          show upd G19 a1 _ a1 = _
          rw [upd_same, cut_take, ← List.map_take]
        have s1 := same_upd (o := .lst (cutV (ws.map V.str) none (some ((kk : Nat) : Int)))) n1
        generalize upd G19 a1 (.lst (cutV (ws.map V.str) none (some ((kk : Nat) : Int)))) = J1 at g1 s1
        refine ⟨_, rfl, by show 1 ≤ sizeLine; decide, fun a2 n2 => ?_⟩
        have g2 : upd J1 a2 (.lst [x]) a2 = some (.lst [x]) := upd_same
        have s2 := s1.trans (same_upd (o := .lst [x]) n2)
        have g1 : StrsAt (upd J1 a2 (.lst [x])) a1 (ws.take kk) := (same_upd n2) _ _ g1
        generalize upd J1 a2 (.lst [x]) = J2 at g1 g2 s2
        refine ⟨a1, a2, _, _, rfl, rfl, g1, g2, by rw [List.length_map]; show _ + 1 ≤ _; omega, fun a3 n3 => ?_⟩
        have g3 : upd J2 a3 (.lst ((ws.take kk).map V.str ++ [x])) a3 = some (.lst ((ws.take kk).map V.str ++ [x])) := upd_same
        have s3 := s2.trans (same_upd (o := .lst ((ws.take kk).map V.str ++ [x])) n3)
        generalize upd J2 a3 (.lst ((ws.take kk).map V.str ++ [x])) = J3 at g3 s3
        refine ⟨_, rfl, _, rfl, kk, rfl, c, _, rfl, SqL.of (s3 _ _ hc), fun a4 n4 => ?_⟩
        have g4 : StrsAt (upd J3 a4 (.lst (cutV (ws.map V.str) (some ((kk : Nat) : Int)) none))) a4 (ws.drop kk) := by
          show upd J3 a4 _ a4 = _
          rw [upd_same, cut_from, ← List.map_drop]
        have g3 := (same_upd (o := .lst (cutV (ws.map V.str) (some ((kk : Nat) : Int)) none)) n4) _ _ g3
        have s4 := s3.trans (same_upd (o := .lst (cutV (ws.map V.str) (some ((kk : Nat) : Int)) none)) n4)
        generalize upd J3 a4 (.lst (cutV (ws.map V.str) (some ((kk : Nat) : Int)) none)) = J4 at g3 g4 s4
        have e3 : ((ws.take kk).map V.str ++ [x]).length = (ws.take kk).length + 1 := by rw [List.length_append, List.length_map]; rfl
        refine ⟨a3, a4, _, _, rfl, rfl, g3, g4, by rw [e3, List.length_map]; omega, fun a5 n5 => ?_⟩
        have e5 : ((ws.take kk).map V.str ++ [x] ++ (ws.drop kk).map V.str).length = (ws.take kk).length + 1 + (ws.drop kk).length := by rw [List.length_append, e3, List.length_map]
        have od5 : ∀ G, Same G19 G → OdsAt G ((ws.take kk).map V.str ++ [x] ++ (ws.drop kk).map V.str ++ [y]) ((ws.take kk).map Od.s ++ [o1] ++ (ws.drop kk).map Od.s ++ [o2]) := fun G s =>
          ods_app (ods_app (ods_app (strs_ods it1.ok) (ods_one (h1.same s) p1)) (strs_ods id1.ok)) (ods_one (h2.same s) p2)
        have fb5 : firstBad ((ws.take kk).map Od.s ++ [o1] ++ (ws.drop kk).map Od.s ++ [o2]) = some o1 := by
          rw [List.append_assoc, List.append_assoc, List.singleton_append]
          exact first_mid it1 b1
        generalize (ws.take kk).map V.str ++ [x] ++ (ws.drop kk).map V.str = v5 at e5 od5
        generalize (ws.take kk).map Od.s ++ [o1] ++ (ws.drop kk).map Od.s = w5 at od5 fb5
        have g5 : upd J4 a5 (.lst v5) a5 = some (.lst v5) := upd_same
        have s5 := s4.trans (same_upd (o := .lst v5) n5)
        generalize upd J4 a5 (.lst v5) = J5 at g5 s5
        refine ⟨_, rfl, by show 1 ≤ sizeLine; decide, fun a6 n6 => ?_⟩
        have g6 : upd J5 a6 (.lst [y]) a6 = some (.lst [y]) := upd_same
        have g5 := (same_upd (o := .lst [y]) n6) _ _ g5
        have s6 := s5.trans (same_upd (o := .lst [y]) n6)
        generalize upd J5 a6 (.lst [y]) = J6 at g5 g6 s6
        refine ⟨a5, a6, _, _, rfl, rfl, g5, g6, by show v5.length + 1 ≤ _; omega, fun a7 n7 => ?_⟩
        have s7 := s6.trans (same_upd (o := .lst (v5 ++ [y])) n7)
        refine ⟨a7, false, _, _, o1, rfl, SqL.of upd_same, by rw [List.length_append]; show v5.length + 1 ≤ _; omega, od5 _ s7, fb5, fun r2 y2 G20 s8 hr2 hy2 => ?_⟩
        refine ⟨_, rfl, by show 3 ≤ sizeLine; decide, fun a8 n8 => ne_same (told_dp ((same_upd n8) _ _ hr2) (hy2.same (same_upd n8))) (told_dp upd_same (((h1.same s7).same s8).same (same_upd n8))) (told_shaped p1) ⟨_, rfl, iteF ?_⟩⟩
        have sK := s7.trans (s8.trans (same_upd (o := .lst [x, .bl true, .bl true]) n8))
        generalize upd G20 a8 (.lst [x, .bl true, .bl true]) = G21 at sK
        have hc : StrsAt G21 c ws := sK _ _ hc
        have h1 := h1.same sK
        have h2 := h2.same sK
        have kJ := kI.same sK
        have BJ := B19.same sK
        clear kI B19 sK s1 s2 s3 s4 s5 s6 s7 s8 hr2 hy2 g1 g2 g3 g4 g5 g6 od5 fb5 n1 n2 n3 n4 n5 n6 n7 n8 e3 e5
        refine ⟨_, rfl, by show 1 ≤ sizeLine; decide, fun a1 n1 => ?_⟩
        have g1 : upd G21 a1 (.lst [y]) a1 = some (.lst [y]) := upd_same
        have s1 := same_upd (o := .lst [y]) n1
        generalize upd G21 a1 (.lst [y]) = J1 at g1 s1
        refine ⟨_, rfl, a1, c, _, _, rfl, rfl, g1, s1 _ _ hc, by rw [List.length_map]; show 1 + _ ≤ _; omega, fun a2 n2 => ?_⟩
        have g2 : upd J1 a2 (.lst ([y] ++ ws.map V.str)) a2 = some (.lst ([y] ++ ws.map V.str)) := upd_same
        have s2 := s1.trans (same_upd (o := .lst ([y] ++ ws.map V.str)) n2)
        generalize upd J1 a2 (.lst ([y] ++ ws.map V.str)) = J2 at g2 s2
        refine ⟨_, rfl, by show 1 ≤ sizeLine; decide, fun a3 n3 => ?_⟩
        have g3 : upd J2 a3 (.lst [x]) a3 = some (.lst [x]) := upd_same
        have g2 := (same_upd (o := .lst [x]) n3) _ _ g2
        have s3 := s2.trans (same_upd (o := .lst [x]) n3)
        generalize upd J2 a3 (.lst [x]) = J3 at g2 g3 s3
        have e2 : ([y] ++ ws.map V.str).length = ws.length + 1 := by rw [List.length_append, List.length_map]; exact Nat.add_comm _ _
        refine ⟨a2, a3, _, _, rfl, rfl, g2, g3, by rw [e2]; show _ + 1 ≤ _; omega, fun a4 n4 => ?_⟩
        have s4 := s3.trans (same_upd (o := .lst ([y] ++ ws.map V.str ++ [x])) n4)
        refine ⟨a4, _, rfl, .inl ⟨SqL.of upd_same, fun t nt => ?_⟩⟩
        have s5 := s4.trans (same_upd (o := .tup ([y] ++ ws.map V.str ++ [x])) nt)
        refine ⟨t, true, _, [o2] ++ ws.map Od.s ++ [o1], o2, rfl, SqT.of upd_same, by rw [List.length_append, e2]; show _ + 1 ≤ _; omega, ods_app (ods_app (ods_one (h2.same s5) p2) (strs_ods i1.ok)) (ods_one (h1.same s5) p1), first_mid (ws := []) il0 b2, fun r2 y2 G22 s8 hr2 hy2 => ?_⟩
        refine ⟨_, rfl, by show 3 ≤ sizeLine; decide, fun a8 n8 => ne_same (told_dp ((same_upd n8) _ _ hr2) (hy2.same (same_upd n8))) (told_dp upd_same (((h2.same s5).same s8).same (same_upd n8))) (told_shaped p2) ⟨_, rfl, iteF ?_⟩⟩
        have sK := s5.trans (s8.trans (same_upd (o := .lst [y, .bl true, .bl true]) n8))
        generalize upd G22 a8 (.lst [y, .bl true, .bl true]) = G23 at sK
        have h1 := h1.same sK
        have h2 := h2.same sK
        have kK := kJ.same sK
        have BK := BJ.same sK
        clear kJ BJ sK s1 s2 s3 s4 s5 s8 hr2 hy2 g1 g2 g3 n1 n2 n3 n4 nt n8 e2 hc
        refine ⟨_, rfl, _, rfl, _, _, .s z1, o1, o1, rfl, rfl, lok z1 hz1, h1, p1, first_mid (ws := [z1]) il1 b1, fun r2 y2 G24 s8 hr2 hy2 => ?_⟩
        refine ⟨_, rfl, by show 1 ≤ sizeLine; decide, fun a8 n8 => ne_same (one_dp ((same_upd n8) _ _ hr2) (hy2.same (same_upd n8))) (one_dp upd_same ((h1.same s8).same (same_upd n8))) (one_shaped p1) ⟨_, rfl, iteF ?_⟩⟩
        have sK := s8.trans (same_upd (o := .lst [x]) n8)
        generalize upd G24 a8 (.lst [x]) = G25 at sK
        have h1 := h1.same sK
        have h2 := h2.same sK
        have kL := kK.same sK
        have BL := BK.same sK
        clear kK BK sK s8 hr2 hy2 n8
        refine ⟨_, rfl, _, rfl, _, _, o2, o1, o2, rfl, h2, p2, h1, p1, first_mid (ws := []) il0 b2, fun r2 y2 G26 s8 hr2 hy2 => ?_⟩
        refine ⟨_, rfl, by show 1 ≤ sizeLine; decide, fun a8 n8 => ne_same (one_dp ((same_upd n8) _ _ hr2) (hy2.same (same_upd n8))) (one_dp upd_same ((h2.same s8).same (same_upd n8))) (one_shaped p2) ⟨_, rfl, iteF ?_⟩⟩
        exact ⟨kL.same (s8.trans (same_upd n8)), BL.same (s8.trans (same_upd n8)), _, _, _, _, _, _, _, _, _, _, rfl⟩
      · rintro σ G2 ⟨k2, B2, u4, u5, u6, u7, u8, u9, u10, u11, u12, u13, rfl⟩
        exact ⟨fun p x z => k2 p x (fun e => by rw [e, nbH] at z; cases z) z, _, _, _, _, _, _, _, _, _, _, _, _, rfl⟩
    · rintro σ G ⟨S0, u2, u3, u4, u5, u6, u7, u8, u9, u10, u11, u12, u13, rfl⟩
      exact k G
end
end K86

namespace K86
open PySem PySem.Spec PyProof.Rows L2 EV TL LM
abbrev veT : List Value := [.type "ValueError", .type "Exception", .type "BaseException", .type "object"]
abbrev leT : List Value := [.type "LookupError", .type "Exception", .type "BaseException", .type "object"]
/-- the values are these texts -/
def strsIn : List Value → List Str → Bool
  | [], [] => true
  | .str z _ :: us, w :: ws => z == w && strsIn us ws
  | _, _ => false
theorem strs_vals : ∀ {us : List Value} {ws : List Str}, strsIn us ws = true → Vals (ws.map V.str) us
  | [], [], _ => .nil
  | [], _ :: _, h => by simp [strsIn] at h
  | u :: us, [], h => by cases u <;> simp [strsIn] at h
  | u :: us, w :: ws, h => by
    cases u <;> simp [strsIn] at h
    obtain ⟨h1, h2⟩ := h
    subst h1
    exact .cons ⟨_, rfl⟩ (strs_vals h2)
theorem tupk_of {K : Fg} {a : Addr} {od : Option Addr} {its : Array Value} {n : Nat} {sl : Array (Option Value)} {ws : List Str} (l : K.lookup a = some ⟨.type "tuple", od, .seq its n, sl⟩) (o : strsIn its.toList ws = true) (hl : ws.length ≤ sizeLine) : TupK K a (ws.map V.str) := by
  have v := strs_vals o
  refine ⟨_, _, _, l, rfl, rfl, ?_, v⟩
  have := v.length
  rw [List.length_map] at this
  show its.toList.length ≤ _
  omega
theorem all_mk {l : PySem.W.OpenLaw} {w : World} {K : Fg} {h : Heap} {mg : Str → Option Value} {fa : Addr} (X : K.In h) (G : h.Ns mainGlobals mg) (hfa : mg "law" = some (.ref fa))
    {C_Family C_W C_HE C_BadFamily g_own_copy g_BadFamily___init__ g_Family___init__ g_Family_of p_Family_of g_Family___len__ g_Family___bool__ g_Family___contains__ g_Family___eq__ g_Family___repr__ g__law_take g__law_bag g__law_of g__law_licences g__law_some g__law_sorted g__law_refused g__law_one_refused g__law_family_right g_law v_FamilyLICENCES : Addr}
    {od_own_copy an_own_copy od_BadFamily___init__ an_BadFamily___init__ od_Family___init__ an_Family___init__ od_Family_of an_Family_of od_Family___len__ an_Family___len__ od_Family___bool__ an_Family___bool__ od_Family___contains__ an_Family___contains__ od_Family___eq__ an_Family___eq__ od_Family___repr__ an_Family___repr__ od__law_take an__law_take od__law_bag an__law_bag od__law_of an__law_of od__law_licences an__law_licences od__law_some an__law_some od__law_sorted an__law_sorted od__law_refused an__law_refused od__law_one_refused an__law_one_refused od__law_family_right an__law_family_right od_law an_law od_FamilyLICENCES : Option Addr}
    {sl_own_copy sl_BadFamily___init__ sl_Family___init__ sl_Family_of sl_Family___len__ sl_Family___bool__ sl_Family___contains__ sl_Family___eq__ sl_Family___repr__ sl__law_take sl__law_bag sl__law_of sl__law_licences sl__law_some sl__law_sorted sl__law_refused sl__law_one_refused sl__law_family_right sl_law sl_FamilyLICENCES : Array (Option Value)}
    {oc_own_copy dc_own_copy pm_own_copy cd_own_copy ct_own_copy kV_own_copy oc_BadFamily___init__ dc_BadFamily___init__ pm_BadFamily___init__ cd_BadFamily___init__ ct_BadFamily___init__ kV_BadFamily___init__ oc_Family___init__ dc_Family___init__ pm_Family___init__ cd_Family___init__ ct_Family___init__ kV_Family___init__ oc_Family_of dc_Family_of pm_Family_of cd_Family_of ct_Family_of kV_Family_of oc_Family___len__ dc_Family___len__ pm_Family___len__ cd_Family___len__ ct_Family___len__ kV_Family___len__ oc_Family___bool__ dc_Family___bool__ pm_Family___bool__ cd_Family___bool__ ct_Family___bool__ kV_Family___bool__ oc_Family___contains__ dc_Family___contains__ pm_Family___contains__ cd_Family___contains__ ct_Family___contains__ kV_Family___contains__ oc_Family___eq__ dc_Family___eq__ pm_Family___eq__ cd_Family___eq__ ct_Family___eq__ kV_Family___eq__ oc_Family___repr__ dc_Family___repr__ pm_Family___repr__ cd_Family___repr__ ct_Family___repr__ kV_Family___repr__ oc__law_take dc__law_take pm__law_take cd__law_take ct__law_take kV__law_take oc__law_bag dc__law_bag pm__law_bag cd__law_bag ct__law_bag kV__law_bag oc__law_of dc__law_of pm__law_of cd__law_of ct__law_of kV__law_of oc__law_licences dc__law_licences pm__law_licences cd__law_licences ct__law_licences kV__law_licences oc__law_some dc__law_some pm__law_some cd__law_some ct__law_some kV__law_some oc__law_sorted dc__law_sorted pm__law_sorted cd__law_sorted ct__law_sorted kV__law_sorted oc__law_refused dc__law_refused pm__law_refused cd__law_refused ct__law_refused kV__law_refused oc__law_one_refused dc__law_one_refused pm__law_one_refused cd__law_one_refused ct__law_one_refused kV__law_one_refused oc__law_family_right dc__law_family_right pm__law_family_right cd__law_family_right ct__law_family_right kV__law_family_right oc_law dc_law pm_law cd_law ct_law kV_law : Value}
    {rs_Family_of : List Value}
    {it_FamilyLICENCES : Array Value}
    {n_FamilyLICENCES : Nat}
    (a_W : PySem.W.nsIn K mainGlobals "World" = some (some (.ref C_W)))
    (a_HE : PySem.W.nsIn K mainGlobals "HeirsbackError" = some (some (.ref C_HE)))
    (a_own_copy : PySem.W.nsIn K mainGlobals "own_copy" = some (some (.ref g_own_copy)))
    (a_BadFamily : PySem.W.nsIn K mainGlobals "BadFamily" = some (some (.ref C_BadFamily)))
    (a_Family : PySem.W.nsIn K mainGlobals "Family" = some (some (.ref C_Family)))
    (a__law_take : PySem.W.nsIn K mainGlobals "_law_take" = some (some (.ref g__law_take)))
    (a__law_bag : PySem.W.nsIn K mainGlobals "_law_bag" = some (some (.ref g__law_bag)))
    (a__law_of : PySem.W.nsIn K mainGlobals "_law_of" = some (some (.ref g__law_of)))
    (a__law_licences : PySem.W.nsIn K mainGlobals "_law_licences" = some (some (.ref g__law_licences)))
    (a__law_some : PySem.W.nsIn K mainGlobals "_law_some" = some (some (.ref g__law_some)))
    (a__law_sorted : PySem.W.nsIn K mainGlobals "_law_sorted" = some (some (.ref g__law_sorted)))
    (a__law_refused : PySem.W.nsIn K mainGlobals "_law_refused" = some (some (.ref g__law_refused)))
    (a__law_one_refused : PySem.W.nsIn K mainGlobals "_law_one_refused" = some (some (.ref g__law_one_refused)))
    (a__law_family_right : PySem.W.nsIn K mainGlobals "_law_family_right" = some (some (.ref g__law_family_right)))
    (a_law : PySem.W.nsIn K mainGlobals "law" = some (some (.ref g_law)))
    (z_isinstance : PySem.W.nsIn K mainGlobals "isinstance" = some none)
    (z_list : PySem.W.nsIn K mainGlobals "list" = some none)
    (z_tuple : PySem.W.nsIn K mainGlobals "tuple" = some none)
    (z_int : PySem.W.nsIn K mainGlobals "int" = some none)
    (z_str : PySem.W.nsIn K mainGlobals "str" = some none)
    (z_bool : PySem.W.nsIn K mainGlobals "bool" = some none)
    (z_len : PySem.W.nsIn K mainGlobals "len" = some none)
    (z_abs : PySem.W.nsIn K mainGlobals "abs" = some none)
    (z_max : PySem.W.nsIn K mainGlobals "max" = some none)
    (z_min : PySem.W.nsIn K mainGlobals "min" = some none)
    (z_range : PySem.W.nsIn K mainGlobals "range" = some none)
    (z_enumerate : PySem.W.nsIn K mainGlobals "enumerate" = some none)
    (z_all : PySem.W.nsIn K mainGlobals "all" = some none)
    (z_ValueError : PySem.W.nsIn K mainGlobals "ValueError" = some none)
    (z_LookupError : PySem.W.nsIn K mainGlobals "LookupError" = some none)
    (z_KeyError : PySem.W.nsIn K mainGlobals "KeyError" = some none)
    (z_IndexError : PySem.W.nsIn K mainGlobals "IndexError" = some none)
    (z_repr : PySem.W.nsIn K mainGlobals "repr" = some none)
    (sa_BadFamily : PySem.W.findIn K (.ref C_BadFamily) "__setattr__" = some (some (.builtin "object.__setattr__")))
    (hg_BadFamily : PySem.W.findIn K (.ref C_BadFamily) "__getattribute__" = some (some (.builtin "BaseException.__getattribute__")))
    (hk_BadFamily : PySem.W.findIn K (.ref C_BadFamily) "__getattr__" = some none)
    (ha_BadFamily : PySem.W.findIn K (.ref C_BadFamily) "__class__" = some (some (.builtin "object.__class__")))
    (na_BadFamily_word : PySem.W.findIn K (.ref C_BadFamily) "word" = some none)
    (i_BadFamily___init__ : PySem.W.findIn K (.ref C_BadFamily) "__init__" = some (some (.ref g_BadFamily___init__)))
    (sa_Family : PySem.W.findIn K (.ref C_Family) "__setattr__" = some (some (.builtin "object.__setattr__")))
    (nA_Family_0 : PySem.W.findIn K (.ref C_Family) "words" = some none)
    (i_Family___init__ : PySem.W.findIn K (.ref C_Family) "__init__" = some (some (.ref g_Family___init__)))
    (fc_Family_of : PySem.W.findCls K (.ref C_Family) (.type "type") "of" = some (.get (.builtin "classmethod.__get__") (.ref p_Family_of) .none (.ref C_Family)))
    (m_Family___len__ : PySem.W.findIn K (.ref C_Family) "__len__" = some (some (.ref g_Family___len__)))
    (m_Family___bool__ : PySem.W.findIn K (.ref C_Family) "__bool__" = some (some (.ref g_Family___bool__)))
    (m_Family___contains__ : PySem.W.findIn K (.ref C_Family) "__contains__" = some (some (.ref g_Family___contains__)))
    (haI_Family : PySem.W.findIn K (.ref C_Family) "__class__" = some (some (.builtin "object.__class__")))
    (m_Family___eq__ : PySem.W.findIn K (.ref C_Family) "__eq__" = some (some (.ref g_Family___eq__)))
    (m_Family___repr__ : PySem.W.findIn K (.ref C_Family) "__repr__" = some (some (.ref g_Family___repr__)))
    (ne_Family : PySem.W.findIn K (.ref C_Family) "__ne__" = some (some (.builtin "object.__ne__")))
    (fc_Family_LICENCES : PySem.W.findCls K (.ref C_Family) (.type "type") "LICENCES" = some (.val (.ref v_FamilyLICENCES)))
    (rc_Family_of : PySem.W.recIn K p_Family_of "classmethod" = some (.ref g_Family_of :: rs_Family_of))
    (l_own_copy : K.lookup g_own_copy = some ⟨oc_own_copy, od_own_copy, .func (PySem.W.fnOf "own_copy" "own_copy" (defArgs s_own_copy) (defBody s_own_copy) (defScope s_own_copy) .none kV_own_copy dc_own_copy pm_own_copy an_own_copy cd_own_copy ct_own_copy), sl_own_copy⟩)
    (l_BadFamily___init__ : K.lookup g_BadFamily___init__ = some ⟨oc_BadFamily___init__, od_BadFamily___init__, .func (PySem.W.fnOf "__init__" "BadFamily.__init__" (defArgs s_BadFamily___init__) (defBody s_BadFamily___init__) (defScope s_BadFamily___init__) .none kV_BadFamily___init__ dc_BadFamily___init__ pm_BadFamily___init__ an_BadFamily___init__ cd_BadFamily___init__ ct_BadFamily___init__), sl_BadFamily___init__⟩)
    (l_Family___init__ : K.lookup g_Family___init__ = some ⟨oc_Family___init__, od_Family___init__, .func (PySem.W.fnOf "__init__" "Family.__init__" (defArgs s_Family___init__) (defBody s_Family___init__) (defScope s_Family___init__) .none kV_Family___init__ dc_Family___init__ pm_Family___init__ an_Family___init__ cd_Family___init__ ct_Family___init__), sl_Family___init__⟩)
    (l_Family_of : K.lookup g_Family_of = some ⟨oc_Family_of, od_Family_of, .func (PySem.W.fnOf "of" "Family.of" (defArgs s_Family_of) (defBody s_Family_of) (defScope s_Family_of) .none kV_Family_of dc_Family_of pm_Family_of an_Family_of cd_Family_of ct_Family_of), sl_Family_of⟩)
    (l_Family___len__ : K.lookup g_Family___len__ = some ⟨oc_Family___len__, od_Family___len__, .func (PySem.W.fnOf "__len__" "Family.__len__" (defArgs s_Family___len__) (defBody s_Family___len__) (defScope s_Family___len__) .none kV_Family___len__ dc_Family___len__ pm_Family___len__ an_Family___len__ cd_Family___len__ ct_Family___len__), sl_Family___len__⟩)
    (l_Family___bool__ : K.lookup g_Family___bool__ = some ⟨oc_Family___bool__, od_Family___bool__, .func (PySem.W.fnOf "__bool__" "Family.__bool__" (defArgs s_Family___bool__) (defBody s_Family___bool__) (defScope s_Family___bool__) .none kV_Family___bool__ dc_Family___bool__ pm_Family___bool__ an_Family___bool__ cd_Family___bool__ ct_Family___bool__), sl_Family___bool__⟩)
    (l_Family___contains__ : K.lookup g_Family___contains__ = some ⟨oc_Family___contains__, od_Family___contains__, .func (PySem.W.fnOf "__contains__" "Family.__contains__" (defArgs s_Family___contains__) (defBody s_Family___contains__) (defScope s_Family___contains__) .none kV_Family___contains__ dc_Family___contains__ pm_Family___contains__ an_Family___contains__ cd_Family___contains__ ct_Family___contains__), sl_Family___contains__⟩)
    (l_Family___eq__ : K.lookup g_Family___eq__ = some ⟨oc_Family___eq__, od_Family___eq__, .func (PySem.W.fnOf "__eq__" "Family.__eq__" (defArgs s_Family___eq__) (defBody s_Family___eq__) (defScope s_Family___eq__) .none kV_Family___eq__ dc_Family___eq__ pm_Family___eq__ an_Family___eq__ cd_Family___eq__ ct_Family___eq__), sl_Family___eq__⟩)
    (l_Family___repr__ : K.lookup g_Family___repr__ = some ⟨oc_Family___repr__, od_Family___repr__, .func (PySem.W.fnOf "__repr__" "Family.__repr__" (defArgs s_Family___repr__) (defBody s_Family___repr__) (defScope s_Family___repr__) .none kV_Family___repr__ dc_Family___repr__ pm_Family___repr__ an_Family___repr__ cd_Family___repr__ ct_Family___repr__), sl_Family___repr__⟩)
    (l__law_take : K.lookup g__law_take = some ⟨oc__law_take, od__law_take, .func (PySem.W.fnOf "_law_take" "_law_take" (defArgs s_law_take) (defBody s_law_take) (defScope s_law_take) .none kV__law_take dc__law_take pm__law_take an__law_take cd__law_take ct__law_take), sl__law_take⟩)
    (l__law_bag : K.lookup g__law_bag = some ⟨oc__law_bag, od__law_bag, .func (PySem.W.fnOf "_law_bag" "_law_bag" (defArgs s_law_bag) (defBody s_law_bag) (defScope s_law_bag) .none kV__law_bag dc__law_bag pm__law_bag an__law_bag cd__law_bag ct__law_bag), sl__law_bag⟩)
    (l__law_of : K.lookup g__law_of = some ⟨oc__law_of, od__law_of, .func (PySem.W.fnOf "_law_of" "_law_of" (defArgs s_law_of) (defBody s_law_of) (defScope s_law_of) .none kV__law_of dc__law_of pm__law_of an__law_of cd__law_of ct__law_of), sl__law_of⟩)
    (l__law_licences : K.lookup g__law_licences = some ⟨oc__law_licences, od__law_licences, .func (PySem.W.fnOf "_law_licences" "_law_licences" (defArgs s_law_licences) (defBody s_law_licences) (defScope s_law_licences) .none kV__law_licences dc__law_licences pm__law_licences an__law_licences cd__law_licences ct__law_licences), sl__law_licences⟩)
    (l__law_some : K.lookup g__law_some = some ⟨oc__law_some, od__law_some, .func (PySem.W.fnOf "_law_some" "_law_some" (defArgs s_law_some) (defBody s_law_some) (defScope s_law_some) .none kV__law_some dc__law_some pm__law_some an__law_some cd__law_some ct__law_some), sl__law_some⟩)
    (l__law_sorted : K.lookup g__law_sorted = some ⟨oc__law_sorted, od__law_sorted, .func (PySem.W.fnOf "_law_sorted" "_law_sorted" (defArgs s_law_sorted) (defBody s_law_sorted) (defScope s_law_sorted) .none kV__law_sorted dc__law_sorted pm__law_sorted an__law_sorted cd__law_sorted ct__law_sorted), sl__law_sorted⟩)
    (l__law_refused : K.lookup g__law_refused = some ⟨oc__law_refused, od__law_refused, .func (PySem.W.fnOf "_law_refused" "_law_refused" (defArgs s_law_refused) (defBody s_law_refused) (defScope s_law_refused) .none kV__law_refused dc__law_refused pm__law_refused an__law_refused cd__law_refused ct__law_refused), sl__law_refused⟩)
    (l__law_one_refused : K.lookup g__law_one_refused = some ⟨oc__law_one_refused, od__law_one_refused, .func (PySem.W.fnOf "_law_one_refused" "_law_one_refused" (defArgs s_law_one_refused) (defBody s_law_one_refused) (defScope s_law_one_refused) .none kV__law_one_refused dc__law_one_refused pm__law_one_refused an__law_one_refused cd__law_one_refused ct__law_one_refused), sl__law_one_refused⟩)
    (l__law_family_right : K.lookup g__law_family_right = some ⟨oc__law_family_right, od__law_family_right, .func (PySem.W.fnOf "_law_family_right" "_law_family_right" (defArgs s_law_family_right) (defBody s_law_family_right) (defScope s_law_family_right) .none kV__law_family_right dc__law_family_right pm__law_family_right an__law_family_right cd__law_family_right ct__law_family_right), sl__law_family_right⟩)
    (l_law : K.lookup g_law = some ⟨oc_law, od_law, .func (PySem.W.fnOf "law" "law" (defArgs s_law) (defBody s_law) (defScope s_law) .none kV_law dc_law pm_law an_law cd_law ct_law), sl_law⟩)
    (l_FamilyLICENCES : K.lookup v_FamilyLICENCES = some ⟨.type "tuple", od_FamilyLICENCES, .seq it_FamilyLICENCES n_FamilyLICENCES, sl_FamilyLICENCES⟩)
    (tyI_Family : PySem.W.typeIn K (.ref C_Family) = some (.type "type"))
    (hd_W : PySem.W.hasDictIn K C_W = true)
    (ty_W : PySem.W.typeIn K (.ref C_W) = some (.type "type"))
    (hd_HE : PySem.W.hasDictIn K C_HE = true)
    (ty_HE : PySem.W.typeIn K (.ref C_HE) = some (.type "type"))
    (sH_BadFamily : PySem.W.subIn K (.ref C_BadFamily) (.ref C_HE) = some true)
    (sV_BadFamily : PySem.W.subIn K (.ref C_BadFamily) (.type "ValueError") = some true)
    (c_own_copy : PySem.W.codeIn K cd_own_copy "own_copy" = true)
    (k_own_copy : PySem.W.keepIn K (.ref g_own_copy) = true)
    (q1_BadFamily : PySem.W.excInitIn K C_BadFamily veT "ValueError.__new__" = true)
    (q2_BadFamily : PySem.W.excOver K C_BadFamily veT = true)
    (sb_BadFamily : PySem.W.subIn K (.ref C_BadFamily) (.type "BaseException") = some true)
    (so_BadFamily : PySem.W.mroIn K C_BadFamily (.type "object") = some true)
    (ss_BadFamily : PySem.W.subIn K (.ref C_BadFamily) (.ref C_BadFamily) = some true)
    (hd_BadFamily : PySem.W.hasDictIn K C_BadFamily = true)
    (kC_BadFamily : PySem.W.keepIn K (.ref C_BadFamily) = true)
    (ty_BadFamily : PySem.W.typeIn K (.ref C_BadFamily) = some (.type "type"))
    (hn : PySem.W.specialIn K (.builtin "object.__class__") "__get__" = some (some (.builtin "getset_descriptor.__get__")))
    (ht : PySem.W.takesIn K (.builtin "object.__class__") = some true)
    (c_BadFamily___init__ : PySem.W.codeIn K cd_BadFamily___init__ "BadFamily.__init__" = true)
    (k_BadFamily___init__ : PySem.W.keepIn K (.ref g_BadFamily___init__) = true)
    (f_BadFamily___init__ : PySem.W.isFn K (.ref g_BadFamily___init__) = true)
    (pg_Family : PySem.W.plainGet K C_Family Str.empty = true)
    (hd_Family : PySem.W.hasDictIn K C_Family = true)
    (po_Family : PySem.W.plainOver K C_Family = true)
    (kC_Family : PySem.W.keepIn K (.ref C_Family) = true)
    (mk_Family : PySem.W.makesIn K C_Family = true)
    (rd_Family : PySem.W.readsIn K C_Family (.type "type") = true)
    (ga_Family : PySem.W.specialIn K (.ref C_Family) "__getattribute__" = some (some (.builtin "type.__getattribute__")))
    (ic_Family : PySem.W.isClsIn K C_Family = true)
    (c_Family___init__ : PySem.W.codeIn K cd_Family___init__ "Family.__init__" = true)
    (k_Family___init__ : PySem.W.keepIn K (.ref g_Family___init__) = true)
    (f_Family___init__ : PySem.W.isFn K (.ref g_Family___init__) = true)
    (c_Family_of : PySem.W.codeIn K cd_Family_of "Family.of" = true)
    (k_Family_of : PySem.W.keepIn K (.ref g_Family_of) = true)
    (fn_Family_of : PySem.W.fnIn K g_Family_of = true)
    (c_Family___len__ : PySem.W.codeIn K cd_Family___len__ "Family.__len__" = true)
    (k_Family___len__ : PySem.W.keepIn K (.ref g_Family___len__) = true)
    (f_Family___len__ : PySem.W.isFn K (.ref g_Family___len__) = true)
    (c_Family___bool__ : PySem.W.codeIn K cd_Family___bool__ "Family.__bool__" = true)
    (k_Family___bool__ : PySem.W.keepIn K (.ref g_Family___bool__) = true)
    (f_Family___bool__ : PySem.W.isFn K (.ref g_Family___bool__) = true)
    (c_Family___contains__ : PySem.W.codeIn K cd_Family___contains__ "Family.__contains__" = true)
    (k_Family___contains__ : PySem.W.keepIn K (.ref g_Family___contains__) = true)
    (f_Family___contains__ : PySem.W.isFn K (.ref g_Family___contains__) = true)
    (hm_Family : PySem.W.mroIn K C_Family (.type "object") = some true)
    (c_Family___eq__ : PySem.W.codeIn K cd_Family___eq__ "Family.__eq__" = true)
    (k_Family___eq__ : PySem.W.keepIn K (.ref g_Family___eq__) = true)
    (f_Family___eq__ : PySem.W.isFn K (.ref g_Family___eq__) = true)
    (c_Family___repr__ : PySem.W.codeIn K cd_Family___repr__ "Family.__repr__" = true)
    (k_Family___repr__ : PySem.W.keepIn K (.ref g_Family___repr__) = true)
    (f_Family___repr__ : PySem.W.isFn K (.ref g_Family___repr__) = true)
    (c__law_take : PySem.W.codeIn K cd__law_take "_law_take" = true)
    (k__law_take : PySem.W.keepIn K (.ref g__law_take) = true)
    (c__law_bag : PySem.W.codeIn K cd__law_bag "_law_bag" = true)
    (k__law_bag : PySem.W.keepIn K (.ref g__law_bag) = true)
    (c__law_of : PySem.W.codeIn K cd__law_of "_law_of" = true)
    (k__law_of : PySem.W.keepIn K (.ref g__law_of) = true)
    (c__law_licences : PySem.W.codeIn K cd__law_licences "_law_licences" = true)
    (k__law_licences : PySem.W.keepIn K (.ref g__law_licences) = true)
    (c__law_some : PySem.W.codeIn K cd__law_some "_law_some" = true)
    (k__law_some : PySem.W.keepIn K (.ref g__law_some) = true)
    (c__law_sorted : PySem.W.codeIn K cd__law_sorted "_law_sorted" = true)
    (k__law_sorted : PySem.W.keepIn K (.ref g__law_sorted) = true)
    (c__law_refused : PySem.W.codeIn K cd__law_refused "_law_refused" = true)
    (k__law_refused : PySem.W.keepIn K (.ref g__law_refused) = true)
    (c__law_one_refused : PySem.W.codeIn K cd__law_one_refused "_law_one_refused" = true)
    (k__law_one_refused : PySem.W.keepIn K (.ref g__law_one_refused) = true)
    (c__law_family_right : PySem.W.codeIn K cd__law_family_right "_law_family_right" = true)
    (k__law_family_right : PySem.W.keepIn K (.ref g__law_family_right) = true)
    (c_law : PySem.W.codeIn K cd_law "law" = true)
    (k_law : PySem.W.keepIn K (.ref g_law) = true)
    (o_FamilyLICENCES : strsIn it_FamilyLICENCES.toList lic = true)
    : ∃ fd : FuncData, (∀ (s : Shared) (v : Value), BindsTo s fd ⟨[v], []⟩ [("script", v)]) ∧ ∀ base : Heap, K.In base → base.Ns mainGlobals mg → FnOk l.prog w K mg base CX0 9 fa fd ["script"] (spLaw K) := by
  have e := hfa.symm.trans (PySem.W.mg_of X G a_law)
  cases e
  have T : Cst K mg := ⟨⟨PySem.W.mg_none_of X G z_isinstance, PySem.W.mg_none_of X G z_list, PySem.W.mg_none_of X G z_tuple, PySem.W.mg_none_of X G z_int, PySem.W.mg_none_of X G z_str, PySem.W.mg_none_of X G z_bool, PySem.W.mg_none_of X G z_len, PySem.W.mg_none_of X G z_abs, PySem.W.mg_none_of X G z_max, PySem.W.mg_none_of X G z_min, PySem.W.mg_none_of X G z_range, PySem.W.mg_none_of X G z_enumerate, PySem.W.mg_none_of X G z_all, PySem.W.mg_none_of X G z_ValueError, PySem.W.mg_none_of X G z_LookupError, PySem.W.mg_none_of X G z_KeyError, PySem.W.mg_none_of X G z_IndexError, PySem.W.mg_none_of X G z_repr⟩⟩
  refine ⟨PySem.W.fnOf "law" "law" (defArgs s_law) (defBody s_law) (defScope s_law) .none kV_law dc_law pm_law an_law cd_law ct_law, fun s v => .of_eq rfl, fun base _ _ => ?_⟩
  have U_own_copy := fun_mk (st := s_own_copy) l_own_copy c_own_copy k_own_copy
  have Z1 : Ok l.prog w K mg base 1 "own_copy" ["thing"] spOwnS := ⟨_, _, (ok_own_copy0 U_own_copy T), PySem.W.mg_of X G a_own_copy, k_own_copy, U_own_copy.binds (ps := ["thing"]) (fun _ _ _ _ _ _ us hl => match us, hl with | [_], _ => rfl)⟩
  have Z2 : Ok l.prog w K mg base 2 "own_copy" ["thing"] spOwn := ⟨_, _, (ok_own_copy U_own_copy T Z1), PySem.W.mg_of X G a_own_copy, k_own_copy, U_own_copy.binds (ps := ["thing"]) (fun _ _ _ _ _ _ us hl => match us, hl with | [_], _ => rfl)⟩
  have x_BadFamily : XCls K C_BadFamily := ⟨⟨_, _, _, _, PySem.F.excBase_ValueError, PySem.F.store_ValueError, q1_BadFamily, q2_BadFamily⟩, sa_BadFamily, ⟨hg_BadFamily, hk_BadFamily, sb_BadFamily, hd_BadFamily, ha_BadFamily, hn, ht, so_BadFamily⟩, kC_BadFamily⟩
  have cc_BadFamily : CatchC K mg "BadFamily" C_BadFamily := ⟨PySem.W.mg_of X G a_BadFamily, PySem.W.exm_ref sb_BadFamily hd_BadFamily ty_BadFamily ss_BadFamily⟩
  have U_BadFamily___init__ := fun_mk (st := s_BadFamily___init__) l_BadFamily___init__ c_BadFamily___init__ k_BadFamily___init__
  have Z3 : OkC l.prog w K mg base 3 "BadFamily" C_BadFamily ["self", "word"] (spErrO C_BadFamily "word") := ⟨x_BadFamily, PySem.W.mg_of X G a_BadFamily, _, _, (ok_BadFamily U_BadFamily___init__ x_BadFamily na_BadFamily_word Z2), i_BadFamily___init__, f_BadFamily___init__, U_BadFamily___init__.binds (ps := ["self", "word"]) (fun _ _ _ _ _ _ us hl => match us, hl with | [_, _], _ => rfl)⟩
  have cl_Family : Cls K C_Family := ⟨pg_Family, hd_Family, po_Family, sa_Family⟩
  have hC_Family : FamC K C_Family := ⟨cl_Family, nA_Family_0, _, v_FamilyLICENCES, _, ⟨rd_Family, ga_Family⟩, ⟨fc_Family_LICENCES, rfl⟩, (tupk_of l_FamilyLICENCES o_FamilyLICENCES (by decide +kernel))⟩
  have U_Family___init__ := fun_mk (st := s_Family___init__) l_Family___init__ c_Family___init__ k_Family___init__
  have Z4 : OkIX l.prog w K mg base 5 "Family" C_Family ["self", "words"] (spFamX K C_Family C_BadFamily) := ⟨PySem.W.mg_of X G a_Family, _, _, (ok_Family U_Family___init__ T hC_Family (PySem.W.mg_of X G a_Family) Z3 ty_BadFamily), ⟨mk_Family, i_Family___init__, f_Family___init__, kC_Family⟩, U_Family___init__.binds (ps := ["self", "words"]) (fun _ _ _ _ _ _ us hl => match us, hl with | [_, _], _ => rfl)⟩
  have U_Family_of := fun_mk (st := s_Family_of) l_Family_of c_Family_of k_Family_of
  have Z4S : OkCS (L2.CX l.prog w) l.prog w K mg base 7 C_Family "of" (spOfS K C_Family C_BadFamily) := ⟨p_Family_of, _, _, ok_of l_Family_of c_Family_of Z4, ⟨rd_Family, ga_Family⟩, ⟨fc_Family_of, ⟨rs_Family_of, rc_Family_of⟩, fn_Family_of⟩⟩
  have U_Family___len__ := fun_mk (st := s_Family___len__) l_Family___len__ c_Family___len__ k_Family___len__
  have Z5 : OkM CX0 l.prog w K mg base 1 C_Family "__len__" ["self"] (spLenF K C_Family) := ⟨_, _, (ok_len U_Family___len__ T hC_Family), ⟨m_Family___len__, f_Family___len__, k_Family___len__⟩, U_Family___len__.binds (ps := ["self"]) (fun _ _ _ _ _ _ us hl => match us, hl with | [_], _ => rfl)⟩
  have U_Family___bool__ := fun_mk (st := s_Family___bool__) l_Family___bool__ c_Family___bool__ k_Family___bool__
  have Z6 : OkM CX0 l.prog w K mg base 3 C_Family "__bool__" ["self"] (spBoolF K C_Family) := ⟨_, _, (ok_bool U_Family___bool__ T hC_Family), ⟨m_Family___bool__, f_Family___bool__, k_Family___bool__⟩, U_Family___bool__.binds (ps := ["self"]) (fun _ _ _ _ _ _ us hl => match us, hl with | [_], _ => rfl)⟩
  have U_Family___contains__ := fun_mk (st := s_Family___contains__) l_Family___contains__ c_Family___contains__ k_Family___contains__
  have Z7 : OkM CX0 l.prog w K mg base 1 C_Family "__contains__" ["self", "x"] (spHasF K C_Family) := ⟨_, _, (ok_contains U_Family___contains__ T hC_Family hd_W ty_W (PySem.W.mg_of X G a_W)), ⟨m_Family___contains__, f_Family___contains__, k_Family___contains__⟩, U_Family___contains__.binds (ps := ["self", "x"]) (fun _ _ _ _ _ _ us hl => match us, hl with | [_, _], _ => rfl)⟩
  have U_Family___eq__ := fun_mk (st := s_Family___eq__) l_Family___eq__ c_Family___eq__ k_Family___eq__
  have Z8 : OkM CX0 l.prog w K mg base 1 C_Family "__eq__" ["self", "other"] (spEqF K C_Family) := ⟨_, _, (ok_eq U_Family___eq__ T hC_Family ⟨haI_Family, hn, ht, hm_Family⟩ hd_Family tyI_Family (PySem.W.mg_of X G a_Family)), ⟨m_Family___eq__, f_Family___eq__, k_Family___eq__⟩, U_Family___eq__.binds (ps := ["self", "other"]) (fun _ _ _ _ _ _ us hl => match us, hl with | [_, _], _ => rfl)⟩
  have U_Family___repr__ := fun_mk (st := s_Family___repr__) l_Family___repr__ c_Family___repr__ k_Family___repr__
  have Z9 : OkM CX0 l.prog w K mg base 1 C_Family "__repr__" ["self"] (spRepr K C_Family) := ⟨_, _, (ok_repr U_Family___repr__ T hC_Family), ⟨m_Family___repr__, f_Family___repr__, k_Family___repr__⟩, U_Family___repr__.binds (ps := ["self"]) (fun _ _ _ _ _ _ us hl => match us, hl with | [_], _ => rfl)⟩
  have U__law_take := fun_mk (st := s_law_take) l__law_take c__law_take k__law_take
  have Z10 : Ok l.prog w K mg base 1 "_law_take" ["bag", "many"] spTake := ⟨_, _, (ok_law_take U__law_take T.toTxt), PySem.W.mg_of X G a__law_take, k__law_take, U__law_take.binds (ps := ["bag", "many"]) (fun _ _ _ _ _ _ us hl => match us, hl with | [_, _], _ => rfl)⟩
  have U__law_bag := fun_mk (st := s_law_bag) l__law_bag c__law_bag k__law_bag
  have Z11 : Ok l.prog w K mg base 1 "_law_bag" ["script", "at"] (spBag K) := ⟨_, _, (ok_law_bag U__law_bag T.toTxt), PySem.W.mg_of X G a__law_bag, k__law_bag, U__law_bag.binds (ps := ["script", "at"]) (fun _ _ _ _ _ _ us hl => match us, hl with | [_, _], _ => rfl)⟩
  have U__law_of := fun_mk (st := s_law_of) l__law_of c__law_of k__law_of
  have Z12 : Ok l.prog w K mg base 2 "_law_of" ["bag", "some"] spOf := ⟨_, _, (ok_law_of U__law_of T Z10), PySem.W.mg_of X G a__law_of, k__law_of, U__law_of.binds (ps := ["bag", "some"]) (fun _ _ _ _ _ _ us hl => match us, hl with | [_, _], _ => rfl)⟩
  have U__law_licences := fun_mk (st := s_law_licences) l__law_licences c__law_licences k__law_licences
  have Z13 : Ok l.prog w K mg base 1 "_law_licences" [] spLics := ⟨_, _, (ok_law_licences U__law_licences T), PySem.W.mg_of X G a__law_licences, k__law_licences, U__law_licences.binds (ps := []) (fun _ _ _ _ _ _ us hl => match us, hl with | [], _ => rfl)⟩
  have U__law_some := fun_mk (st := s_law_some) l__law_some c__law_some k__law_some
  have Z14 : Ok l.prog w K mg base 3 "_law_some" ["bag"] spSome := ⟨_, _, (ok_law_some U__law_some T Z10 Z12 Z13), PySem.W.mg_of X G a__law_some, k__law_some, U__law_some.binds (ps := ["bag"]) (fun _ _ _ _ _ _ us hl => match us, hl with | [_], _ => rfl)⟩
  have U__law_sorted := fun_mk (st := s_law_sorted) l__law_sorted c__law_sorted k__law_sorted
  have Z15 : Ok l.prog w K mg base 2 "_law_sorted" ["words"] (spSorted K) := ⟨_, _, (ok_law_sorted U__law_sorted T Z13), PySem.W.mg_of X G a__law_sorted, k__law_sorted, U__law_sorted.binds (ps := ["words"]) (fun _ _ _ _ _ _ us hl => match us, hl with | [_], _ => rfl)⟩
  have U__law_refused := fun_mk (st := s_law_refused) l__law_refused c__law_refused k__law_refused
  have Z16 : Ok l.prog w K mg base 7 "_law_refused" ["words"] (spRef K) := ⟨_, _, (ok_law_refused U__law_refused T cc_BadFamily x_BadFamily na_BadFamily_word (PySem.W.mg_of X G a_HE) ⟨kit_sub hd_HE ty_HE sH_BadFamily (fun _ => rfl), kit_subT (by decide +kernel) sV_BadFamily⟩ Z4), PySem.W.mg_of X G a__law_refused, k__law_refused, U__law_refused.binds (ps := ["words"]) (fun _ _ _ _ _ _ us hl => match us, hl with | [_], _ => rfl)⟩
  have U__law_one_refused := fun_mk (st := s_law_one_refused) l__law_one_refused c__law_one_refused k__law_one_refused
  have Z17 : Ok l.prog w K mg base 8 "_law_one_refused" ["one", "other"] spOneRef := ⟨_, _, (ok_law_one_refused U__law_one_refused T cc_BadFamily x_BadFamily na_BadFamily_word (PySem.W.mg_of X G a_Family) Z4S), PySem.W.mg_of X G a__law_one_refused, k__law_one_refused, U__law_one_refused.binds (ps := ["one", "other"]) (fun _ _ _ _ _ _ us hl => match us, hl with | [_, _], _ => rfl)⟩
  have U__law_family_right := fun_mk (st := s_law_family_right) l__law_family_right c__law_family_right k__law_family_right
  have Z18 : Ok l.prog w K mg base 6 "_law_family_right" ["family", "words"] (spRight K C_Family) := ⟨_, _, (ok_law_family_right U__law_family_right T hC_Family Z5 Z6 Z9 Z7 Z13 Z15), PySem.W.mg_of X G a__law_family_right, k__law_family_right, U__law_family_right.binds (ps := ["family", "words"]) (fun _ _ _ _ _ _ us hl => match us, hl with | [_, _], _ => rfl)⟩
  have U_law := fun_mk (st := s_law) l_law c_law k_law
  exact ok_law U_law T hC_Family (PySem.W.mg_of X G a_Family) ⟨ne_Family, hm_Family⟩ Z4 Z4S Z8 Z11 Z10 Z12 Z13 Z14 Z16 Z17 Z18
theorem walk {l : PySem.W.OpenLaw} {q : Program} {loose : List Str} {XP : (Str → Option Value) → Heap → Prop} {YP : World → Heap → Prop} {d : DefRec} {K : Params → Fg} (hn : l.most = some 63) (hdf : d.params.defaults = [])
    (hY : ∀ (w : World) (h : Heap), YP w h → (K w.params).In h)
    (F : ∀ (w : World) (mg : Str → Option Value) (fa : Addr) (h : Heap), (K w.params).In h → h.Ns mainGlobals mg → mg d.name = some (.ref fa) →
      ∃ fd : FuncData, (∀ (s : Shared) (u : Value), BindsTo s fd ⟨[u], []⟩ [("script", u)]) ∧ ∀ base : Heap, (K w.params).In base → base.Ns mainGlobals mg → FnOk l.prog w (K w.params) mg base CX0 9 fa fd ["script"] (spLaw (K w.params))) :
    PySem.W.WalkO q loose XP YP l.row.toRowW d [] (fun f vs => PySem.call f vs) :=
  L2.walk_of (n := 63) (k := 9) (x := "script") (CX := fun _ => CX0) (sp := fun w => spLaw (K w.params)) hn (by decide) hdf ⟨rfl, by decide, by decide⟩ hY F
    (fun _ _ a ns hl _ hS => ⟨a, ns, rfl, hS, hl, fun _ => rfl⟩) fun _ _ _ _ _ z => z
end K86

open PySem PySem.W PyProof.Rows in
set_option maxRecDepth 100000 in
set_option maxHeartbeats 0 in
theorem PySem.Challenge.cw_heirsback_k86_families_made_holds : PySem.Challenge.rw_heirsback_k86_families_made.Holds := by
  w_on; o_law; k_head; (case hw => w_witness2)
  k_fill
  refine K86.walk (l := PySem.Challenge.rw_heirsback_k86_families_made) rfl rfl (fun w h Y => PySem.W.kIn_of Y) ?F
  case F =>
    intro w mg fa h KX G hmg
    refine' K86.all_mk KX G hmg ?a_W ?a_HE ?a_own_copy ?a_BadFamily ?a_Family ?a__law_take ?a__law_bag ?a__law_of ?a__law_licences ?a__law_some ?a__law_sorted ?a__law_refused ?a__law_one_refused ?a__law_family_right ?a_law ?z_isinstance ?z_list ?z_tuple ?z_int ?z_str ?z_bool ?z_len ?z_abs ?z_max ?z_min ?z_range ?z_enumerate ?z_all ?z_ValueError ?z_LookupError ?z_KeyError ?z_IndexError ?z_repr ?sa_BadFamily ?hg_BadFamily ?hk_BadFamily ?ha_BadFamily ?na_BadFamily_word ?i_BadFamily___init__ ?sa_Family ?nA_Family_0 ?i_Family___init__ ?fc_Family_of ?m_Family___len__ ?m_Family___bool__ ?m_Family___contains__ ?haI_Family ?m_Family___eq__ ?m_Family___repr__ ?ne_Family ?fc_Family_LICENCES ?rc_Family_of ?l_own_copy ?l_BadFamily___init__ ?l_Family___init__ ?l_Family_of ?l_Family___len__ ?l_Family___bool__ ?l_Family___contains__ ?l_Family___eq__ ?l_Family___repr__ ?l__law_take ?l__law_bag ?l__law_of ?l__law_licences ?l__law_some ?l__law_sorted ?l__law_refused ?l__law_one_refused ?l__law_family_right ?l_law ?l_FamilyLICENCES ?tyI_Family ?hd_W ?ty_W ?hd_HE ?ty_HE ?sH_BadFamily ?sV_BadFamily ?c_own_copy ?k_own_copy ?q1_BadFamily ?q2_BadFamily ?sb_BadFamily ?so_BadFamily ?ss_BadFamily ?hd_BadFamily ?kC_BadFamily ?ty_BadFamily ?hn ?ht ?c_BadFamily___init__ ?k_BadFamily___init__ ?f_BadFamily___init__ ?pg_Family ?hd_Family ?po_Family ?kC_Family ?mk_Family ?rd_Family ?ga_Family ?ic_Family ?c_Family___init__ ?k_Family___init__ ?f_Family___init__ ?c_Family_of ?k_Family_of ?fn_Family_of ?c_Family___len__ ?k_Family___len__ ?f_Family___len__ ?c_Family___bool__ ?k_Family___bool__ ?f_Family___bool__ ?c_Family___contains__ ?k_Family___contains__ ?f_Family___contains__ ?hm_Family ?c_Family___eq__ ?k_Family___eq__ ?f_Family___eq__ ?c_Family___repr__ ?k_Family___repr__ ?f_Family___repr__ ?c__law_take ?k__law_take ?c__law_bag ?k__law_bag ?c__law_of ?k__law_of ?c__law_licences ?k__law_licences ?c__law_some ?k__law_some ?c__law_sorted ?k__law_sorted ?c__law_refused ?k__law_refused ?c__law_one_refused ?k__law_one_refused ?c__law_family_right ?k__law_family_right ?c_law ?k_law ?o_FamilyLICENCES
    (case a_W => k_is)
    (case a_HE => k_is)
    (case a_own_copy => k_is)
    (case a_BadFamily => k_is)
    (case a_Family => k_is)
    (case a__law_take => k_is)
    (case a__law_bag => k_is)
    (case a__law_of => k_is)
    (case a__law_licences => k_is)
    (case a__law_some => k_is)
    (case a__law_sorted => k_is)
    (case a__law_refused => k_is)
    (case a__law_one_refused => k_is)
    (case a__law_family_right => k_is)
    (case a_law => k_is)
    (case z_isinstance => k_is)
    (case z_list => k_is)
    (case z_tuple => k_is)
    (case z_int => k_is)
    (case z_str => k_is)
    (case z_bool => k_is)
    (case z_len => k_is)
    (case z_abs => k_is)
    (case z_max => k_is)
    (case z_min => k_is)
    (case z_range => k_is)
    (case z_enumerate => k_is)
    (case z_all => k_is)
    (case z_ValueError => k_is)
    (case z_LookupError => k_is)
    (case z_KeyError => k_is)
    (case z_IndexError => k_is)
    (case z_repr => k_is)
    (case sa_BadFamily => k_is)
    (case hg_BadFamily => k_is)
    (case hk_BadFamily => k_is)
    (case ha_BadFamily => k_is)
    (case na_BadFamily_word => k_is)
    (case i_BadFamily___init__ => k_is)
    (case sa_Family => k_is)
    (case nA_Family_0 => k_is)
    (case i_Family___init__ => k_is)
    (case fc_Family_of => k_is)
    (case m_Family___len__ => k_is)
    (case m_Family___bool__ => k_is)
    (case m_Family___contains__ => k_is)
    (case haI_Family => k_is)
    (case m_Family___eq__ => k_is)
    (case m_Family___repr__ => k_is)
    (case ne_Family => k_is)
    (case fc_Family_LICENCES => k_is)
    (case rc_Family_of => k_is)
    (case l_own_copy => k_is)
    (case l_BadFamily___init__ => k_is)
    (case l_Family___init__ => k_is)
    (case l_Family_of => k_is)
    (case l_Family___len__ => k_is)
    (case l_Family___bool__ => k_is)
    (case l_Family___contains__ => k_is)
    (case l_Family___eq__ => k_is)
    (case l_Family___repr__ => k_is)
    (case l__law_take => k_is)
    (case l__law_bag => k_is)
    (case l__law_of => k_is)
    (case l__law_licences => k_is)
    (case l__law_some => k_is)
    (case l__law_sorted => k_is)
    (case l__law_refused => k_is)
    (case l__law_one_refused => k_is)
    (case l__law_family_right => k_is)
    (case l_law => k_is)
    (case l_FamilyLICENCES => k_is)
    (case tyI_Family => k_is)
    (case hd_W => k_is)
    (case ty_W => k_is)
    (case hd_HE => k_is)
    (case ty_HE => k_is)
    (case sH_BadFamily => k_is)
    (case sV_BadFamily => k_is)
    (case c_own_copy => k_is)
    (case k_own_copy => k_is)
    (case q1_BadFamily => kx_is)
    (case q2_BadFamily => kx_is)
    (case sb_BadFamily => k_is)
    (case so_BadFamily => k_is)
    (case ss_BadFamily => k_is)
    (case hd_BadFamily => k_is)
    (case kC_BadFamily => k_is)
    (case ty_BadFamily => k_is)
    (case hn => k_is)
    (case ht => k_is)
    (case c_BadFamily___init__ => k_is)
    (case k_BadFamily___init__ => k_is)
    (case f_BadFamily___init__ => k_is)
    (case pg_Family => k_is)
    (case hd_Family => k_is)
    (case po_Family => k_is)
    (case kC_Family => k_is)
    (case mk_Family => k_is)
    (case rd_Family => k_is)
    (case ga_Family => k_is)
    (case ic_Family => k_is)
    (case c_Family___init__ => k_is)
    (case k_Family___init__ => k_is)
    (case f_Family___init__ => k_is)
    (case c_Family_of => k_is)
    (case k_Family_of => k_is)
    (case fn_Family_of => k_is)
    (case c_Family___len__ => k_is)
    (case k_Family___len__ => k_is)
    (case f_Family___len__ => k_is)
    (case c_Family___bool__ => k_is)
    (case k_Family___bool__ => k_is)
    (case f_Family___bool__ => k_is)
    (case c_Family___contains__ => k_is)
    (case k_Family___contains__ => k_is)
    (case f_Family___contains__ => k_is)
    (case hm_Family => k_is)
    (case c_Family___eq__ => k_is)
    (case k_Family___eq__ => k_is)
    (case f_Family___eq__ => k_is)
    (case c_Family___repr__ => k_is)
    (case k_Family___repr__ => k_is)
    (case f_Family___repr__ => k_is)
    (case c__law_take => k_is)
    (case k__law_take => k_is)
    (case c__law_bag => k_is)
    (case k__law_bag => k_is)
    (case c__law_of => k_is)
    (case k__law_of => k_is)
    (case c__law_licences => k_is)
    (case k__law_licences => k_is)
    (case c__law_some => k_is)
    (case k__law_some => k_is)
    (case c__law_sorted => k_is)
    (case k__law_sorted => k_is)
    (case c__law_refused => k_is)
    (case k__law_refused => k_is)
    (case c__law_one_refused => k_is)
    (case k__law_one_refused => k_is)
    (case c__law_family_right => k_is)
    (case k__law_family_right => k_is)
    (case c_law => k_is)
    (case k_law => k_is)
    (case o_FamilyLICENCES => decide +kernel)
