import PyProof.Rows.All
import Wide.All
import OpenK.AllK
import Wide.FinOn
import HandS.ForMost
import HandS.Star
import HandS.Property
import HandS.ClsMeth
import HandS.SlotsOwn
import HandS.More
import HandS.IsInst
import HandS.Zip
import HandS.TupAny
import HandS.SetFor
import HandS.OwnEq
import HandS.Small
import HandS.Exc
import HandS.ExcOwn
import HandS.ExcValue
import HandS.ExcIs
import HandS.ExcField
import HandS.ExcInit
import HandS.Lambda
import PyProof.ReprNest
import PyProof.StrHeap
import HandS.WordsExc
import KE.KCallOwn
import PyProof.EqKinds
import PyProof.NeKinds
import HandS.EndOwn
import KE.KNest
import HandS.Nested
import HandS.MakeKwOnly
import PyProof.Conv_bool
import HandS.Walk
import HandS.StrMore
import HandS.Codes
import HandS.FStr
import PyProof.StrLawsRepr
import HandS.Style
import PyProof.ReprLen
import HandS.NoneIn
import PySem.Challenge.RW_nearestsays_k01_places_made
set_option Elab.async false
set_option maxRecDepth 100000
set_option maxHeartbeats 4000000
namespace Own
open PySem PySem.Spec PyProof.Rows L2
section
variable {X : Cx} {CX : CXT} {C g : Addr} {n : Nat} {sp : Sp} {E : XK}
theorem inst_of {pins : List (Addr × Obj)} {σ : L2.St} {H : Hp} {s : Shared} {a dx : Addr} {fs : List (Str × V)} (I : Inv X pins σ H s) (ea : H a = some (.ins C dx fs)) :
    ∃ od, PySem.W.InstAt s.heap a (PySem.W.instObj C dx) C (some od) := by
  obtain ⟨mA, O, _⟩ := ins_get I.hok ea
  obtain ⟨od, J, _⟩ := O.look
  exact ⟨od, J⟩
/-- a op b, both instances of C -/
theorem op_bin {op : Operator} (hc : PySem.W.selfFirst X.K C = true) (hs : PySem.W.findIn X.K (.ref C) (PySem.dunder op.info.2) = some (some (.ref g))) (hf : PySem.W.isFn X.K (.ref g) = true)
    (F : FnR X.prog X.w X.K X.mg X.base CX n g sp) (hr : Room n X.A) (hx : Passes CX X E) :
    OpR X (binaryOp op) (fun x y H Q => ∃ a b dx fs dy gs, x = .ref a ∧ y = .ref b ∧ H a = some (.ins C dx fs) ∧ H b = some (.ins C dy gs) ∧ sp [.ref a, .ref b] H Q E) := by
  intro pins s σ H x y v u Q I rx ry h
  obtain ⟨a, b, dx, fs, dy, gs, rfl, rfl, ha, hb, q⟩ := h
  cases (show v = Value.ref a from rx)
  cases (show u = Value.ref b from ry)
  obtain ⟨od, J⟩ := inst_of I ha
  obtain ⟨od', J'⟩ := inst_of I hb
  obtain ⟨m, hF⟩ := I.fr
  refine PySem.W.binop_K (op := op) hF I.ok.mod.kin J J'.type hc hs hf ?_
  refine wpAny_mono (wpAny_call (run_fnR (us := [.ref a, .ref b]) (vs := [.ref a, .ref b]) F hr hx I (.cons rfl (.cons rfl .nil)) q)) (fun w s' z => ?_) fun _ _ x => x
  obtain ⟨z', H', I', rz, qz⟩ := z
  exact SlX.cmpback rz ⟨z', H', I', rz, qz⟩
/-- the call of the def at g with values -/
theorem run_g {pins : List (Addr × Obj)} {σ : L2.St} {H : Hp} {s : Shared} {Q : VK} {us : List Value} {vs : List V} (F : FnR X.prog X.w X.K X.mg X.base CX n g sp) (hr : Room n X.A) (hx : Passes CX X E)
    (I : Inv X pins σ H s) (r : Vals vs us) (q : sp vs H Q E) : wpAny (model X.prog X.w) X.A (call (.ref g) us) (EP X pins σ Q) X.xe s :=
  wpAny_call (run_fnR F hr hx I r q)
theorem run_g1 {pins : List (Addr × Obj)} {σ : L2.St} {H : Hp} {s : Shared} {Q : VK} {us : List Value} {vs : List V} (F : FnR X.prog X.w X.K X.mg X.base CX n g sp) (hr : Room (n + 1) X.A) (hx : Passes CX X E)
    (I : Inv X pins σ H s) (r : Vals vs us) (q : sp vs H Q E) : wpAny (model X.prog X.w) X.A.in1 (call (.ref g) us) (EP X pins σ Q) X.xe s := by
  refine wpAny_call (codeAny_mono (F X.A.in1 X.stack s H us vs Q E hr.in1 I.env0.in1 r q) fun r s' hq => ?_)
  cases r with
  | error e => exact hx _ _ _ _ _ _ I hq
  | ok fl =>
    cases fl with
    | ret u => exact I.after hq
    | next => exact False.elim hq
    | brk => exact False.elim hq
    | cont => exact False.elim hq
/-- v in x, x an instance of C with an own __contains__ -/
def rIn (C : Addr) (sp : Sp) (E : XK) (neg : Bool) : R2 := fun x y H Q => ∃ b dx fs, y = .ref b ∧ H b = some (.ins C dx fs) ∧ sp [.ref b, x] H (fun z H' => ∃ k, z = .bl k ∧ Q (.bl (if neg then !k else k)) H') E
theorem op_inO (hs : PySem.W.findIn X.K (.ref C) "__contains__" = some (some (.ref g))) (hf : PySem.W.isFn X.K (.ref g) = true) (F : FnR X.prog X.w X.K X.mg X.base CX n g sp) (hr : Room n X.A) (hx : Passes CX X E) :
    OpR X (compareOp .In) (rIn C sp E false) := by
  intro pins s σ H x y v u Q I rx ry h
  obtain ⟨b, dx, fs, rfl, hb, q⟩ := h
  cases (show u = Value.ref b from ry)
  obtain ⟨od, J⟩ := inst_of I hb
  obtain ⟨m, hF⟩ := I.fr
  refine PySem.W.in_K hF I.ok.mod.kin J hs hf (wpAny_mono (run_g (us := [.ref b, v]) (vs := [.ref b, x]) F hr hx I (.cons rfl (.cons rx .nil)) q) (fun w s' z => ?_) fun _ _ x => x)
  obtain ⟨_, H', I', rz, k, rfl, qz⟩ := z
  cases (show w = Value.bool k from rz)
  exact wpAny_truthy_bool ⟨.bl k, H', I', rfl, qz⟩
theorem op_notInO (hs : PySem.W.findIn X.K (.ref C) "__contains__" = some (some (.ref g))) (hf : PySem.W.isFn X.K (.ref g) = true) (F : FnR X.prog X.w X.K X.mg X.base CX n g sp) (hr : Room n X.A) (hx : Passes CX X E) :
    OpR X (compareOp .NotIn) (rIn C sp E true) := by
  intro pins s σ H x y v u Q I rx ry h
  obtain ⟨b, dx, fs, rfl, hb, q⟩ := h
  cases (show u = Value.ref b from ry)
  obtain ⟨od, J⟩ := inst_of I hb
  obtain ⟨m, hF⟩ := I.fr
  refine PySem.W.notIn_K hF I.ok.mod.kin J hs hf (wpAny_mono (run_g (us := [.ref b, v]) (vs := [.ref b, x]) F hr hx I (.cons rfl (.cons rx .nil)) q) (fun w s' z => ?_) fun _ _ x => x)
  obtain ⟨_, H', I', rz, k, rfl, qz⟩ := z
  cases (show w = Value.bool k from rz)
  exact wpAny_truthy_bool ⟨.bl (!k), H', I', rfl, qz⟩
/-- len(x) -/
theorem call_lenO (hs : PySem.W.findIn X.K (.ref C) "__len__" = some (some (.ref g))) (hf : PySem.W.isFn X.K (.ref g) = true) (F : FnR X.prog X.w X.K X.mg X.base CX n g sp) (hr : Room (n + 1) X.A) (hx : Passes CX X E) :
    CallR X (.builtin "len") (fun xs H Q => ∃ b dx fs, xs = [.ref b] ∧ H b = some (.ins C dx fs) ∧ sp [.ref b] H (fun z H' => ∃ k : Int, z = .int k ∧ (0 ≤ k ∧ k < 2 ^ 63) ∧ Q (.int k) H') E) := by
  intro pins s σ H xs us Q I r h
  obtain ⟨b, dx, fs, rfl, hb, q⟩ := h
  obtain ⟨u, rfl, ru⟩ := vals1 r
  cases (show u = Value.ref b from ru)
  obtain ⟨od, J⟩ := inst_of I hb
  obtain ⟨m, hF⟩ := I.fr
  refine PySem.W.len_K hF I.ok.mod.kin J hs hf (wpAny_mono (run_g1 (us := [.ref b]) (vs := [.ref b]) F hr hx I (.cons rfl .nil) q) (fun w s' z => ?_) fun _ _ x => x)
  obtain ⟨_, H', I', rz, k, rfl, hk, qz⟩ := z
  obtain ⟨t, rfl⟩ := (show ∃ t, w = Value.int k t from rz)
  exact ⟨hk, .int k, H', I'.tok _, ⟨_, rfl⟩, qz⟩
/-- the truth of x by an own __bool__ -/
theorem tru_own (hs : PySem.W.findIn X.K (.ref C) "__bool__" = some (some (.ref g))) (hf : PySem.W.isFn X.K (.ref g) = true) (F : FnR X.prog X.w X.K X.mg X.base CX n g sp) (hr : Room n X.A) (hx : Passes CX X E) :
    TruR X (fun x H Q => ∃ b dx fs, x = .ref b ∧ H b = some (.ins C dx fs) ∧ sp [.ref b] H (fun z H' => ∃ k, z = .bl k ∧ Q k H') E) := by
  intro pins s σ H x v Q I rx h
  obtain ⟨b, dx, fs, rfl, hb, q⟩ := h
  cases (show v = Value.ref b from rx)
  obtain ⟨od, J⟩ := inst_of I hb
  obtain ⟨m, hF⟩ := I.fr
  refine PySem.W.truthy_K hF I.ok.mod.kin J hs hf (wpAny_mono (run_g (us := [.ref b]) (vs := [.ref b]) F hr hx I (.cons rfl .nil) q) (fun w s' z => ?_) fun _ _ x => x)
  obtain ⟨_, H', I', rz, k, rfl, qz⟩ := z
  cases (show w = Value.bool k from rz)
  exact ⟨H', I', qz⟩
theorem pt_tru {a : Expr} {ta : TE} {r : V → Hp → (Bool → Hp → Prop) → Prop} (ht : TruR X r) (ha : PE X a ta) (he : ∀ whole, isTrue a X.env whole = (do let v ← whole; standAt a.pos; holding [v] (truthy v)) := by intro _; rfl) :
    PT X a (fun σ H Q => ta σ H fun x H' => r x H' Q) := by
  refine ⟨fun pins s σ H Q I h => ?_⟩
  exact isTrue_plain (thn (ha.run pins s σ H _ I h) fun v s1 ⟨x, H1, I1, r1, q1⟩ => ht pins s1 σ H1 x v Q I1 r1 q1) (he _)
/-- x == y by an own __eq__ of x's class -/
theorem op_eqO (hs : PySem.W.findIn X.K (.ref C) "__eq__" = some (some (.ref g))) (hf : PySem.W.isFn X.K (.ref g) = true) (F : FnR X.prog X.w X.K X.mg X.base CX n g sp) (hr : Room n X.A) (hx : Passes CX X E) :
    OpR X (compareOp .Eq) (fun x y H Q => ∃ a b dx fs dy gs, x = .ref a ∧ y = .ref b ∧ H a = some (.ins C dx fs) ∧ H b = some (.ins C dy gs) ∧ sp [.ref a, .ref b] H Q E) := by
  intro pins s σ H x y v u Q I rx ry h
  obtain ⟨a, b, dx, fs, dy, gs, rfl, rfl, ha, hb, q⟩ := h
  cases (show v = Value.ref a from rx)
  cases (show u = Value.ref b from ry)
  obtain ⟨od, J⟩ := inst_of I ha
  obtain ⟨od', J'⟩ := inst_of I hb
  obtain ⟨m, hF⟩ := I.fr
  show wpAny _ _ (richCompare .Eq (.ref a) (.ref b)) _ _ s
  refine PySem.W.cmp_K (op := .Eq) (tb := .ref C) hr.units0 hF I.ok.mod.kin J J'.type (by unfold PySem.W.notFirst; simp) hs hf ?_
  refine wpAny_mono (run_g (us := [.ref a, .ref b]) (vs := [.ref a, .ref b]) F hr hx I (.cons rfl (.cons rfl .nil)) q) (fun w s' z => ?_) fun _ _ x => x
  obtain ⟨z', H', I', rz, qz⟩ := z
  exact SlX.cmpback rz ⟨z', H', I', rz, qz⟩
end
end Own

namespace Own
open PySem PySem.Spec PyProof.Rows L2
section
variable {prog : Program} {w : World} {A : Around} {E : Value → Shared → Prop} {s : Shared} {K : PySem.W.Frag} {x C g : Addr} {ox : Obj} {od : Option Obj} {b : Value}
theorem check_obj {M : Model} {id n : String} {rest : List Value} {Q : Unit → Shared → Prop} (X : K.In s.heap) (I : PySem.W.InstAt s.heap x ox C od) (hk : builtinKind id = some .slot) (hs : splitId id = some ("object", n))
    (ha : argsOk id ⟨.ref x :: rest, []⟩) (hsub : PySem.W.subIn K (.ref C) (.type "object") = some true) (hq : Q () s) : wpAny M A (checkBuiltinCall id ⟨.ref x :: rest, []⟩) Q E s := by
  simp only [checkBuiltinCall, hk, hs]
  refine wpAny_bind ?_
  unfold isInstance
  refine wpAny_bind (I.type.here ((PySem.W.looks_subIn X hsub).here ?_))
  cases hsig : Manifest.signature? id with
  | none => exact wpAny_pure hq
  | some sig =>
    simp only [argsOk, hsig] at ha
    have h2 : Bind.checkArgs id sig ⟨.ref x :: rest, []⟩ = pure () := ha
    show wpAny M A (Bind.checkArgs id sig ⟨.ref x :: rest, []⟩) Q E _
    rw [h2]; exact wpAny_pure hq
theorem ne_K {prog : Program} {w : World} {Q : Value → Shared → Prop} {tb : Value} (hu : A.units + 1 < cLine) (X : K.In s.heap) (I : PySem.W.InstAt s.heap x ox C od) (hb : PySem.W.Looks (model prog w) s.heap (typeOf b) tb) (hn : PySem.W.notFirst K C tb = true)
    (hne : PySem.W.findIn K (.ref C) "__ne__" = some (some (.builtin "object.__ne__"))) (hs : PySem.W.findIn K (.ref C) "__eq__" = some (some (.ref g))) (hf : PySem.W.isFn K (.ref g) = true)
    (hsub : PySem.W.subIn K (.ref C) (.type "object") = some true)
    (h : wpAny (model prog w) A.in1 (call (.ref g) [.ref x, b]) (fun v s' => ∃ k, v = Value.bool k ∧ Q (.bool (!k)) s') E s) : wpAny (model prog w) A (richCompare .NotEq (.ref x) b) Q E s := by
  have hu0 : A.units < cLine := Nat.lt_of_succ_lt hu
  have body2 : wpAny (model prog w) A (call (.builtin "object.__ne__") [.ref x, b]) (fun v s' => ∃ k, v = Value.bool k ∧ Q v s') E s := by
    refine wpAny_call (codeAny_call_builtin PySem.F.cmp_object.ne.plain PySem.F.cmpEntry_ne (check_obj X I PySem.F.cmpKind_ne PySem.F.cmpSplit_ne (PySem.F.cmpArgs_ne _ _) hsub ?_))
    show wpAny (model prog w) A.in1 (Builtin.«object.__ne__» ⟨[.ref x, b], []⟩) _ _ s
    unfold Builtin.«object.__ne__»
    refine wpAny_bind (m := slotArgs "__ne__" 1 _) (wpAny_pure ?_)
    refine wpAny_bind (wpAny_cRoomFor (by exact hu) ?_)
    refine wpAny_bind (m := callSpecialIfBound? (.ref x) (Str.ofString "__eq__") _) (PySem.W.ifBound_K X I hs hf (wpAny_mono h (fun r s' hr => ?_) fun _ _ y => y))
    obtain ⟨k, rfl, q⟩ := hr
    refine wpAny_bind (wpAny_truthy_bool ?_)
    exact wpAny_pure ⟨_, rfl, q⟩
  have one : wpAny (model prog w) A (tryCompare (.ref x) (Str.ofString "__ne__") b) (fun r s' => ∃ v, r = some v ∧ Q v s') E s := by
    unfold tryCompare
    refine wpAny_bind ?_
    simp only [callSpecialIfBound?, bindSpecialIfBound?]
    refine wpAny_holding (wpAny_bind (wpAny_bind (wpAny_bind (I.type.here ((PySem.W.looks_findIn X hne).here ?_)))))
    simp only [PySem.F.cmp_object.ne.bind]
    have fin : wpAny (model prog w) A (call (.builtin "object.__ne__") ([.ref x] ++ [b]) >>= fun v => pure (some v)) (fun r s' => wpAny (model prog w) A (match r with | some .notImplemented | none => pure none | some v => pure (some v)) (fun r s' => ∃ v, r = some v ∧ Q v s') E s') E s := by
      refine wpAny_bind (wpAny_mono body2 (fun v s' hv => wpAny_pure ?_) fun _ _ z => z)
      obtain ⟨k, rfl, hv⟩ := hv
      exact wpAny_pure ⟨_, rfl, hv⟩
    refine wpAny_bind (wpAny_askSetting (wpAny_ite ?_))
    split
    · exact wpAny_bind (wpAny_pure (wpAny_pure (by exact fin)))
    · exact wpAny_tryCatch (wpAny_bind (wpAny_pure (wpAny_pure (by exact fin))))
  unfold richCompare
  simp only [oneThing_ref]
  refine wpAny_holding (wpAny_bind (wpAny_cRoomFor hu0 ?_))
  refine wpAny_bind (I.type.here (wpAny_bind (hb.here ?_)))
  split
  · rename_i q
    have e : PySem.W.subIn K tb (.ref C) = some false := by
      rcases Bool.or_eq_true_iff.mp hn with e | e
      · rw [beq_iff_eq.mp e] at q; simp at q
      · exact beq_iff_eq.mp e
    refine wpAny_bind ((PySem.W.looks_subIn X e).here ?_)
    simp only [Bool.false_eq_true, if_false]
    refine wpAny_bind (wpAny_mono one (fun r s' z => ?_) fun _ _ e => e)
    obtain ⟨v, rfl, hq⟩ := z
    exact wpAny_pure hq
  · refine wpAny_bind (wpAny_pure ?_)
    simp only [Bool.false_eq_true, if_false]
    refine wpAny_bind (wpAny_mono one (fun r s' z => ?_) fun _ _ e => e)
    obtain ⟨v, rfl, hq⟩ := z
    exact wpAny_pure hq
theorem binop_S {b : Str} {tk : Tok} {Q : Value → Shared → Prop} (X : K.In s.heap) (I : PySem.W.InstAt s.heap x ox C od) (hc : PySem.W.selfFirst K C = true) 
    (hs : PySem.W.findIn K (.ref C) (PySem.dunder "add") = some (some (.ref g))) (hf : PySem.W.isFn K (.ref g) = true)
    (h : wpAny (model prog w) A (call (.ref g) [.ref x, .str b tk]) (PySem.W.CmpBack Q) E s) : wpAny (model prog w) A (binaryOp .Add (.ref x) (.str b tk)) Q E s := by
  obtain ⟨cd, hcd, hm⟩ := PySem.W.any_some hc
  obtain ⟨rest, hm⟩ : ∃ rest, cd.mro = .ref C :: rest := by
    cases q : cd.mro with
    | nil => rw [q] at hm; cases hm
    | cons a r => rw [q] at hm; exact ⟨r, by rw [List.head?_cons] at hm; cases (beq_iff_eq.mp hm); rfl⟩
  unfold binaryOp
  refine wpAny_holding (wpAny_bind ?_)
  unfold binaryOp1
  refine wpAny_bind (I.type.here (wpAny_bind (wpAny_pure (wpAny_bind ((PySem.W.fills_K X hcd hm hs).here ?_)))))
  have hne : (Value.ref C == Value.type "str") = false := rfl
  simp only [hne, Bool.false_eq_true, if_false]
  refine wpAny_bind (wpAny_of_eq (a := false) PySem.noFill_str_add ?_)
  simp only [Bool.and_false, Bool.false_eq_true, if_false, Bool.false_and]
  refine wpAny_bind (wpAny_pure ?_)
  simp only [Bool.false_eq_true, if_false]
  refine wpAny_bind (m := tryMethod (.ref x) _ (.str b tk)) ?_
  unfold tryMethod
  refine wpAny_bind (PySem.W.special_fn X I hs (beq_iff_eq.mp hf) (wpAny_mono h (fun v s' hv => ?_) fun _ _ e => e))
  cases v <;> first | exact hv.elim | exact wpAny_pure (wpAny_pure (wpAny_pure hv))
end
section
variable {X : Cx} {CX : CXT} {C g : Addr} {n : Nat} {sp : Sp} {E : XK}
/-- x != y by an own __eq__ of x's class, no own __ne__ -/
theorem op_neO (hne : PySem.W.findIn X.K (.ref C) "__ne__" = some (some (.builtin "object.__ne__"))) (hsub : PySem.W.subIn X.K (.ref C) (.type "object") = some true)
    (hs : PySem.W.findIn X.K (.ref C) "__eq__" = some (some (.ref g))) (hf : PySem.W.isFn X.K (.ref g) = true) (F : FnR X.prog X.w X.K X.mg X.base CX n g sp) (hr : Room (n + 1) X.A) (hx : Passes CX X E) :
    OpR X (compareOp .NotEq) (fun x y H Q => ∃ a b dx fs dy gs, x = .ref a ∧ y = .ref b ∧ H a = some (.ins C dx fs) ∧ H b = some (.ins C dy gs) ∧ sp [.ref a, .ref b] H (fun z H' => ∃ k, z = .bl k ∧ Q (.bl (!k)) H') E) := by
  intro pins s σ H x y v u Q I rx ry h
  obtain ⟨a, b, dx, fs, dy, gs, rfl, rfl, ha, hb, q⟩ := h
  cases (show v = Value.ref a from rx)
  cases (show u = Value.ref b from ry)
  obtain ⟨od, J⟩ := inst_of I ha
  obtain ⟨od', J'⟩ := inst_of I hb
  show wpAny _ _ (richCompare .NotEq (.ref a) (.ref b)) _ _ s
  refine ne_K (tb := .ref C) (hu_of hr) I.kIn J J'.type (by unfold PySem.W.notFirst; simp) hne hs hf hsub ?_
  refine wpAny_mono (run_g1 (us := [.ref a, .ref b]) (vs := [.ref a, .ref b]) F hr hx I (.cons rfl (.cons rfl .nil)) q) (fun w s' z => ?_) fun _ _ x => x
  obtain ⟨_, H', I', rz, k, rfl, qz⟩ := z
  cases (show w = Value.bool k from rz)
  exact ⟨k, rfl, .bl (!k), H', I', rfl, qz⟩
/-- x + "text" -/
theorem op_addS (hc : PySem.W.selfFirst X.K C = true) (hs : PySem.W.findIn X.K (.ref C) "__add__" = some (some (.ref g))) (hf : PySem.W.isFn X.K (.ref g) = true)
    (F : FnR X.prog X.w X.K X.mg X.base CX n g sp) (hr : Room n X.A) (hx : Passes CX X E) :
    OpR X (binaryOp .Add) (fun x y H Q => ∃ a dx fs t, x = .ref a ∧ y = .str t ∧ H a = some (.ins C dx fs) ∧ sp [.ref a, .str t] H Q E) := by
  intro pins s σ H x y v u Q I rx ry h
  obtain ⟨a, dx, fs, t, rfl, rfl, ha, q⟩ := h
  cases (show v = Value.ref a from rx)
  obtain ⟨tk, rfl⟩ := (show ∃ tk, u = Value.str t tk from ry)
  obtain ⟨od, J⟩ := inst_of I ha
  refine binop_S I.kIn J hc hs hf ?_
  refine wpAny_mono (run_g (us := [.ref a, .str t tk]) (vs := [.ref a, .str t]) F hr hx I (.cons rfl (.cons ⟨_, rfl⟩ .nil)) q) (fun w s' z => ?_) fun _ _ x => x
  obtain ⟨z', H', I', rz, qz⟩ := z
  exact SlX.cmpback rz ⟨z', H', I', rz, qz⟩
end
end Own

namespace Own
open PySem PySem.Spec PyProof.Rows L2
section
variable {M : Model} {A : Around} {E : Value → Shared → Prop} {s : Shared}
theorem ea_two {f : Value} {x : Sem Value} {b : Bool × Sem Value} {r : List (Bool × Sem Value)} {Q : Args → Shared → Prop} (h : wpAny M A (spliced ((true, x) :: b :: r)) (fun vs s₁ => Q ⟨vs, []⟩ s₁) E s) :
    wpAny M A (evalArgs f true ((true, x) :: b :: r) []) Q E s := by
  unfold evalArgs
  refine wpAny_bind (m := spliced ((true, x) :: b :: r)) (wpAny_mono h (fun vs s₁ h₁ => wpAny_bind (wpAny_pure ?_)) fun _ _ z => z)
  refine wpAny_holding ?_
  refine wpAny_bind (m := evalAll []) (wpAny_evalAll_nil ?_)
  exact wpAny_bind (wpAny_pure (wpAny_pure h₁))
end
section
variable {X : Cx} {CX : CXT} {k i : Nat} {f C p_ g : Addr} {mc : Value} {sp : Sp} {E : XK} {x m : Str} {e e2 o : Expr} {es : List Expr} {te ta t2 : TE} {t : TA} {p pos apos : Pos} {pl : Sem Bool}
def tStar1 (K : PySem.W.Frag) (te : TE) : TA := fun σ H Q => te σ H fun y H1 => ∃ a xs, y = V.ref a ∧ (SqT K H1 a xs ∨ SqL K H1 a xs) ∧ Q xs H1
/-- C(*y) -/
theorem pe_makeS (M : Mk X.K C f) (F : FnR X.prog X.w X.K X.mg X.base CX k f sp) (hr : Room (k + 1) X.A) (hg : Gl X x) (hm : X.mg x = some (.ref C)) (hx : Passes CX X E) (he : PE X e te) (hdb : (x == ("__debug__" : Str)) = false := by decide)
    (hst : starEach [.Starred e p] X.env = [(true, eval e X.env)] := by rfl) :
    PE X (.Call (.Name x apos) [.Starred e p] [] pos) (StX.tMakeR C sp E (tStar1 X.K te)) := by
  refine ⟨fun pins s σ H Q I h => ?_⟩
  refine wpAny_Call_Name_kw (ld_glob I hg hm ?_ hdb)
  refine PySem.W.callWith_S (h₀ := X.base) I.ok.mod.kin M.kp (thn (he.run pins s σ H _ I h) fun v s1 ⟨y, H1, I1, ry, a, xs, ey, hxs, q⟩ => ?_) hst
  subst ey
  obtain rfl : v = Value.ref a := ry
  exact StX.star_any I1 hxs fun us s2 I2 rv => ⟨I2.kIn, StX.run_makeR M F hr hx I2 rv q⟩
/-- c(*y), c a name of the def that holds the class -/
theorem pe_makeLS (M : Mk X.K C f) (F : FnR X.prog X.w X.K X.mg X.base CX k f sp) (hr : Room (k + 1) X.A) (hc : PE X (.Name x apos) (tVar i)) (hx : Passes CX X E) (he : PE X e te)
    (hst : starEach [.Starred e p] X.env = [(true, eval e X.env)] := by rfl) :
    PE X (.Call (.Name x apos) [.Starred e p] [] pos) (fun σ H Q => σ[i]? = some (some (.ref C)) ∧ StX.tMakeR C sp E (tStar1 X.K te) σ H Q) := by
  refine ⟨fun pins s σ H Q I h => ?_⟩
  obtain ⟨h0, h⟩ := h
  refine wpAny_Call_Name_kw (thn (hc.run pins s σ H (fun v H' => v = .ref C ∧ H' = H) I ⟨.ref C, h0, rfl, rfl⟩) fun v s1 ⟨y, H1, I1, ry, ey, eH⟩ => ?_)
  subst ey
  subst eH
  obtain rfl : v = Value.ref C := ry
  refine PySem.W.callWith_S (h₀ := X.base) I1.ok.mod.kin M.kp (thn (he.run pins s1 σ _ _ I1 h) fun v s1 ⟨y, H1, I1, ry, a, xs, ey, hxs, q⟩ => ?_) hst
  subst ey
  obtain rfl : v = Value.ref a := ry
  exact StX.star_any I1 hxs fun us s2 I2 rv => ⟨I2.kIn, StX.run_makeR M F hr hx I2 rv q⟩
/-- C(*y, e) -/
theorem pe_makeS1 (M : Mk X.K C f) (F : FnR X.prog X.w X.K X.mg X.base CX k f sp) (hr : Room (k + 1) X.A) (hg : Gl X x) (hm : X.mg x = some (.ref C)) (hx : Passes CX X E) (ha : PA X [.Starred e p, e2] t) (hdb : (x == ("__debug__" : Str)) = false := by decide)
    (hst : starEach [.Starred e p, e2] X.env = [(true, eval e X.env), (false, eval e2 X.env)] := by rfl) :
    PE X (.Call (.Name x apos) [.Starred e p, e2] [] pos) (StX.tMakeR C sp E t) := by
  refine ⟨fun pins s σ H Q I h => ?_⟩
  refine wpAny_Call_Name_kw (ld_glob I hg hm ?_ hdb)
  have z := ha.run pos pins s σ H _ I h
  show wpAny _ _ (callWith pos (.ref C) [] (backTo pos (starEach [.Starred e p, e2] X.env)) []) _ _ s
  rw [hst] at z ⊢
  refine PySem.W.ks_call rfl (PySem.W.keeps_K M.kp) (ea_two (thn z fun us s1 ⟨vs, H1, I1, r, q⟩ => ⟨I1.kIn, ?_⟩))
  exact StX.run_makeR M F hr hx I1 r q
/-- C() -/
theorem pe_makeR0 (M : Mk X.K C f) (F : FnR X.prog X.w X.K X.mg X.base CX k f sp) (hr : Room (k + 1) X.A) (hg : Gl X x) (hm : X.mg x = some (.ref C)) (hx : Passes CX X E) (hdb : (x == ("__debug__" : Str)) = false := by decide) :
    PE X (.Call (.Name x apos) [] [] pos) (StX.tMakeR C sp E tNil) := by
  refine ⟨fun pins s σ H Q I h => ?_⟩
  refine wpAny_Call_Name_kw (ld_glob I hg hm ?_ hdb)
  exact PySem.W.callWith_K0 I.kIn M.kp (StX.run_makeR (us := []) M F hr hx I .nil h)

/-- C.m is a staticmethod: its record at p, its def at g -/
structure SMet (K : PySem.W.Frag) (C : Addr) (mc : Value) (m : Str) (p g : Addr) : Prop where
  at_ : PySem.W.findCls K (.ref C) mc m = some (.get (.builtin "staticmethod.__get__") (.ref p) .none (.ref C))
  rc : ∃ rest, PySem.W.recIn K p "staticmethod" = some (.ref g :: rest)
  kp : PySem.W.keepIn K (.ref g) = true
theorem getmethsm_ok {pins : List (Addr × Obj)} {σ : L2.St} {H : Hp} {s : Shared} {A : Around} {E : Value → Shared → Prop} {Q : Value × List Value → Shared → Prop} (I : Inv X pins σ H s) (r : ClX.CRead X.K C mc) (k : SMet X.K C mc m p_ g)
    (h : ∀ s', Inv X pins σ H s' → Q (.ref g, []) s') : wpAny (model X.prog X.w) A (getMethod (.ref C) m pl) Q E s := by
  obtain ⟨rest, hp⟩ := k.rc
  refine PySem.W.method_cls I.kIn r.ga (PySem.W.cls_bind I.kIn r.rd k.at_ ?_)
  refine wpAny_call (PySem.W.sm_get (s := { s with toks := s.toks + 1 }) I.kIn hp (PySem.W.handed_on rfl ?_))
  exact h _ (I.tok _)
/-- C.m(e, ..) -/
def tSMeth (C : Addr) (sp : Sp) (E : XK) (ta : TE) (t : TA) : TE := fun σ H Q => ta σ H fun x H1 => x = .ref C ∧ t σ H1 fun vs H2 => sp vs H2 Q E
theorem pe_smeth (he : PE X o ta) (r : ClX.CRead X.K C mc) (c : SMet X.K C mc m p_ g) (F : FnR X.prog X.w X.K X.mg X.base CX k g sp) (hr : Room k X.A) (hx : Passes CX X E) (ha : PA X (e :: es) t)
    (hst : starEach (e :: es) X.env = (false, eval e X.env) :: starEach es X.env := by rfl) (hpl : (backTo pos (starEach es X.env)).any (·.1) = false := by rfl)
    (ht : eval (.Call (.Attribute o m apos) (e :: es) [] pos) X.env = (do
      let ov ← eval o X.env
      standAt apos.atName
      let (f, first) ← holding [ov] (getMethod ov m pl)
      callWith pos f first (backTo pos (starEach (e :: es) X.env)) (backToKw pos (keywordEach [] X.env))) := by rfl) :
    PE X (.Call (.Attribute o m apos) (e :: es) [] pos) (tSMeth C sp E ta t) := by
  refine ⟨fun pins s σ H Q I h => ?_⟩
  refine PySem.W.methodCall_KW (pl := pl) (thn (he.run pins s σ H _ I h) fun u s1 ⟨x, H1, I1, rx, ex, q⟩ => ?_) ht
  subst ex
  obtain rfl : u = Value.ref C := rx
  refine getmethsm_ok I1 r c fun s2 I2 => ?_
  refine PySem.W.callWith_K (first := []) (h₀ := X.base) I.ok.mod.kin c.kp (thn (ha.run pos pins s2 σ H1 _ I2 q) fun us s3 ⟨vs, H2, I3, r, q2⟩ => ⟨I3.kIn, ?_⟩) hst hpl
  exact run_g F hr hx I3 r q2
/-- o.m(k = e), no positional argument: by a def's promise over its bound parameters [self, e] -/
def tMethK1 (C : Addr) (m : Str) (sp : Sp) (E : XK) (ta te : TE) : TE := fun σ H Q => ta σ H fun x H1 => ∃ a dx fs, x = .ref a ∧ H1 a = some (.ins C dx fs) ∧ fs.lookup m = none ∧ tCons te tNil σ H1 fun zs H2 => sp (x :: zs) H2 Q E
theorem pe_methK1 {fd : FuncData} {kn : Str} {kpos : Pos} {a1 : Str} (he : PE X o ta) (c : Cls X.K C) (hm : Meth X.K C m f) (F : FnOk X.prog X.w X.K X.mg X.base CX k f fd [a1, kn] sp) (hr : Room k X.A)
    (hb : ∀ (s : Shared) (u v : Value), X.K.In s.heap → BindsTo s fd ⟨[u], [(kn, v)]⟩ [(a1, u), (kn, v)]) (hx : Passes CX X E) (hk : PE X e te)
    (ht : eval (.Call (.Attribute o m apos) [] [⟨some kn, e, kpos⟩] pos) X.env = (do
      let ov ← eval o X.env
      standAt apos.atName
      let (f, first) ← holding [ov] (getMethod ov m pl)
      callWith pos f first (backTo pos (starEach [] X.env)) (backToKw pos (keywordEach [⟨some kn, e, kpos⟩] X.env))) := by rfl) :
    PE X (.Call (.Attribute o m apos) [] [⟨some kn, e, kpos⟩] pos) (tMethK1 C m sp E ta te) := by
  refine ⟨fun pins s σ H Q I h => ?_⟩
  refine PySem.W.methodCall_KW (pl := pl) (thn (he.run pins s σ H _ I h) fun u s1 ⟨x, H1, I1, rx, a, dx, fs, ex, ea, l, q⟩ => ?_) ht
  subst ex
  obtain rfl : u = Value.ref a := rx
  refine getmeth_ok I1 ea c hm l ?_
  refine PySem.W.callWith_KW0 (first := [.ref a]) (h₀ := X.base) I.ok.mod.kin hm.kp rfl (thn ((pk_cons (nm := some kn) (kpos := kpos) hk pk_nil).run pos pins s1 σ H1 _ I1 q) fun ws s2 ⟨zs, H2, I2, rz, q2⟩ => ⟨I2.kIn, ?_⟩) rfl
  have hl := F.len _ _ _ _ q2
  obtain ⟨z, rfl⟩ : ∃ z, zs = [z] := by
    match zs, hl with
    | [z], _ => exact ⟨z, rfl⟩
  obtain ⟨u', rfl, ru⟩ := vals1 rz
  refine wpAny_call (codeAny_mono (F.run X.A X.stack s2 H2 ⟨[.ref a], [(kn, u')]⟩ [.ref a, u'] [.ref a, z] Q E hr I2.env0 (hb s2 _ _ I2.kIn) (.cons rfl (.cons ru .nil)) q2) fun r s' hq => ?_)
  cases r with
  | error e => exact hx pins σ H2 s2 e s' I2 hq
  | ok fl =>
    cases fl with
    | ret u => exact I2.after hq
    | next => exact False.elim hq
    | brk => exact False.elim hq
    | cont => exact False.elim hq
end
end Own

namespace Own
open PySem PySem.Spec PyProof.Rows L2
/-- the order of tuples of texts -/
def lexS : List Str → List Str → Bool
  | [], [] => false
  | [], _ :: _ => true
  | _ :: _, [] => false
  | x :: xs, y :: ys => if x = y then lexS xs ys else decide (x.cps.toList < y.cps.toList)
theorem rcLt_str {prog : Program} {w : World} (A : Around) (s : Shared) (a : Str) (t : Tok) (c : Str) (u : Tok) (E : Value → Shared → Prop) (Q : Value → Shared → Prop) (h : Q (.bool (decide (a.cps.toList < c.cps.toList))) s) :
    wpAny (model prog w) A (richCompare .Lt (.str a t) (.str c u)) Q E s :=
  (PyProof.Rows.lt_str h : wpAny (model prog w) A (compareOp .Lt (.str a t) (.str c u)) Q E s)
section
open PySem.SeqAt
open PySem.AutoSeq1 (wpAny_loadPart')
open PySem.MeetsSeq PySem.MeetsSeq2 PySem.MeetsSeq3
theorem tuple_lt_strs (l b : Addr) (its its2 : Array Value) (n n2 : Nat) (dd dd2 : Option Addr) (sl sl2 : Array (Option Value)) (ns ms : List Str) (hi : StrsAre its.toList ns) (hj : StrsAre its2.toList ms)
    (z1 : its.size = ns.length) (z2 : its2.size = ms.length) :
    Meets (Builtin.«tuple.__lt__» ⟨[.ref l, .ref b], []⟩)
      (fun _ R s => s.heap.get? l = some { cls := .type "tuple", dict := dd, data := .seq its n, slots := sl } ∧ s.heap.get? b = some { cls := .type "tuple", dict := dd2, data := .seq its2 n2, slots := sl2 } ∧
        R (.ok (.ret (.bool (lexS ns ms)))) s) :=
  .of_wp fun prog w A R s h => by
    obtain ⟨hp, g, d, tk, os⟩ := s
    obtain ⟨hl, hb, h⟩ := h
    have f2 := AutoSeq1.sub_tuple_tuple
    wp_walk using wpAny_loadPart' hl, wpAny_loadPart' hb, wpAny_forIn_list _ (fun rest b s' => b.1 = none ∧ s' = ⟨hp, g, d, tk, os⟩ ∧ ∃ (vs ws : List Value) (ns' ms' : List Str), rest = vs.zip ws ∧
      StrsAre vs ns' ∧ StrsAre ws ms' ∧ ns'.length + its2.size = ms'.length + its.size ∧ R (.ok (.ret (.bool (lexS ns' ms')))) ⟨hp, g, d, tk, os⟩) _
    case turn =>
      rintro ⟨y, x⟩ rest b s' ⟨hb', rfl, vs, ws, ns', ms', hz, hvi, hwi, hlen, hR⟩
      cases hvi with
      | nil =>
        rw [List.zip_nil_left] at hz
        cases hz
      | cons a t hvi' =>
        cases hwi with
        | nil =>
          rw [List.zip_nil_right] at hz
          cases hz
        | cons c u hwi' =>
          rw [List.zip_cons_cons] at hz
          injection hz with hyx hrest
          injection hyx with hy hx
          subst hy hx
          have hR2 : R (.ok (.ret (.bool (if a = c then lexS _ _ else decide (a.cps.toList < c.cps.toList))))) ⟨hp, g, d, tk, os⟩ := hR
          simp only [List.length_cons] at hlen
          have he := SeqAt.EqAt.str_str (A := A.in1) (s := ⟨hp, g, d, tk, os⟩) a t c u
          refine wpAny_bind (he prog w _ _ ?_)
          by_cases hac : a = c
          · rw [if_pos hac] at hR2
            rw [show (a == c) = true from beq_iff_eq.mpr hac]
            wp_walk
            exact ⟨rfl, rfl, _, _, _, _, hrest, hvi', hwi', by omega, hR2⟩
          · rw [if_neg hac] at hR2
            rw [show (a == c) = false from beq_eq_false_iff_ne.mpr hac]
            have hri := rcLt_str (prog := prog) (w := w) A.in1 ⟨hp, g, d, tk, os⟩ a t c u
            wp_walk using hri
            exact ⟨_, rfl, by simpa using hR2⟩
    case fin =>
      rintro ⟨b1, b2⟩ s' ⟨hb', rfl, vs, ws, ns', ms', hz, hvi, hwi, hlen, hR⟩
      simp only at hb'
      subst hb'
      have hv : lexS ns' ms' = decide (its.size < its2.size) := by
        cases hvi with
        | nil =>
          cases hwi with
          | nil =>
            simp only [List.length_nil] at hlen
            show false = _
            exact (decide_eq_false (by omega)).symm
          | cons c u hw =>
            simp only [List.length_nil, List.length_cons] at hlen
            show true = _
            exact (decide_eq_true (by omega)).symm
        | cons a t hv =>
          cases hwi with
          | nil =>
            simp only [List.length_nil, List.length_cons] at hlen
            show false = _
            exact (decide_eq_false (by omega)).symm
          | cons c u hw =>
            rw [List.zip_cons_cons] at hz
            cases hz
      rw [hv] at hR
      wp_walk
      exact ⟨_, rfl, by simpa [Builtin.Tuple.tupleCompareSizes] using hR⟩
    case h =>
      exact ⟨rfl, rfl, its.toList, its2.toList, ns, ms, rfl, hi, hj, by omega, h⟩
end
section
variable {X : Cx}
/-- t < u, tuples of texts -/
theorem op_ltTS (hu : X.A.units < cLine) : OpR X (compareOp .Lt) (fun x y H Q => ∃ a b ns ms, x = .ref a ∧ y = .ref b ∧ SqT X.K H a (ns.map V.str) ∧ SqT X.K H b (ms.map V.str) ∧ Q (.bl (lexS ns ms)) H) := by
  intro pins s σ H x y v u Q I rx ry h
  obtain ⟨a, b, ns, ms, rfl, rfl, ha, hb, q⟩ := h
  cases rx
  cases ry
  obtain ⟨its, r1, p1, _⟩ := I.tuple ha
  obtain ⟨its2, r2, p2, _⟩ := I.tuple hb
  have i1 : StrsAre its.toArray.toList ns := strs_of_vals r1
  have i2 : StrsAre its2.toArray.toList ms := strs_of_vals r2
  have z1 : its.toArray.size = ns.length := by
    have := r1.length
    simp at this ⊢
    omega
  have z2 : its2.toArray.size = ms.length := by
    have := r2.length
    simp at this ⊢
    omega
  obtain ⟨⟨cls, dd, data, sl⟩, ho, hc, n, hd⟩ := id p1
  obtain ⟨⟨cls2, dd2, data2, sl2⟩, ho2, hc2, n2, hd2⟩ := id p2
  simp only at hc hd hc2 hd2
  subst hc hd hc2 hd2
  exact richCompare_meets_room (op := .Lt) ⟨_, ho, rfl⟩ ⟨_, ho2, rfl⟩ PySem.F.slot_tuple_lt PySem.F.entry_tuple_lt (PySem.F.args_tuple_lt_2 _ _) (tuple_lt_strs a b its.toArray its2.toArray n n2 dd dd2 sl sl2 ns ms i1 i2 z1 z2)
    ⟨ho, ho2, show Value.bool (lexS ns ms) ≠ Value.notImplemented ∧ EP X pins σ Q (Value.bool (lexS ns ms)) s from ⟨(fun x => nomatch x), .bl (lexS ns ms), H, I, rfl, q⟩⟩ hu
end
end Own

namespace Own
open PySem PySem.Spec PyProof.Rows L2
section
open PySem.SeqAt
open PySem.AutoSeq1 (wpAny_loadPart')
open PySem.MeetsSeq PySem.MeetsSeq2 PySem.MeetsSeq3 PySem.SeqRoads2
variable {prog : Program} {w : World} {A : Around} {R : Result → Shared → Prop}
/-- at each turn the list is read anew -/
def ConI (prog : Program) (w : World) (A : Around) (E : Value → Shared → Prop) (l : Addr) (x : Value) (N : Nat) (res : Nat → Bool) (I : Nat → Shared → Prop) : Prop :=
  ∀ i s, I i s → ∃ (items : Array Value) (n : Nat), s.heap.get? l = some { cls := .type "list", data := .seq items n } ∧ items.size = N ∧
    ∀ (h1 : i < items.size), wpAny (model prog w) A.in1 (eqBool items[i] x) (fun r s' => r = res i ∧ I (i + 1) s') E s
theorem con_loop (l : Addr) (x : Value) (N : Nat) (res : Nat → Bool) (I : Nat → Shared → Prop) (hl : ConI prog w A (fun e s' => R (.error e) s') l x N res I)
    (finT : ∀ i s, i < N → res i = true → I (i + 1) s → R (.ok (.ret (.bool true))) s) (finF : (∀ j, j < N → res j = false) → ∀ s, I N s → R (.ok (.ret (.bool false))) s) (k : Nat) :
    ∀ i : Nat, N - i = k → i ≤ N → (∀ j, j < i → res j = false) → ∀ s, I i s →
      wpAny (model prog w) A.in1 (Builtin.«list.__contains__.loop» ⟨[.ref l, x, rawInt i], []⟩) (GQ.FinOf prog w A R) (fun e s' => R (.error e) s') s := by
  induction k with
  | zero =>
    intro i hk hi hno s h
    obtain ⟨items, n, hl1, hs1, _⟩ := hl _ _ h
    have hi' : i = N := by omega
    have hR : R (.ok (.ret (.bool false))) s := finF (fun j hj => hno j (by omega)) s (hi' ▸ h)
    obtain ⟨hp, g, d, tk, os⟩ := s
    wp_walk using wpAny_loadPart' hl1
    have hi1 : items[((i : Nat) : Int).toNat]? = none := by simp; omega
    rw [hi1]
    wp_walk using wpAny_loadPart' hl1
    exact hR
  | succ k ih =>
    intro i hk hi hno s h
    obtain ⟨items, n, hl1, hs1, turn⟩ := hl _ _ h
    have hlt : i < items.size := by omega
    have ht := turn hlt
    obtain ⟨hp, g, d, tk, os⟩ := s
    wp_walk using wpAny_loadPart' hl1
    have hi1 : items[((i : Nat) : Int).toNat]? = some items[i] := by simp [hlt]
    have hc : ((i : Int) + 1) = ((i + 1 : Nat) : Int) := by omega
    rw [hi1]
    refine wpAny_bind (wpAny_mono ht (fun r s2 h2 => ?_) fun _ _ x => x)
    obtain ⟨hr, h2⟩ := h2
    subst hr
    cases hres : res i with
    | true =>
      have hR := finT i s2 (by omega) hres h2
      obtain ⟨hp2, g2, d2, tk2, os2⟩ := s2
      wp_walk
      exact hR
    | false =>
      have hrec := ih (i + 1) (by omega) (by omega) (fun j hj => by
        rcases Nat.lt_succ_iff_lt_or_eq.mp hj with q | q
        · exact hno j q
        · rw [q]; exact hres) s2 h2
      obtain ⟨hp2, g2, d2, tk2, os2⟩ := s2
      wp_walk
      rw [hc]
      exact ⟨plainId_quiet plain_contains_loop _, codeAny_builtin entry_contains_loop (by
        rw [Around.under_plainId plain_contains_loop _]
        exact hrec)⟩
theorem con_list (l : Addr) (x : Value) (N : Nat) (res : Nat → Bool) (I : Nat → Shared → Prop) (hl : ConI prog w A (fun e s' => R (.error e) s') l x N res I)
    (finT : ∀ i s, i < N → res i = true → I (i + 1) s → R (.ok (.ret (.bool true))) s) (finF : (∀ j, j < N → res j = false) → ∀ s, I N s → R (.ok (.ret (.bool false))) s) {s : Shared} (h : I 0 s) :
    wpAny (model prog w) A.in1 (Builtin.«list.__contains__» ⟨[.ref l, x], []⟩) (GQ.FinOf prog w A R) (fun e s' => R (.error e) s') s := by
  have hrec := con_loop (A := A) (R := R) l x N res I hl finT finF _ 0 rfl (Nat.zero_le _) (fun j hj => absurd hj (Nat.not_lt_zero j)) s h
  obtain ⟨hp, g, d, tk, os⟩ := s
  wp_walk
  exact ⟨plainId_quiet plain_contains_loop _, codeAny_builtin entry_contains_loop (by
    rw [Around.under_plainId plain_contains_loop _]
    exact hrec)⟩
end
section
variable {X : Cx} {CX : CXT} {C g : Addr} {n : Nat} {sp : Sp} {E : XK}
/-- == of an item z with the asked value, within a builtin -/
def EqT (X : Cx) (z x : V) (H : Hp) (K : Bool → Hp → Prop) : Prop := ∀ (pins : List (Addr × Obj)) (σ : L2.St) (s : Shared) (u v : Value), Inv X pins σ H s → RelV z u → RelV x v →
  wpAny (model X.prog X.w) X.A.in1 (eqBool u v) (fun r s' => ∃ H', Inv X pins σ H' s' ∧ K r H') X.xe s
theorem eqT_own (hs : PySem.W.findIn X.K (.ref C) "__eq__" = some (some (.ref g))) (hf : PySem.W.isFn X.K (.ref g) = true) (F : FnR X.prog X.w X.K X.mg X.base CX n g sp) (hr : Room (n + 1) X.A) (hx : Passes CX X E)
    {a b dx dy : Addr} {fs gs : List (Str × V)} {H : Hp} {K : Bool → Hp → Prop} (ha : H a = some (.ins C dx fs)) (hb : H b = some (.ins C dy gs)) (same : a = b → K true H)
    (q : sp [.ref a, .ref b] H (fun z H' => ∃ k, z = .bl k ∧ K k H') E) : EqT X (.ref a) (.ref b) H K := by
  intro pins σ s u v I ru rv
  cases (show u = Value.ref a from ru)
  cases (show v = Value.ref b from rv)
  by_cases hab : a = b
  · subst hab
    unfold eqBool
    refine wpAny_holding ?_
    refine wpAny_ite_split (fun _ => ?_) (fun hn => absurd (by simp) hn)
    exact wpAny_bind (wpAny_rule (wpAny_pure ⟨H, I, same rfl⟩))
  · obtain ⟨od, J⟩ := inst_of I ha
    obtain ⟨od', J'⟩ := inst_of I hb
    obtain ⟨m, hF⟩ := I.fr
    refine GQ.eqBool_refG hab ?_
    refine PySem.W.cmp_K (op := .Eq) (tb := .ref C) (hr.in1).units0 hF I.ok.mod.kin J J'.type (by unfold PySem.W.notFirst; simp) hs hf ?_
    refine wpAny_mono (run_g1 (us := [.ref a, .ref b]) (vs := [.ref a, .ref b]) F hr hx I (.cons rfl (.cons rfl .nil)) q) (fun w s' z => ?_) fun _ _ x => x
    obtain ⟨_, H', I', rz, k, rfl, qz⟩ := z
    cases (show w = Value.bool k from rz)
    exact ⟨k, rfl, H', I', qz⟩
/-- x in l, items compared one by one -/
def rInL (X : Cx) (neg : Bool) : R2 := fun x y H Q => ∃ (l : Addr) (xs : List V) (res : Nat → Bool) (P : Nat → Hp → Prop), y = .ref l ∧ P 0 H ∧ (∀ i H', P i H' → H' l = some (.lst xs)) ∧
  (∀ i z H', xs[i]? = some z → P i H' → EqT X z x H' (fun r H'' => r = res i ∧ P (i + 1) H'')) ∧
  (∀ i H', i < xs.length → res i = true → P (i + 1) H' → Q (.bl (if neg then false else true)) H') ∧ ((∀ j, j < xs.length → res j = false) → ∀ H', P xs.length H' → Q (.bl (if neg then true else false)) H')
theorem op_inL : OpR X (compareOp .In) (rInL X false) := by
  intro pins s σ H x y v u Q I rx ry h
  obtain ⟨l, xs, res, P, rfl, h0, hl, ht, hT, hF⟩ := h
  cases (show u = Value.ref l from ry)
  obtain ⟨_, its, n, _, e0⟩ := (show ObjOk X.prog X.w H s.heap l (.lst xs) from I.hok l _ (hl _ _ h0))
  refine wpAny_bind (wpAny_contains_slot ⟨_, e0, rfl⟩ PySem.F.slot_list_contains (GQ.call_here PySem.F.slot_list_contains ⟨_, e0, rfl⟩ PySem.F.entry_list_contains (PySem.F.args_list_contains_2 _ _) ?_))
  refine con_list l v xs.length res (fun i s' => ∃ H', Inv X pins σ H' s' ∧ P i H') (fun i s' hI => ?_) (fun i s' hi hr hI => ?_) (fun hno s' hI => ?_) ⟨H, I, h0⟩
  · obtain ⟨H', I', p⟩ := hI
    obtain ⟨_, its', n', r', e'⟩ := (show ObjOk X.prog X.w H' s'.heap l (.lst xs) from I'.hok l _ (hl _ _ p))
    have hsz : its'.toArray.size = xs.length := by rw [r'.length]; simp
    refine ⟨its'.toArray, n', e', hsz, fun h1 => ?_⟩
    have hi : i < xs.length := by omega
    obtain ⟨u, hu, ru⟩ := r'.get (i := i) (List.getElem?_eq_getElem hi)
    have eu : its'.toArray[i] = u := by
      obtain ⟨_, e2⟩ := List.getElem?_eq_some_iff.mp hu
      simpa using e2
    rw [eu]
    exact wpAny_mono (ht i _ H' (List.getElem?_eq_getElem hi) p pins σ s' u v I' ru rx) (fun r s2 ⟨H2, I2, er, p2⟩ => ⟨er, H2, I2, p2⟩) fun _ _ z => z
  · obtain ⟨H', I', p⟩ := hI
    exact wpAny_truthy_bool (wpAny_pure ⟨.bl true, H', I', rfl, hT i H' hi hr p⟩)
  · obtain ⟨H', I', p⟩ := hI
    exact wpAny_truthy_bool (wpAny_pure ⟨.bl false, H', I', rfl, hF hno H' p⟩)
theorem op_notInL : OpR X (compareOp .NotIn) (rInL X true) := by
  intro pins s σ H x y v u Q I rx ry h
  obtain ⟨l, xs, res, P, rfl, h0, hl, ht, hT, hF⟩ := h
  cases (show u = Value.ref l from ry)
  obtain ⟨_, its, n, _, e0⟩ := (show ObjOk X.prog X.w H s.heap l (.lst xs) from I.hok l _ (hl _ _ h0))
  refine wpAny_bind (wpAny_contains_slot ⟨_, e0, rfl⟩ PySem.F.slot_list_contains (GQ.call_here PySem.F.slot_list_contains ⟨_, e0, rfl⟩ PySem.F.entry_list_contains (PySem.F.args_list_contains_2 _ _) ?_))
  refine con_list l v xs.length res (fun i s' => ∃ H', Inv X pins σ H' s' ∧ P i H') (fun i s' hI => ?_) (fun i s' hi hr hI => ?_) (fun hno s' hI => ?_) ⟨H, I, h0⟩
  · obtain ⟨H', I', p⟩ := hI
    obtain ⟨_, its', n', r', e'⟩ := (show ObjOk X.prog X.w H' s'.heap l (.lst xs) from I'.hok l _ (hl _ _ p))
    have hsz : its'.toArray.size = xs.length := by rw [r'.length]; simp
    refine ⟨its'.toArray, n', e', hsz, fun h1 => ?_⟩
    have hi : i < xs.length := by omega
    obtain ⟨u, hu, ru⟩ := r'.get (i := i) (List.getElem?_eq_getElem hi)
    have eu : its'.toArray[i] = u := by
      obtain ⟨_, e2⟩ := List.getElem?_eq_some_iff.mp hu
      simpa using e2
    rw [eu]
    exact wpAny_mono (ht i _ H' (List.getElem?_eq_getElem hi) p pins σ s' u v I' ru rx) (fun r s2 ⟨H2, I2, er, p2⟩ => ⟨er, H2, I2, p2⟩) fun _ _ z => z
  · obtain ⟨H', I', p⟩ := hI
    exact wpAny_truthy_bool (wpAny_pure ⟨.bl false, H', I', rfl, hT i H' hi hr p⟩)
  · obtain ⟨H', I', p⟩ := hI
    exact wpAny_truthy_bool (wpAny_pure ⟨.bl true, H', I', rfl, hF hno H' p⟩)
/-- l.count(b), a list of bools -/
def eqBk (k : Bool) : Value → Bool
  | .bool b => b == k
  | _ => false
theorem bools_of_vals : ∀ {bs : List Bool} {us : List Value}, Vals (bs.map V.bl) us → us = bs.map Value.bool
  | [], _, .nil => rfl
  | b :: bs, _, .cons (b := u) r t => by
    rw [bools_of_vals t]
    cases (show u = Value.bool b from r)
    rfl
theorem mt_countB : MtR X "list.count" (fun x xs H Q => ∃ (p : Addr) (bs : List Bool) (k : Bool), x = .ref p ∧ xs = [.bl k] ∧ SqL X.K H p (bs.map V.bl) ∧ Q (.int (bs.count k : Nat)) H) := by
  intro pins s σ H x xs v us Q I rx rxs h
  obtain ⟨p, bs, k, rfl, rfl, hs, q⟩ := h
  cases rx
  obtain ⟨u, rfl, ru⟩ := rxs.one
  cases (show u = Value.bool k from ru)
  obtain ⟨its, rv, ⟨⟨cls, dd, data, sl⟩, n, ho, hc, hdn, hd⟩, hlen⟩ := I.list hs
  simp only at hc hd
  subst hc hd
  have hi := bools_of_vals rv
  subst hi
  refine call_meets PySem.F.slot_list_count ⟨_, ho, rfl⟩ PySem.F.entry_list_count (PySem.F.args_list_count_2 _ _)
    (SeqAt.list_countAt p _ n dd sl (.bool k) (eqBk k)) ⟨ho, fun y hy => ?_, ?_⟩
  · obtain ⟨b, _, rfl⟩ : ∃ b, b ∈ bs ∧ Value.bool b = y := by simpa using hy
    exact SeqAt.EqAt.bool_bool b k
  · have ec : ((bs.map Value.bool).toArray.toList.countP (eqBk k)) = bs.count k := by
      rw [List.toList_toArray, List.countP_map]
      rfl
    refine ⟨.int (bs.count k : Nat), H, I.tok _, ⟨s.toks, ?_⟩, q⟩
    show Value.int (((bs.map Value.bool).toArray.toList.countP (eqBk k) : Nat) : Int) s.toks = _
    rw [ec]
end
end Own

namespace Own
open PySem
open PySem.Sem (wp)
theorem meets_bool_tup (l : Addr) (items : Array Value) (hfit : (items.size : Int) < 2 ^ 63) :
    Meets (Builtin.«bool.__new__» ⟨[.type "bool", .ref l], []⟩) (fun _ R s => PyProof.Rows.IsTup s.heap l items ∧ R (.ok (.ret (.bool (!items.isEmpty)))) { s with toks := s.toks + 1 + 1 }) :=
  Meets.of_wp fun prog w A R s hs => by
    obtain ⟨hl, hs⟩ := hs
    obtain ⟨hp, g, d, tk, os⟩ := s
    have f1 := F.conv_sub_bool
    repeat (any_goals (first | assumption | (with_reducible refine PyProof.Rows.truthy_tuple hl hfit ?_) | wp_step))
    all_goals first | exact ⟨_, rfl, hs⟩ | exact hs | skip
open PySem PySem.Spec PyProof.Rows L2
section
variable {X : Cx}
theorem call_boolT : CallR X (.type "bool") (fun xs H Q => ∃ (a : Addr) (zs : List V), xs = [.ref a] ∧ SqT X.K H a zs ∧ Q (.bl (!zs.isEmpty)) H) := by
  intro pins s σ H xs us Q I r h
  obtain ⟨a, zs, rfl, hq, q⟩ := h
  obtain rfl := Vals.ref1 r
  obtain ⟨its, rv, pl, hz⟩ := I.tuple hq
  have hl := line63
  have hlen := rv.length
  refine call_bool_1 (meets_bool_tup _ _ (by simp only [List.size_toArray]; omega)) ⟨pl, rfl, ?_⟩
  exact ⟨.bl (!zs.isEmpty), H, I.tok _, by rw [isEmpty_of rv]; rfl, q⟩
end
/-- the truth of a value, as a test's reading that has a name -/
def tTru (K : PySem.W.Frag) (ta : TE) : TT := fun σ H Q => ta σ H fun x H' => ∃ k, TruV K x H' k ∧ Q k H'
/-! ### data of texts -/
theorem dp_strs {K : PySem.W.Frag} {H : Hp} : ∀ ns : List Str, DpAll K H (ns.map V.str) (ns.map PyData.str)
  | [] => .nil
  | n :: ns => .cons (.str n) (dp_strs ns)
theorem lay_strs : ∀ ns : List Str, (∀ n ∈ ns, PyData.strOk n = true) → PyData.canLayAll0 (ns.map PyData.str) = true
  | [], _ => rfl
  | n :: ns, h => by
    show (PyData.canLay0 (.str n) && PyData.canLayAll0 (ns.map PyData.str)) = true
    rw [lay_strs ns fun m hm => h m (List.mem_cons_of_mem _ hm)]
    simp [PyData.canLay0, h n List.mem_cons_self]
theorem depth_strs : ∀ ns : List Str, PyData.depthAll (ns.map PyData.str) ≤ 1
  | [] => by simp [PyData.depthAll]
  | n :: ns => by
    have := depth_strs ns
    simp only [List.map_cons, PyData.depthAll, PyData.depth]
    omega
theorem shaped_strs (ns : List Str) (h : ∀ n ∈ ns, PyData.strOk n = true) : SeqAt.shaped (.tuple (ns.map PyData.str)) = true := by
  unfold SeqAt.shaped
  have h1 : PyData.canLay0 (.tuple (ns.map PyData.str)) = true := lay_strs ns h
  have h2 : (PyData.tuple (ns.map PyData.str)).depth ≤ 64 := by
    have := depth_strs ns
    simp only [PyData.depth]
    omega
  rw [h1, decide_eq_true h2]
  rfl
theorem eqv_strsAll : ∀ ns ms : List Str, PyData.eqvAll (ns.map PyData.str) (ms.map PyData.str) = decide (ns = ms)
  | [], [] => by simp [PyData.eqvAll]
  | [], _ :: _ => by simp [PyData.eqvAll]
  | _ :: _, [] => by simp [PyData.eqvAll]
  | n :: ns, m :: ms => by
    simp only [List.map_cons, PyData.eqvAll, PyData.eqv, eqv_strsAll ns ms]
    by_cases e : n = m <;> simp [e]
theorem eqv_strs (ns ms : List Str) : PyData.eqv (.tuple (ns.map PyData.str)) (.tuple (ms.map PyData.str)) = decide (ns = ms) := by
  show PyData.eqvAll _ _ = _
  exact eqv_strsAll ns ms
end Own

namespace Pl
open PySem L2 Own TL PyProof
/-! ### names by the methods of texts -/
def SIGNS : Str := "abcdefghijklmnopqrstuvwxyz0123456789"
def low1 (c : Nat) : Nat := if 65 ≤ c ∧ c ≤ 90 then c + 32 else c
theorem lower_ascii : ∀ c, c < 128 → Unicode.lowerOf c = [low1 c] := by decide +kernel
theorem alnum_low : ∀ c, c < 128 → (Unicode.isAlnum c = true ∧ low1 c = c ↔ c ∈ tl SIGNS) := by decide +kernel
theorem signs_lt : ∀ c, c ∈ tl SIGNS → c < 128 := by decide +kernel
theorem flat_single : ∀ (l : List Nat), (l.map fun c => [c]).flatten = l
  | [] => rfl
  | a :: l => by rw [List.map_cons, List.flatten_cons, flat_single l]; rfl
theorem lower_of {s : Str} (h : Txt.isascii s = true) : (Txt.lower s).cps = (s.cps.map low1) := by
  unfold Txt.isascii at h
  rw [Array.all_eq_true] at h
  show placed s _ = _
  unfold placed
  have e : (s.cps.mapIdx fun i c => (Unicode.lowerAt s.cps i).toArray) = s.cps.map fun c => #[low1 c] := by
    apply Array.ext
    · simp
    · intro i h1 h2
      simp only [Array.getElem_mapIdx, Array.getElem_map]
      have hi : i < s.cps.size := by simpa using h1
      have hc := h i hi
      have hc : s.cps[i] < 128 := of_decide_eq_true hc
      unfold Unicode.lowerAt
      rw [Array.getElem?_eq_getElem hi]
      dsimp only
      rw [show (s.cps[i] == 0x3A3) = false from beq_eq_false_iff_ne.mpr (by omega)]
      simp only [Bool.false_and, Bool.false_eq_true, if_false]
      rw [lower_ascii _ hc]
  rw [e]
  apply Array.ext'
  rw [Array.toList_flatten, Array.toList_map, Array.toList_map, List.map_map]
  have := flat_single (s.cps.toList.map low1)
  rw [List.map_map] at this
  exact this
theorem str_ext {s t : Str} (h : s.cps = t.cps) : s = t := by
  cases s; cases t; cases h; rfl
/-- what is_name looks at, behind the length -/
theorem name_look {s : Str} (h0 : 0 < s.length) : (Txt.isascii s && (Txt.isalnum s && decide (s = Txt.lower s))) = (tl s).all fun c => decide (c ∈ tl SIGNS) := by
  cases ha : Txt.isascii s with
  | false =>
    refine Eq.symm ?_
    rw [Bool.false_and]
    cases e : (tl s).all fun c => decide (c ∈ tl SIGNS) with
    | false => rfl
    | true =>
      rw [List.all_eq_true] at e
      unfold Txt.isascii at ha
      have : (s.cps.all fun x => decide (x < 128)) = true := by
        rw [Array.all_eq_true']
        intro c hc
        have := e c (by simpa [tl] using hc)
        exact decide_eq_true (signs_lt c (of_decide_eq_true this))
      rw [this] at ha
      cases ha
  | true =>
    have lo := lower_of ha
    unfold Txt.isascii at ha
    rw [Array.all_eq_true'] at ha
    have l128 : ∀ c, c ∈ tl s → c < 128 := fun c hc => of_decide_eq_true (ha c (by simpa [tl] using hc))
    rw [Bool.true_and]
    have e1 : Txt.isalnum s = (tl s).all Unicode.isAlnum := by
      show (decide (s.length > 0) && s.cps.all Unicode.isAlnum) = _
      rw [decide_eq_true h0, Bool.true_and]
      simp [tl]
    have e2 : decide (s = Txt.lower s) = (tl s).all fun c => decide (low1 c = c) := by
      cases e : (tl s).all fun c => decide (low1 c = c) with
      | true =>
        rw [List.all_eq_true] at e
        refine decide_eq_true (str_ext ?_)
        rw [lo]
        apply Array.ext'
        rw [Array.toList_map]
        have : s.cps.toList.map low1 = s.cps.toList.map id := List.map_congr_left fun c hc => of_decide_eq_true (e c hc)
        rw [this, List.map_id]
      | false =>
        refine decide_eq_false fun q => ?_
        have z : s.cps.toList.map low1 = s.cps.toList := by
          have e3 : s.cps = (Txt.lower s).cps := congrArg (fun t : Str => t.cps) q
          rw [lo] at e3
          have e4 := congrArg Array.toList e3
          rw [Array.toList_map] at e4
          exact e4.symm
        have y : ((tl s).all fun c => decide (low1 c = c)) = true := by
          rw [List.all_eq_true]
          intro c hc
          refine decide_eq_true ?_
          have : ∀ (l : List Nat), l.map low1 = l → ∀ c ∈ l, low1 c = c := by
            intro l
            induction l with
            | nil => intro _ c hc; cases hc
            | cons a l ih =>
              intro e c hc
              rw [List.map_cons] at e
              injection e with e1 e2
              cases hc with
              | head => exact e1
              | tail _ hc => exact ih e2 c hc
          exact this _ z c hc
        rw [y] at e
        cases e
    rw [e1, e2]
    have : ∀ l : List Nat, (∀ c ∈ l, c < 128) → (l.all Unicode.isAlnum && l.all fun c => decide (low1 c = c)) = l.all fun c => decide (c ∈ tl SIGNS) := by
      intro l
      induction l with
      | nil => intro _; rfl
      | cons a l ih =>
        intro h
        rw [List.all_cons, List.all_cons, List.all_cons, ← ih fun c hc => h c (List.mem_cons_of_mem _ hc)]
        have := alnum_low a (h a List.mem_cons_self)
        have e : decide (a ∈ tl SIGNS) = (Unicode.isAlnum a && decide (low1 a = a)) := by
          rw [← Bool.decide_eq_true (b := Unicode.isAlnum a), ← Bool.decide_and]
          exact decide_eq_decide.mpr this.symm
        rw [e]
        cases Unicode.isAlnum a <;> cases decide (low1 a = a) <;> cases l.all Unicode.isAlnum <;> rfl
    exact this _ l128
end Pl

open PySem L2
namespace Own
theorem kit_self {K : PySem.W.Frag} {C : Addr} (ht : PySem.W.typeIn K (.ref C) = some (.type "type")) (hm : PySem.W.mroIn K C (.ref C) = some true) : PySem.W.kitOne K (.ref C) (.ref C) = some true := by
  unfold PySem.W.kitOne
  by_cases e : (Value.ref C == Value.ref C) = true
  · rw [if_pos e]
  · rw [if_neg e]
    unfold PySem.W.kitCls
    have hc : (PySem.W.clsIn K C).isSome = true := by
      unfold PySem.W.mroIn at hm
      cases e : PySem.W.clsIn K C with
      | none =>
        rw [e] at hm
        cases hm
      | some _ => rfl
    show (if _ then _ else _) = _
    rw [if_pos (by
      rw [hc, ht]
      decide)]
    exact hm
theorem kit_tyC {K : PySem.W.Frag} {C : Addr} {b : Bool} {T : String} (ht : PySem.W.typeIn K (.ref C) = some (.type "type")) (hm : PySem.W.mroIn K C (.type "object") = some b) (hs : PySem.W.subIn K (.type T) (.ref C) = some false) :
    PySem.W.kitOne K (.type T) (.ref C) = some false := by
  unfold PySem.W.kitOne
  rw [if_neg (by
    intro z
    exact absurd z (by show ¬ (false = true); decide))]
  unfold PySem.W.kitCls
  have hc : (PySem.W.clsIn K C).isSome = true := by
    unfold PySem.W.mroIn at hm
    cases e : PySem.W.clsIn K C with
    | none =>
      rw [e] at hm
      cases hm
    | some _ => rfl
  show (if _ then _ else _) = _
  rw [if_pos (by
    rw [hc, ht]
    decide)]
  exact hs
theorem kit_Cty {K : PySem.W.Frag} {C : Addr} {T : String} {b : Bool} (hk : PySem.W.kitMeta T = true) (hs : PySem.W.mroIn K C (.type T) = some b) :
    PySem.W.kitOne K (.ref C) (.type T) = some b := by
  unfold PySem.W.kitOne
  rw [if_neg (by
    intro z
    exact absurd z (by show ¬ (false = true); decide))]
  unfold PySem.W.kitCls
  show (if _ then _ else _) = _
  rw [if_pos hk]
  exact hs
theorem sub_strC {K : PySem.W.Frag} {C : Addr} : PySem.W.subIn K (.type "str") (.ref C) = some false := by
  rfl
end Own

/-! An error that is caught and kept: it is told as a thing of its own behind its suite. -/
namespace Own
open PySem PySem.Spec PyProof.Rows L2
/-- at a: an error of this class, its dict d, that flies no more -/
def kex (a : Addr) (cls : Value) (d : Option Addr) : HO := .ext fun h => ∃ (oe : Obj) (vs : Array Value), h.get? a = some oe ∧ Zc cls d oe ∧ oe.data = .fields vs
theorem kex_ok {P : Program} {w : World} {H : Hp} {h : Heap} {a : Addr} {cls : Value} {d : Option Addr} {oe : Obj} {vs : Array Value} (e : h.get? a = some oe) (z : Zc cls d oe) (hd : oe.data = .fields vs) : ObjOk P w H h a (kex a cls d) :=
  ⟨⟨oe, vs, e, z, hd⟩, ⟨oe, e⟩, fun _ _ ⟨o, v, q, r⟩ k => ⟨o, v, k o q, r⟩⟩
theorem kex_at {P : Program} {w : World} {H : Hp} {h : Heap} {a : Addr} {cls : Value} {d : Option Addr} (hok : HOk P w H h) (he : H a = some (kex a cls d)) : ∃ (oe : Obj) (vs : Array Value), h.get? a = some oe ∧ Zc cls d oe ∧ oe.data = .fields vs := by
  have x : ObjOk P w H h a (.ext fun h => ∃ (oe : Obj) (vs : Array Value), h.get? a = some oe ∧ Zc cls d oe ∧ oe.data = .fields vs) := hok a _ he
  exact x.1
section
variable {X : Cx} {pins : List (Addr × Obj)} {σ : L2.St} {H : Hp} {s : Shared}
/-- an untracked thing of ours, new since the entry, is tracked from here on -/
theorem inv_track {a : Addr} {oe : Obj} {vs : Array Value} {cls : Value} {d : Option Addr} (I : Inv X pins σ H s) (n0 : X.s_0.heap.get? a = none) (ha : s.heap.get? a = some oe) (hz : Zc cls d oe) (hd : oe.data = .fields vs) (na : H a = none)
    (nL : a ≠ X.env.locals) (np : ∀ p ∈ X.pn ++ pins, p.1 ≠ a) : Inv X pins σ (upd H a (kex a cls d)) s := by
  refine ⟨I.ok, I.os, I.bare, ⟨I.base.keep, I.base.slot, fun b o e n hx => ?_, I.base.there, fun b xs e => ?_, fun b o u e => ?_, fun b ps e => ?_⟩, I.loc, I.cell, ?_, fun x c e => ?_, fun p hp => ?_, ?_, I.len⟩
  · rw [upd_ne (fun z => by rw [z, n0] at e; cases e)]
    exact I.base.free b o e n hx
  · rw [upd_ne (ne_of_none (I.base.tups b xs e) na)]
    exact I.base.tups b xs e
  · rw [upd_ne (ne_of_none (I.base.frzs b o u e) na)]
    exact I.base.frzs b o u e
  · obtain ⟨m, q⟩ := I.base.tbls b ps e
    exact ⟨m, by rw [upd_ne (ne_of_none q na)]; exact q⟩
  · rw [upd_ne (Ne.symm nL)]
    exact I.free
  · have hc : c ≠ a := fun z => by
      obtain ⟨v, o, ho, hv⟩ := I.cell x c e
      rw [z, ha] at ho
      cases ho
      rw [hd] at hv
      cases hv
    rw [upd_ne hc]
    exact I.freeC x c e
  · obtain ⟨e, n, ne, nf, q⟩ := I.pin p hp
    exact ⟨e, by rw [upd_ne (np p hp)]; exact n, ne, nf, q⟩
  · exact I.hok.laidN (fun _ _ q => q) na (kex_ok ha hz hd)
/-- what the clause wishes: behind it the error is kept -/
def wKeep (K : PySem.W.Frag) (c : Value) (i : Nat) (ts : Addr → Value → Option Addr → TS) (Wout : WX) (D : Ends) : WX := fun cls d σ H =>
  ∃ b, PySem.W.exmOne K cls c = some b ∧ (b = true → ∀ a, H a = none → ts a cls d { nx := fun σ' H' => H' a = none ∧ D.nx (σ'.set i none) (upd H' a (kex a cls d)), rt := fun _ _ => False, bk := fun _ _ => False, ct := fun _ _ => False } (σ.set i (some (.ref a))) H) ∧
    (b = false → Wout cls d σ H)
/-- an error in the air over this frame, and all that is known of the rest -/
structure Air (X : Cx) (pins : List (Addr × Obj)) (σ : L2.St) (H : Hp) (a : Addr) (cls : Value) (d : Option Addr) (B : Heap) (r : Shared) : Prop where
  up : HandSPX.FlyingZ B (X.env :: X.outer) a (Zc cls d) r.heap
  rest : ∀ h, HandSPX.FlyingZ B (X.env :: X.outer) a (Zc cls d) h → r.heap.UpToSlots h → Inv X pins σ H { r with heap := h }
  out : ∀ (W : WX) h, HandSPX.HeldZ B (X.env :: X.outer) a (Zc cls d) X.env.locals h → r.heap.UpToSlots h → W cls d σ H → XE X W (.ref a) { r with heap := h }
  gone : H a = none
  fresh : X.s_0.heap.get? a = none
  apart : ∀ p ∈ X.pn ++ pins, p.1 ≠ a
section
variable {a : Addr} {cls : Value} {d : Option Addr} {B : Heap} {r : Shared}
theorem not_frame {l : List Env} {h : Heap} (f : HandSPX.FlyingZ B l a (Zc cls d) h) : a ∉ frs l := by
  intro m
  obtain ⟨oe, vs, e, _, q⟩ := f.there
  obtain ⟨_, o, e', no⟩ := f.2.2.1.mem m
  cases e.symm.trans e'
  exact no vs q
theorem Air.offFrame (L : Air X pins σ H a cls d B r) (hf : X.env.frame = some X.env.locals) : a ≠ X.env.locals ∧ a ∉ X.fs := by
  have no := not_frame L.up
  constructor
  · intro z
    exact no (List.mem_filterMap.mpr ⟨X.env, List.mem_cons_self, hf.trans (congrArg some z.symm)⟩)
  · intro m
    obtain ⟨e, q1, q2⟩ := List.mem_filterMap.mp m
    exact no (List.mem_filterMap.mpr ⟨e, List.mem_cons_of_mem _ q1, q2⟩)
/-- what left the body is seen in the air, once this frame has noted it -/
theorem air_of {W : WX} {u : Value} {s' : Shared} {E : Value → Shared → Prop} {Q : Unit → Shared → Prop} {pn : List (Addr × Obj)} {xe : Value → Shared → Prop} (ok : X.Ok) (hs : X.stack = X.env :: X.outer) (hf : X.env.frame = some X.env.locals) (hex : X.ex = [])
    (hpn : pn = X.pn ++ pins) (x : XE (X.tr pn xe) W u s') (k : ∀ σ H a cls d B r, u = .ref a → Air X pins σ H a cls d B r → W cls d σ H → Q () r) :
    wpAny (model X.prog X.w) X.A (noteFrame u X.env) (fun _ s2 => wpAny (model X.prog X.w) X.A (setFlight u none) Q E s2) E s' := by
  subst hpn
  obtain ⟨a, B, sI, _, σ, H, cls, d, rfl, J, nb, up, sky, na, os, ag, w⟩ := x
  have J := J.ofTry ok
  have sk : Sky B (X.env :: X.outer) a (Zc cls d) X.env.locals s'.heap := hs ▸ sky
  refine Sky.land Zc.steady (by rw [ok.frames, hs]) hf sk fun h fl uh => ?_
  have nI : sI.heap.get? a = none := by
    cases e : sI.heap.get? a with
    | none => rfl
    | some o => exact absurd ((nb a o e (hs.symm ▸ not_frame fl)).symm.trans fl.2.1) (by simp)
  refine k σ H a cls d B { s' with heap := h } rfl ⟨fl, fun h2 f2 u2 => J.landed nb f2.1 ((up.trans uh).trans u2) os ag, fun W h2 g2 u2 w2 => ?_, na, ?_, fun p hp z => ?_⟩ w
  · exact ⟨a, B, sI, _, σ, H, cls, d, rfl, J, nb, (up.trans uh).trans u2, .inr (.inr (hs.symm ▸ g2)), na, os, ag, w2⟩
  · cases e : X.s_0.heap.get? a with
    | none => rfl
    | some o =>
      obtain ⟨o', q⟩ := J.base.there a o e (by rw [hex]; simp)
      exact absurd (q.symm.trans nI) (by simp)
  · have q := (J.pin p hp).1
    rw [z, nI] at q
    cases q
end
variable {x n : Str} {c : Value} {i : Nat} {body suite : List Stmt} {b₀ : Stmt} {np pos pos' : Pos} {tb : WX → TS} {ts : Addr → Value → Option Addr → TS} {Wout : WX}
/-- the clause's class is looked up -/
theorem names_run {Z : Cx} {Q : Value → Shared → Prop} {E : Value → Shared → Prop} (hc : Names Z x c) (I : Inv Z pins σ H s) (q : Q c s) : wpAny (model Z.prog Z.w) Z.A (eval (.Name x np) Z.env) Q E s := by
  rcases hc with ⟨g, nd, m | ⟨m, v, nn⟩⟩
  · exact ld_glob I g m q nd
  · exact ld_blt I g m v q nn nd
/-- the clause looks at an error in the air: it is kept, or flies on -/
theorem clause_keep {a : Addr} {cls : Value} {d : Option Addr} {B : Heap} {r : Shared} {D : Ends} (L : Air X pins σ H a cls d B r) (ok : X.Ok) (hs : X.stack = X.env :: X.outer) (hf : X.env.frame = some X.env.locals) (hN : X.N.Nodup) (hi : X.N[i]? = some n)
    (hln : X.env.kindOf n = some .local) (hc : Names X x c) (tk : Takes X Wout) (w : wKeep X.K c i ts Wout D cls d σ H)
    (hsu : ∀ (a : Addr) (oe : Obj) (cls : Value) (d : Option Addr) (pn : List (Addr × Obj)), Zc cls d oe → (∃ vs, oe.data = .fields vs) → PSs (X.suite a ((a, oe) :: pn)) (b₀ :: suite) (ts a cls d)) :
    wpAny (model X.prog X.w) X.A (handleBy (.ref a) X.env [.ExceptHandler (some (.Name x np)) (some n) (b₀ :: suite) pos']) (SP X pins D) X.xe r := by
  obtain ⟨nL, nF⟩ := L.offFrame hf
  have look : ∀ h, HandSPX.FlyingZ B (X.env :: X.outer) a (Zc cls d) h → r.heap.UpToSlots h → ∃ oe, Zc cls d oe ∧ (∃ vs, oe.data = .fields vs) ∧ h.get? a = some oe ∧ Inv (X.suite a ((a, oe) :: (X.pn ++ pins))) [] σ H { r with heap := h } := fun h f u => by
    obtain ⟨oe, vs, e, z, q⟩ := f.there
    exact ⟨oe, z, ⟨vs, q⟩, e, (L.rest h f u).suite e q L.gone nL nF⟩
  obtain ⟨oe, z, ⟨vs, q⟩, e, S⟩ := look r.heap L.up (Heap.UpToSlots.refl _)
  obtain ⟨b, hb, yes, no⟩ := w
  have T : PySem.W.Looks (model X.prog X.w) r.heap (typeOf (.ref a)) cls := fun _ _ _ _ k g => wpAny_typeOf_ref (k _ _ e) (by rw [z.1]; exact g)
  refine wpAny_handleBy_cons (codeAny_handlers_test (names_run (Z := X.suite a ((a, oe) :: (X.pn ++ pins))) hc S ((PySem.W.exm_one (M := model X.prog X.w) S.kIn T hb).here ?_))) (by intro q; cases q)
  cases b with
  | true =>
    refine codeAny_handlers_suite_as (HandSPX.lands_againZ L.up fun h f u => ?_)
    obtain ⟨o2, z2, ⟨v2, q2⟩, e2, S2⟩ := look h f u
    refine store_ok (X := X.suite a ((a, o2) :: (X.pn ++ pins))) (v := .ref a) S2 hN hi (.inl hln) rfl (fun s5 S5 => ?_) (.inr hln)
    refine wpAny_mono ((hsu a o2 cls d _ z2 ⟨v2, q2⟩).run [] s5 _ H _ S5 (yes rfl a L.gone)) (fun f s6 g => ?_) (fun _ _ g => g.elim)
    cases f with
    | next =>
      obtain ⟨σ6, H6, S6, n6, g6⟩ := g
      obtain ⟨e6, _⟩ := S6.pin (a, o2) (List.mem_append_left _ List.mem_cons_self)
      exact gone_ok (inv_track (S6.unsuite ok) L.fresh e6 z2 q2 n6 nL L.apart) hN hi hln fun s7 J => ⟨_, _, J, g6⟩
    | brk => exact (show False by obtain ⟨_, _, _, g⟩ := g; exact g).elim
    | cont => exact (show False by obtain ⟨_, _, _, g⟩ := g; exact g).elim
    | ret u => exact (show False by obtain ⟨_, _, _, _, _, g⟩ := g; exact g).elim
  | false =>
    refine wpAny_handleBy_nil ?_
    obtain ⟨_, _, _, o3, v3, t, _, _, e3, _, q3, l3, _⟩ := L.up
    have go : wpAny (model X.prog X.w) X.A (setFlight (.ref a) X.env.frame) (fun _ s4 => wpAny (model X.prog X.w) X.A (throw (.ref a) : Sem Flow) (SP X pins D) X.xe s4) X.xe r := by
      rw [hf]
      exact HandSPX.setFlight_upZ L.up fun h g u => wpAny_throw (tk _ _ (L.out Wout h g u (no rfl)))
    unfold PySem.passOn
    refine wpAny_bind (wpAny_field e3 q3 l3 ?_)
    rw [if_neg (by simp : ¬ (Value.ref t == Value.none) = true)]
    first
      | exact wpAny_bind (wpAny_pure (wpAny_bind go))
      | exact wpAny_bind go
/-- try: .. except C as n: (a suite that keeps n) -/
theorem ps_try_keep (hs : X.stack = X.env :: X.outer) (hf : X.env.frame = some X.env.locals) (hex : X.ex = []) (hN : X.N.Nodup) (hi : X.N[i]? = some n) (hln : X.env.kindOf n = some .local) (hc : Names X x c) (tk : Takes X Wout)
    (hb : ∀ (W : WX) (pn : List (Addr × Obj)) (xe : Value → Shared → Prop), Takes (X.tr pn xe) W → PassesOwn (model X.prog X.w) X.A X.env xe → PSs (X.tr pn xe) body (tb W))
    (hsu : ∀ (a : Addr) (oe : Obj) (cls : Value) (d : Option Addr) (pn : List (Addr × Obj)), Zc cls d oe → (∃ vs, oe.data = .fields vs) → PSs (X.suite a ((a, oe) :: pn)) (b₀ :: suite) (ts a cls d)) :
    PS X (.Try body [.ExceptHandler (some (.Name x np)) (some n) (b₀ :: suite) pos'] [] [] pos) (fun D σ H => tb (wKeep X.K c i ts Wout D) D σ H) := by
  constructor
  intro pins s σ H D I h
  have ok := I.ok
  have run := (hb (wKeep X.K c i ts Wout D) (X.pn ++ pins) (fun u s₁ => wpAny (model X.prog X.w) X.A (noteFrame u X.env) (fun _ s₂ => wpAny (model X.prog X.w) X.A (setFlight u none) (fun _ s₃ =>
    wpAny (model X.prog X.w) X.A (handleBy u X.env [.ExceptHandler (some (.Name x np)) (some n) (b₀ :: suite) pos']) (SP X pins D) X.xe s₃) X.xe s₂) X.xe s₁)
    (fun u s' g => air_of ok hs hf hex rfl g fun _ _ a _ _ _ r e L w => by rw [e]; exact clause_keep L ok hs hf hN hi hln hc tk w hsu) PassesOwn.looking).run [] s σ H D (I.toTry _) h
  refine wpAny_Try_except (wpAny_mono run (fun f s1 g => ?_) fun _ _ g => g)
  cases f with
  | next =>
    obtain ⟨_, _, J, q⟩ := g
    exact wpAny_execs_nil ⟨_, _, J.ofTry ok, q⟩
  | ret u =>
    obtain ⟨_, _, _, J, r, q⟩ := g
    exact ⟨_, _, _, J.ofTry ok, r, q⟩
  | brk =>
    obtain ⟨_, _, J, q⟩ := g
    exact ⟨_, _, J.ofTry ok, q⟩
  | cont =>
    obtain ⟨_, _, J, q⟩ := g
    exact ⟨_, _, J.ofTry ok, q⟩
end
/-! ### what is asked of a kept error -/
section
variable {X : Cx}
/-- e.f, e a kept error of the class at C -/
def tKxf (C : Addr) (f : Str) (te : TE) : TE := fun σ H Q => te σ H fun x H1 => ∃ (a dd : Addr) (fs : List (Str × V)) (v : V), x = .ref a ∧ H1 a = some (kex a (.ref C) (some dd)) ∧ H1 dd = some (.xd fs) ∧ fs.lookup f = some v ∧ Q v H1
theorem pe_kxf {C : Addr} {e : Expr} {te : TE} {pos : Pos} {n : Str} (T : XfC X.K C) (hno : PySem.W.findIn X.K (.ref C) n = some none) (he : PE X e te) (hb : attributeBase e n X.env (eval e X.env) = eval e X.env := by rfl) :
    PE X (.Attribute e n pos) (tKxf C n te) := by
  refine ⟨fun pins s σ H Q I h => ?_⟩
  refine attr_of hb (thn (he.run pins s σ H _ I h) fun u s1 hh => ?_)
  obtain ⟨x, H1, I1, rx, a, dd, fs, v, ex, ek, ea, l, q⟩ := hh
  subst ex
  obtain rfl : u = Value.ref a := rx
  obtain ⟨oe, vs, ha, hz, hd⟩ := kex_at I1.hok ek
  have hx : ObjOk X.prog X.w H1 s1.heap dd (.xd fs) := I1.hok dd _ ea
  obtain ⟨mA, hns, hr⟩ := hx
  obtain ⟨od, ho, hl⟩ := lookIn_ns hns
  obtain ⟨u, hu, ru⟩ := RelO.some_of (v := v) (o := mA n) (by rw [← l]; exact hr n)
  have J : PySem.W.InstAt s1.heap a oe C (some od) := ⟨ha, hz.1, by unfold PySem.W.notCls; rw [hd] <;> rfl, by rw [hz.2]; exact ho⟩
  exact HandSPX.exc_get I1.kIn J T.ga T.gg T.exC (PySem.W.findObj_own T.hdC hno rfl (by rw [hl, hu])) (handed_of ru) ⟨v, H1, I1.tok _, ru, q⟩
end
end Own

/-! isinstance of a kept error. -/
namespace Own
open PySem PySem.Spec PySem.Calls PyProof.Rows PySem.W L2
section
variable {prog : Program} {w : World} {A : Around} {E : Value → Shared → Prop} {K : Frag} {x D : Addr} {ox : Obj} {od : Option Obj}
theorem err_find (T : ExcC K D) : findObj K D od "__class__" = some (.bind (.builtin "getset_descriptor.__get__") (.builtin "object.__class__")) := by
  have hc : (clsIn K D).isSome = true := by
    obtain ⟨cd, e, _⟩ := any_some T.hd
    rw [e]
    rfl
  cases od with
  | none => exact findObj_dataN hc T.ha T.hn T.ht
  | some o => exact findObj_data hc T.ha T.hn T.ht
/-- an error is asked for its class -/
theorem err_class {Q : Option Value → Shared → Prop} {h : Heap} {g : Array GenState} {d : Drawn} {t : Nat} {os : OsState} (T : ExcC K D) (X : K.In h) (I : InstAt h x ox D od) (q : Q (some (.ref D)) ⟨h, g, d, t + 1, os⟩) :
    wpAny (model prog w) A (getAttr? (.ref x) "__class__") Q E ⟨h, g, d, t, os⟩ := by
  have ty := I.type (M := model prog w)
  have nb : (Value.builtin "BaseException.__getattribute__" == Value.builtin "object.__getattribute__") = false := by decide +kernel
  have inner : wpAny (model prog w) A (call (.builtin "BaseException.__getattribute__") [.ref x, .str "__class__" t]) (fun v s' => v = .ref D ∧ s' = (⟨h, g, d, t + 1, os⟩ : Shared)) (fun _ _ => False) ⟨h, g, d, t + 1, os⟩ := by
    refine wpAny_call (codeAny_call_builtin PySem.F.excAttr_ValueError.ga.plain PySem.F.entry_bexc_ga ?_)
    refine @check_slot (model prog w) _ _ ⟨h, g, d, t + 1, os⟩ "BaseException.__getattribute__" "BaseException" "__getattribute__" (.ref x) [.str "__class__" t] [] _ (by decide +kernel) (by decide +kernel) (ty.andThen (looks_subIn X T.hs)) (PySem.F.args_bexc_ga _ _) ?_
    unfold Builtin.«object.__getattribute__»
    refine wpAny_bind (wpAny_of_eq (a := ((Value.ref x : Value), [Value.str "__class__" t])) (by simp only [slotArgs]; rfl) (wpAny_bind (wpAny_pure (wpAny_bind (ty.at (wpAny_bind ((looks_find X I (err_find T)).at ?_)))))))
    show wpAny _ _ (holding [Value.builtin "object.__class__"] (call (.builtin "getset_descriptor.__get__") [.builtin "object.__class__", .ref x, .ref D]) >>= ret) _ _ _
    refine wpAny_bind (wpAny_holding (wpAny_call (class_get (s := ⟨h, g, d, t + 1, os⟩) X I T.hm (wpAny_pure ?_))))
    exact ⟨rfl, rfl⟩
  unfold getAttr? getAttrBy? getAttrBy
  refine wpAny_bind (wpAny_mkText (wpAny_bind (wpAny_attempt (wpAny_holding (wpAny_bind (ty.at (wpAny_bind ((looks_findIn X T.hg).at ?_))))))))
  show wpAny _ _ (if (onTheHeap (Value.ref D) && Value.builtin "BaseException.__getattribute__" == Value.builtin "object.__getattribute__") = true then _ else _) _ _ _
  rw [if_neg (by rw [nb]; simp)]
  unfold getAttrByItsOwn hookBefore
  refine wpAny_bind ?_
  rw [if_pos (show onTheHeap (Value.ref D) = true from rfl)]
  refine (looks_findIn X T.hk).at (wpAny_bind (wpAny_attempt (wpAny_holding ?_)))
  unfold callGetattribute
  rw [if_neg (show ¬ (false && onTheHeap (Value.builtin "BaseException.__getattribute__")) = true by simp)]
  unfold boundAndCalled
  rw [PySem.F.excAttr_ValueError.ga.bind (.ref x)]
  refine wpAny_bind (wpAny_pure (wpAny_mono inner (fun v s' z => ?_) fun _ _ z => z.elim))
  obtain ⟨rfl, rfl⟩ := z
  show wpAny _ _ (handedOut (.ref D)) _ _ _
  rw [handedOut_of (v := .ref D) rfl]
  first
    | exact wpAny_pure (wpAny_bind (wpAny_pure (wpAny_pure q)))
    | exact wpAny_pure (wpAny_pure q)
    | exact wpAny_pure q
theorem err_kit (T : ExcC K D) : KitX K (.ref x) (.ref D) (fun h => InstAt h x ox D od) := by
  obtain ⟨cd, e, _⟩ := any_some T.hd
  unfold clsIn at e
  split at e
  · rename_i oc dd c sl lk
    exact ⟨fun _ _ _ I => I.type, fun _ _ X _ A' Q' E' s' k q => by
        unfold isType loadHead
        exact wpAny_bind (wpAny_loadPart (k _ _ (X _ _ lk)) (wpAny_pure q)), fun h tp dd its n sl X htp => by
        by_cases z : D = tp
        · subst z
          cases (X _ _ lk).symm.trans htp
        · exact Bool.eq_false_iff.mpr fun q => z (Value.ref.inj (beq_iff_eq.mp q)), fun {prog w A E Q s} X I q => by
        obtain ⟨h, g, d, t, os⟩ := s
        exact err_class T X I q⟩
  · cases e
end
/-- isinstance(e, C), e a kept error -/
def rIsK (K : PySem.W.Frag) : List V → Hp → VK → Prop := fun xs H Q => ∃ (a D : Addr) (d : Option Addr) (c : V) (cv : Value) (b : Bool), xs = [.ref a, c] ∧ H a = some (kex a (.ref D) d) ∧ (∀ dd, d = some dd → ∃ fs, H dd = some (.xd fs)) ∧ ExcC K D ∧ ClsV c cv ∧ PySem.W.kitOne K (.ref D) cv = some b ∧ Q (.bl b) H
/-- the error's object as an instance -/
theorem kex_inst {X : Cx} {pins : List (Addr × Obj)} {σ : L2.St} {H : Hp} {s : Shared} {a D : Addr} {d : Option Addr} (I : L2.Inv X pins σ H s) (ha : H a = some (kex a (.ref D) d)) (hd : ∀ dd, d = some dd → ∃ fs, H dd = some (.xd fs)) :
    ∃ ox od, InstAt s.heap a ox D od := by
  obtain ⟨oe, vs, e, z, q⟩ := kex_at I.hok ha
  have nc : PySem.W.notCls oe = true := by
    unfold PySem.W.notCls
    rw [q] <;> rfl
  cases d with
  | none => exact ⟨oe, none, e, z.1, nc, by rw [z.2]; trivial⟩
  | some dd =>
    obtain ⟨fs, h⟩ := hd dd rfl
    have hx : ObjOk X.prog X.w H s.heap dd (.xd fs) := I.hok dd _ h
    obtain ⟨mA, hns, _⟩ := hx
    obtain ⟨od, ho, _⟩ := lookIn_ns hns
    exact ⟨oe, some od, e, z.1, nc, by rw [z.2]; exact ho⟩
theorem call_isK {X : Cx} : CallR X (.builtin "isinstance") (rIsK X.K) := by
  intro pins s σ H xs us Q I r h
  obtain ⟨a, D, d, c, cv, b, rfl, ha, hd, T, hc, e, q⟩ := h
  cases r with
  | cons rx rr =>
    cases rr with
    | cons rt rr =>
      cases rr
      cases rx
      obtain ⟨ox, od, J⟩ := kex_inst I ha hd
      cases hc
      all_goals cases rt
      all_goals exact kia_one (err_kit (ox := ox) (od := od) T) I.kIn J e (fun z => nomatch z) fun tk => ⟨.bl b, H, I.kept (t' := tk) fun _ _ z => z, rfl, q⟩
end Own

/-! Defs whose promise holds while no repr is under way. -/
namespace Own
open PySem PySem.Spec PyProof.Rows L2
def FnG (P : Program) (w : World) (K : PySem.W.Frag) (mg : Str → Option Value) (base : Heap) (CX : CXT) (k : Nat) (f : Addr) (sp : Sp) : Prop :=
  ∀ (A : Around) (outer : List Env) (s : Shared) (H : Hp) (us : List Value) (vs : List V) (Q : VK) (E : XK), Room k A → A.guards = some [] → Env0 P w K mg base A outer s H → Vals vs us → sp vs H Q E →
    codeAny (model P w) A (.call (.ref f) ⟨us, []⟩) (CR CX outer P w H s Q E) s
section
variable {P : Program} {w : World} {K : PySem.W.Frag} {mg : Str → Option Value} {base : Heap} {CX : CXT} {k : Nat} {f : Addr} {fd : FuncData} {ps N : List Str} {sp : Sp} {x qual : Str} {st : Stmt}
theorem FnG.of_R (F : FnR P w K mg base CX k f sp) : FnG P w K mg base CX k f sp := fun A outer s H us vs Q E hr _ => F A outer s H us vs Q E hr
theorem FnG.mono {j : Nat} (F : FnG P w K mg base CX j f sp) (h : j ≤ k) : FnG P w K mg base CX k f sp := fun A outer s H us vs Q E hr => F A outer s H us vs Q E (hr.mono h)
theorem fnG_of (F : Fun K x qual st f fd) (S : FnScope N ps (defScope st)) (hb : L2.Binds K fd ps []) (len : ∀ vs H Q E, sp vs H Q E → vs.length = ps.length)
    (body : ∀ (cdv : Value) (A : Around) (outer : List Env) (s : Shared) (H : Hp) (vs : List V) (Q : VK) (E : XK), Room k (A.deeper (envOfC qual (defScope st) s.heap.objs.size f cdv)) → (A.deeper (envOfC qual (defScope st) s.heap.objs.size f cdv)).guards = some [] → sp vs H Q E →
      ∃ t, PSs (cxOf CX P w K mg base N qual (defScope st) f cdv A outer s H E) (defBody st) t ∧ t { nx := fun _ H' => Q .non H', rt := Q } (L2.start N vs) H) :
    FnG P w K mg base CX (k + 1) f sp := by
  intro A outer s H us vs Q E hr hg e0 r h
  have hl := len _ _ _ _ h
  have b := hb s us (e0.mod.kin.keeps fun b o e => (e0.bs b o e).1) (by rw [List.append_nil, ← r.length]; exact hl)
  rw [List.append_nil] at b
  obtain ⟨oc, od, kV, doc, pm, an, cdv, ct, osl, rfl, lk, hcd⟩ := F.ex
  exact LamX.run_ofS lk hcd S hr e0 b r hl fun hr' => body cdv A outer s H vs Q E hr' hg h
end
section
variable {X : Cx} {CX : CXT} {k : Nat} {f : Addr} {sp : Sp} {E : XK}
/-- the def at f, called with values -/
theorem callG (F : FnG X.prog X.w X.K X.mg X.base CX k f sp) (hr : Room k X.A) (hg : X.A.guards = some []) (hx : Passes CX X E) : CallR X (.ref f) (fun vs H Q => sp vs H Q E) := by
  intro pins s σ H vs us Q I r h
  refine wpAny_call (codeAny_mono (F X.A X.stack s H us vs Q E hr hg I.env0 r h) fun r s' hq => ?_)
  cases r with
  | error e => exact hx pins σ H s e s' I hq
  | ok fl =>
    cases fl with
    | ret u => exact I.after hq
    | next => exact hq.elim
    | brk => exact hq.elim
    | cont => exact hq.elim
/-- a global def, by its promise as a CallR -/
theorem pe_callRef {r : List V → Hp → VK → Prop} {x : Str} {e : Expr} {es : List Expr} {t : TA} {p pos : Pos} (hc : CallR X (.ref f) r) (hg : Gl X x) (hm : X.mg x = some (.ref f)) (hk : PySem.W.keepIn X.K (.ref f) = true) (ha : PA X (e :: es) t)
    (hdb : (x == ("__debug__" : Str)) = false := by decide) (he : starEach (e :: es) X.env = (false, eval e X.env) :: starEach es X.env := by rfl) (hpl : (backTo pos (starEach es X.env)).any (·.1) = false := by rfl) :
    PE X (.Call (.Name x p) (e :: es) [] pos) (fun σ H Q => t σ H fun vs H1 => r vs H1 Q) :=
  ⟨fun pins s σ H _ I h => wpAny_Call_Name_kw (ld_glob I hg hm (PySem.W.callWith_K (h₀ := X.base) I.ok.mod.kin hk (thn (ha.run pos pins s σ H _ I h) fun _ s1 ⟨_, _, I1, rv, q⟩ => ⟨I1.kIn, hc pins s1 σ _ _ _ _ I1 rv q⟩) he hpl) hdb)⟩
end
end Own

/-! repr of nested things, own ones among them. -/
namespace Own
open PySem PySem.Spec PySem.Calls PyProof.Rows L2
/-- repr tells t of x, whatever stands under way but the objects of as -/
def RU (X : Cx) (as : List Addr) (k : Nat) (H : Hp) (x : V) (t : Str) : Prop :=
  ∀ (base : Nat) (A : Around) (g : List Code) (pins : List (Addr × Obj)) (σ : L2.St) (H1 : Hp) (s : Shared) (u : Value) (Q : Str → Shared → Prop) (E : Value → Shared → Prop), base + t.length ≤ sizeLine → Room k A → A.frames = X.A.frames → A.guards = some g → (∀ b ∈ as, Clear g b) →
    Same H H1 → Inv X pins σ H1 s → RelV x u → (∀ H2 s', Same H1 H2 → Inv X pins σ H2 s' → Q t s') → wpAny (model X.prog X.w) A (pyReprUnder base u) Q E s
inductive RUs (X : Cx) (as : List Addr) (k : Nat) (H : Hp) : List V → List Str → Prop
  | nil : RUs X as k H [] []
  | cons {x : V} {t : Str} {xs : List V} {ts : List Str} : RU X as k H x t → RUs X as k H xs ts → RUs X as k H (x :: xs) (t :: ts)
theorem room_guard {k : Nat} {A : Around} {id : String} {args : Args} (h : Room (k + 1) A) (hw : (Code.builtin id args).weight ≤ 1) (hu : (Code.builtin id args).cUnits ≤ 1) : Room k (A.under (.builtin id args)) :=
  ⟨h.hd, by
    have := h.dp
    show A.depth + (Code.builtin id args).weight + 3 * k + 5 < recursionLimit
    omega, by
    have := h.un
    show A.units + (Code.builtin id args).cUnits + 16 * k + 200 < cLine
    omega⟩
section
variable {X : Cx} {as : List Addr} {k : Nat} {H : Hp}
theorem RUs.len : ∀ {xs : List V} {ts : List Str}, RUs X as k H xs ts → ts.length = xs.length
  | _, _, .nil => rfl
  | _, _, .cons _ r => congrArg (· + 1) r.len
theorem RU.leaf {x : V} {t : Str} (h : ∀ u, RelV x u → ReprIs X.prog X.w u t) : RU X as k H x t := fun base A _ _ _ H1 s u Q E hz _ _ _ _ _ I r q => h u r base hz A E s Q fun _ => q H1 _ (Same.refl _) (I.tok _)
theorem RU.more {as' : List Addr} {k' : Nat} {x : V} {t : Str} (h : RU X as k H x t) (hs : ∀ b ∈ as, b ∈ as') (hd : k ≤ k') : RU X as' k' H x t :=
  fun base A g pins σ H1 s u Q E hz hr hf hg hc => h base A g pins σ H1 s u Q E hz (hr.mono hd) hf hg (fun b hb => hc b (hs b hb))
theorem RU.mono {H' : Hp} {x : V} {t : Str} (h : RU X as k H x t) (hs : Same H H') : RU X as k H' x t :=
  fun base A g pins σ H1 s u Q E hz hr hf hg hc s1 => h base A g pins σ H1 s u Q E hz hr hf hg hc (hs.trans s1)
theorem RU.non : RU X as k H .non "None" := RU.leaf fun u r => by
  cases (show u = Value.none from r)
  exact ReprIs.none
theorem RU.bl (b : Bool) : RU X as k H (.bl b) (if b then "True" else "False") := RU.leaf fun u r => by
  cases (show u = Value.bool b from r)
  exact ReprIs.bool b
theorem RU.int (i : Int) (h : i.natAbs.log2 < 1920) : RU X as k H (.int i) (toString i) := RU.leaf fun u r => by
  obtain ⟨tk, rfl⟩ := (show ∃ tk, u = Value.int i tk from r)
  exact ReprIs.int tk h
theorem RU.str (y : Str) (h : (reprText y).length ≤ sizeLine) : RU X as k H (.str y) (reprText y) := RU.leaf fun u r => by
  obtain ⟨tk, rfl⟩ := (show ∃ tk, u = Value.str y tk from r)
  exact ReprIs.str y tk h
/-! ### tuples -/
theorem ru_fold {A : Around} {g : List Code} {E : Value → Shared → Prop} {pins : List (Addr × Obj)} {σ : L2.St} (hr : Room k A) (hf : A.frames = X.A.frames) (hg : A.guards = some g) (hc : ∀ b ∈ as, Clear g b) {xs : List V} {ts : List Str} (h : RUs X as k H xs ts) :
    ∀ (us : List Value) (acc : Array Str) (n : Nat) (H1 : Hp) (s : Shared) (Q : (Array Str × Nat) → Shared → Prop), Vals xs us → n + piled ts ≤ sizeLine → Same H H1 → Inv X pins σ H1 s →
      (∀ H2 s', Same H1 H2 → Inv X pins σ H2 s' → Q (acc ++ ts.toArray, n + piled ts) s') → wpAny (model X.prog X.w) A (forIn us ((acc, n) : Array Str × Nat) tupBody) Q E s := by
  induction h with
  | nil =>
    intro us acc n H1 s Q r hn s1 I q
    cases r
    have z := q H1 s (Same.refl _) I
    rw [List.forIn_nil]
    exact wpAny_pure (by simpa [piled] using z)
  | cons hx h ih =>
    rename_i x t xs ts
    intro us acc n H1 s Q r hn s1 I q
    cases r with
    | cons rx r =>
      rename_i u us
      rw [piled_cons] at hn
      rw [List.forIn_cons]
      refine wpAny_bind (wpAny_bind (hx (n + 1) A g pins σ H1 s u _ E (by omega) hr hf hg hc s1 I rx fun H2 s' s2 I2 => wpAny_pure ?_))
      refine ih us (acc.push t) (n + (t.length + 2)) H2 s' Q r (by omega) (s1.trans s2) I2 fun H3 s'' s3 I3 => ?_
      have z := q H3 s'' (s2.trans s3) I3
      rw [show n + piled (t :: ts) = n + (t.length + 2) + piled ts by rw [piled_cons]; omega] at z
      simpa using z
theorem frames_tup (args : Args) : (Code.builtin "tuple.__repr__" args).frames = 0 := by first | rfl | simp [Code.frames, Code.isFrame]
theorem weight_tup (args : Args) : (Code.builtin "tuple.__repr__" args).weight ≤ 1 := by
  have h2 : (Code.builtin "tuple.__repr__" args).isCreation = false := by first | rfl | simp [Code.isCreation]
  have h3 : (Code.builtin "tuple.__repr__" args).isCaller = false := by first | rfl | simp [Code.isCaller]
  unfold Code.weight
  rw [frames_tup, h2, h3]
  generalize (Code.builtin "tuple.__repr__" args).isGuard = b
  cases b <;> decide
theorem units_tup (args : Args) : (Code.builtin "tuple.__repr__" args).cUnits ≤ 1 := by
  show 1 + 3 * (Code.builtin "tuple.__repr__" args).frames ≤ 1
  rw [frames_tup]
  decide
theorem frames_tupU (args : Args) : (Code.builtin "tuple.__repr__.under" args).frames = 0 := by first | rfl | simp [Code.frames, Code.isFrame]
theorem weight_tupU (args : Args) : (Code.builtin "tuple.__repr__.under" args).weight ≤ 1 := by
  have h2 : (Code.builtin "tuple.__repr__.under" args).isCreation = false := by first | rfl | simp [Code.isCreation]
  have h3 : (Code.builtin "tuple.__repr__.under" args).isCaller = false := by first | rfl | simp [Code.isCaller]
  unfold Code.weight
  rw [frames_tupU, h2, h3]
  generalize (Code.builtin "tuple.__repr__.under" args).isGuard = b
  cases b <;> decide
theorem units_tupU (args : Args) : (Code.builtin "tuple.__repr__.under" args).cUnits ≤ 1 := by
  show 1 + 3 * (Code.builtin "tuple.__repr__.under" args).frames ≤ 1
  rw [frames_tupU]
  decide
theorem frames_lst (args : Args) : (Code.builtin "list.__repr__.loop" args).frames = 0 := by first | rfl | simp [Code.frames, Code.isFrame]
theorem weight_lst (args : Args) : (Code.builtin "list.__repr__.loop" args).weight ≤ 1 := by
  have h2 : (Code.builtin "list.__repr__.loop" args).isCreation = false := by first | rfl | simp [Code.isCreation]
  have h3 : (Code.builtin "list.__repr__.loop" args).isCaller = false := by first | rfl | simp [Code.isCaller]
  unfold Code.weight
  rw [frames_lst, h2, h3]
  generalize (Code.builtin "list.__repr__.loop" args).isGuard = b
  cases b <;> decide
theorem units_lst (args : Args) : (Code.builtin "list.__repr__.loop" args).cUnits ≤ 1 := by
  show 1 + 3 * (Code.builtin "list.__repr__.loop" args).frames ≤ 1
  rw [frames_lst]
  decide
/-- the own work of a tuple's repr -/
theorem ru_tupBody {a : Addr} {xs : List V} {ts : List Str} {A : Around} {g : List Code} {pins : List (Addr × Obj)} {σ : L2.St} {H1 : Hp} {s : Shared} {base : Nat} {id : String} {rest : List Value} {R : Result → Shared → Prop}
    (ha : H a = some (.tup xs)) (hT : RUs X as k H xs ts) (hna : a ∉ as) (hcg : (Code.builtin id ⟨.ref a :: rest, []⟩).isGuard = true) (hw : (Code.builtin id ⟨.ref a :: rest, []⟩).weight ≤ 1) (hcu : (Code.builtin id ⟨.ref a :: rest, []⟩).cUnits ≤ 1)
    (hr : Room (k + 1) A) (hf : A.frames = X.A.frames) (hfu : (A.under (.builtin id ⟨.ref a :: rest, []⟩)).frames = A.frames) (hg : A.guards = some g) (hc : ∀ b ∈ a :: as, Clear g b) (s1 : Same H H1) (I : Inv X pins σ H1 s) (hz : base + (tupleText ts).length ≤ sizeLine)
    (q : ∀ H2 s' u, Same H1 H2 → Inv X pins σ H2 s' → R (.ok (.ret (.str (tupleText ts) u))) s') :
    wpOwn (model X.prog X.w) A (.builtin id ⟨.ref a :: rest, []⟩) (Builtin.tupleReprAt base ⟨[.ref a], []⟩) (fun fin s' => match fin with | .done f => R (.ok f) s' | .again c' => c'.quiet = true ∧ codeAny (model X.prog X.w) A c' R s') (fun e s' => R (.error e) s') s := by
  obtain ⟨_, its, rv, o, ho, _, n, hd⟩ := I.hok a _ (s1 _ _ ha)
  have hl := hT.len
  have hlv := rv.length
  have pl := piled_le_tupleText ts
  rw [tuple_repr_tree, tupleReprUnderWay_eq]
  refine wpOwn_bind (wpOwn_stackTailAny hg (tupGuardF_off _) (tupGuardF_pos _) ?_)
  have none : (g.any fun c => tupGuardF (.ref a) (c, default)) = false := List.any_eq_false.mpr fun c m => by
    rw [tupGuardF_of_clear (hc a List.mem_cons_self) c m]
    simp
  rw [none]
  refine wpOwn_of_wpAny ?_
  show wpAny _ _ (tupleReprRest base (.ref a)) _ _ s
  unfold tupleReprRest Builtin.Tuple.tupleItemsOf
  refine wpAny_bind (wpAny_bind (wpAny_seqItems ho hd (wpAny_pure ?_)))
  rw [← Array.forIn_toList]
  refine wpAny_bind (ru_fold (room_guard hr hw hcu) (hfu.trans hf) (guards_under_guard hcg hg) (fun b hb => (hc b (List.mem_cons_of_mem _ hb)).cons fun e => hna (e ▸ hb)) hT _ _ _ H1 s _ (by simpa using rv) (by omega) s1 I fun H2 s' s2 I2 => ?_)
  refine wpAny_bind (wpAny_mkStr (wpAny_pure ?_) ?_)
  · have z := q H2 { s' with toks := s'.toks + 1 } s'.toks s2 (I2.tok _)
    simpa [tupleText, hl, hlv] using z
  · have z : (tupleText ts).length ≤ sizeLine := by omega
    simpa [tupleText, hl, hlv] using z
theorem RU.tuple {a : Addr} {xs : List V} {ts : List Str} (ha : H a = some (.tup xs)) (hna : a ∉ as) (hT : RUs X as k H xs ts) : RU X (a :: as) (k + 1) H (.ref a) (tupleText ts) := by
  intro base A g pins σ H1 s u Q E hz hr hf hg hc s1 I rx q
  cases (show u = Value.ref a from rx)
  obtain ⟨_, _, _, o, ho, hcl, _⟩ := I.hok a _ (s1 _ _ ha)
  have hu := hr.un
  refine wpAny_pyReprUnder_ref (by omega) (wpAny_pyReprObjUnder_twin (twin := "tuple.__repr__.under") ⟨o, ho, hcl⟩ F.slot_tuple_repr rfl (by omega) ?_)
  exact call_twin_own (F.quiet_tuple_repr_under _) F.entry_tuple_repr_under F.check_tuple_repr_under ⟨o, ho, hcl⟩ F.slot_tuple_repr (F.args_tuple_repr_1 _)
    (ru_tupBody ha hT hna (isGuard_tuple_repr_under _) (weight_tupU _) (units_tupU _) hr hf (by rfl) hg hc s1 I hz fun H2 s' u s2 I2 => ⟨⟨_, _, rfl⟩, _, _, rfl, q H2 s' s2 I2⟩)
end
end Own

/-! repr of lists, of own things, and the call of repr. -/
namespace Own
open PySem PySem.Spec PySem.Calls PyProof.Rows L2
section
variable {X : Cx} {as : List Addr} {k : Nat} {H : Hp}
theorem strvals : ∀ {ts : List Str} {us : List Value}, Vals (ts.map V.str) us → ∃ l : List (Str × Tok), us = strValues l ∧ l.map (·.1) = ts
  | [], _, .nil => ⟨[], rfl, rfl⟩
  | t :: ts, _, .cons r rs => by
    obtain ⟨tk, rfl⟩ := (show ∃ tk, _ = Value.str t tk from r)
    obtain ⟨l, rfl, e⟩ := strvals rs
    exact ⟨(t, tk) :: l, rfl, by rw [List.map_cons, e]⟩
theorem RUs.at {xs : List V} {ts : List Str} (h : RUs X as k H xs ts) : ∀ (i : Nat) (x : V), xs[i]? = some x → ∃ t, ts[i]? = some t ∧ RU X as k H x t := by
  induction h with
  | nil =>
    intro i x e
    simp at e
  | cons hx h ih =>
    intro i x e
    cases i with
    | zero =>
      cases Option.some.inj e
      exact ⟨_, rfl, hx⟩
    | succ i => exact ih i x e
/-- the loop of a list's repr, i parts told, kept in the list at P -/
theorem ru_listLoop {a P : Addr} {xs : List V} {ts : List Str} {A : Around} {g : List Code} {pins : List (Addr × Obj)} {σ : L2.St} {base : Nat} {R : Result → Shared → Prop} (ha : H a = some (.lst xs)) (hT : RUs X as k H xs ts) (hna : a ∉ as)
    (hr : Room (k + 1) A) (hf : A.frames = X.A.frames) (hg : A.guards = some g) (hc : ∀ b ∈ as, Clear g b) (hz : base + (listText ts).length ≤ sizeLine) (hxs : xs.length ≤ sizeLine)
    (q : ∀ H2 s' u, Same H H2 → Inv X pins σ H2 s' → R (.ok (.ret (.str (listText ts) u))) s') :
    ∀ (m i : Nat) (H1 : Hp) (s : Shared), xs.length - i = m → i ≤ xs.length → Same H H1 → H P = none → H1 P = some (.lst ((ts.take i).map V.str)) → Inv X pins σ H1 s →
      codeAny (model X.prog X.w) A (.builtin "list.__repr__.loop" ⟨[.ref a, rawInt i, .ref P, rawInt ((base + piled (ts.take i) : Nat) : Int)], []⟩) R s := by
  have hl := hT.len
  have hp := piled_le_listText ts
  intro m
  induction m with
  | zero =>
    intro i H1 s hm hi s1 nP hP I
    obtain ⟨_, its, n, r, hlen, e⟩ := I.lstM (s1 _ _ ha)
    obtain ⟨_, us, n2, r2, _, e2⟩ := I.lstM hP
    obtain ⟨l, rfl, hl2⟩ := strvals r2
    refine codeAny_builtin F.entry_list_repr_loop ?_
    show wpAny _ _ (Builtin.«list.__repr__.loop» ⟨[.ref a, .int i 0, .ref P, .int ((base + piled (ts.take i) : Nat) : Int) 0], []⟩) _ _ s
    rw [repr_loop_tree]
    refine wpAny_bind (wpAny_listItems e rfl ?_)
    have hnone : its.toArray[(i : Int).toNat]? = none := by
      simp
      omega
    simp only [hnone]
    unfold reprEnd
    refine wpAny_bind (wpAny_listItems e2 rfl ?_)
    rw [List.toList_toArray, repr_fold]
    refine wpAny_bind (wpAny_pure ?_)
    have hall : l.map (·.1) = ts := by rw [hl2, List.take_of_length_le (by omega)]
    rw [hall]
    exact wpAny_bind (wpAny_mkStr (wpAny_pure (q H1 _ _ s1 (I.tok _))) (show (listText ts).length ≤ sizeLine by omega))
  | succ m ih =>
    intro i H1 s hm hi s1 nP hP I
    obtain ⟨_, its, n, r, hlen, e⟩ := I.lstM (s1 _ _ ha)
    have hlt : i < xs.length := by omega
    obtain ⟨t, ht, hx⟩ := hT.at i xs[i] (by simp [hlt])
    have hlt2 : i < its.length := by omega
    have ru : RelV xs[i] its[i] := by
      obtain ⟨u, hu, ru⟩ := Vals.get (i := i) (x := xs[i]) r (by simp [hlt])
      rw [List.getElem?_eq_getElem hlt2] at hu
      cases hu
      exact ru
    have hp1 := piled_take_succ ht
    have hp2 := piled_take_le ts (i + 1)
    refine codeAny_builtin F.entry_list_repr_loop ?_
    show wpAny _ _ (Builtin.«list.__repr__.loop» ⟨[.ref a, .int i 0, .ref P, .int ((base + piled (ts.take i) : Nat) : Int) 0], []⟩) _ _ s
    rw [repr_loop_tree]
    refine wpAny_bind (wpAny_listItems e rfl ?_)
    have hsome : its.toArray[(i : Int).toNat]? = some its[i] := by simp [hlt2]
    simp only [hsome]
    rw [Int.toNat_natCast]
    refine wpAny_bind (wpAny_holding (hx (base + piled (ts.take i) + 1) _ _ pins σ H1 s its[i] _ _ (by omega) (room_guard hr (weight_lst _) (units_lst _)) hf (guards_under_guard (isGuard_list_loop _) hg) (fun b hb => (hc b hb).cons (a := a) fun z => hna (z ▸ hb)) s1 I ru fun H2 s' s2 I2 => ?_))
    have s12 := s1.trans s2
    have ht2 : t.length ≤ sizeLine := by omega
    refine wpAny_bind (wpAny_mkStr ?_ ht2)
    refine wpAny_bind ?_
    show wpAny _ _ (updateSeq P _) _ _ _
    have hP2 := s2 _ _ hP
    have I3 := I2.tok (s'.toks + 1)
    obtain ⟨_, us, n2, r2, hlen2, e2⟩ := I3.lstM hP2
    have hsz2 : us.toArray.size ≤ sizeLine := by
      rw [List.size_toArray, ← hlen2, List.length_map, List.length_take]
      omega
    refine wpAny_updateSeq e2 rfl (wpAny_pure ⟨F.quiet_list_repr_loop _, ?_⟩) hsz2
    have I4 := I3.lset (f := (·.push (.str t s'.toks))) (its' := us ++ [.str t s'.toks]) (ys := (ts.take i).map V.str ++ [V.str t]) (t' := s'.toks + 1) hP2 e2 (by simp) (r2.append (.cons ⟨_, rfl⟩ .nil)) (by
      rw [List.length_append, List.length_map, List.length_take, List.length_singleton]
      omega)
    have e1 : ((i : Int) + 1) = ((i + 1 : Nat) : Int) := by omega
    have e3 : base + piled (ts.take i) + (t.length + 2) = base + piled (ts.take (i + 1)) := by omega
    rw [e1, e3]
    refine ih (i + 1) _ _ (by omega) hlt (fun b o h => ?_) nP ?_ I4
    · rw [upd_ne (ne_of_none h nP)]
      exact s12 _ _ h
    · rw [upd_same]
      simp [List.take_add_one, ht]
theorem RUs.mono {H' : Hp} (hs : Same H H') {xs : List V} {ts : List Str} (h : RUs X as k H xs ts) : RUs X as k H' xs ts := by
  induction h with
  | nil => exact .nil
  | cons hx h ih => exact .cons (hx.mono hs) ih
/-- the own work of a list's repr, the list not empty -/
theorem ru_listBody {a : Addr} {x : V} {xs : List V} {ts : List Str} {A : Around} {g : List Code} {pins : List (Addr × Obj)} {σ : L2.St} {H1 : Hp} {s : Shared} {base : Nat} {R : Result → Shared → Prop} (ha : H a = some (.lst (x :: xs))) (hT : RUs X as k H (x :: xs) ts) (hna : a ∉ as)
    (hr : Room (k + 1) A) (hf : A.frames = X.A.frames) (hg : A.guards = some g) (hc : ∀ b ∈ a :: as, Clear g b) (s1 : Same H H1) (I : Inv X pins σ H1 s) (hz : base + (listText ts).length ≤ sizeLine)
    (q : ∀ H2 s' u, Same H1 H2 → Inv X pins σ H2 s' → R (.ok (.ret (.str (listText ts) u))) s') :
    wpAny (model X.prog X.w) A.in1 (Builtin.listReprAt base ⟨[.ref a], []⟩) (fun fin s' => match fin with | .done f => R (.ok f) s' | .again c' => c'.quiet = true ∧ codeAny (model X.prog X.w) A c' R s') (fun e s' => R (.error e) s') s := by
  obtain ⟨hz1, its, n, r, _, e⟩ := I.lstM (s1 _ _ ha)
  have he : H1 a = some (.lst (x :: xs)) := s1 _ _ ha
  cases r with
  | cons r0 r =>
    refine wpAny_list_repr_head (A := A.in1) hg (fun v rest kw hm => listSameRef_of_ne (hc a List.mem_cons_self _ _ _ _ hm)) e rfl ?_
    refine wpAny_bind (m := newList []) (wpAny_newObj_type ?_)
    refine wpAny_pure ⟨F.quiet_list_repr_loop _, ?_⟩
    have nP : H1 s.heap.objs.size = none := I.hok.fresh (Nat.le_refl _)
    have J : Inv X pins σ (upd H1 s.heap.objs.size (.lst [])) { s with heap := s.heap.push { cls := .type "list", dict := none, data := .seq #[] 0 } } :=
      I.laid (t' := s.toks) (fun b o q => Heap.get?_push_of_some _ q) (Nat.le_refl _) ⟨Nat.zero_le _, [], 0, .nil, Heap.get?_push_size _ rfl⟩
    have sJ : Same H1 (upd H1 s.heap.objs.size (.lst [])) := fun b o q => by
      rw [upd_ne (ne_of_none q nP)]
      exact q
    have lp := ru_listLoop (X := X) (as := as) (k := k) (H := H1) (P := s.heap.objs.size) (base := base) (pins := pins) (σ := σ) (R := R) (A := A) (g := g) he (ts := ts)
      (hT.mono s1) hna hr hf hg (fun b hb => hc b (List.mem_cons_of_mem _ hb)) hz hz1 q _ 0 _ _ rfl (Nat.zero_le _) sJ nP upd_same J
    simpa [piled] using lp
theorem RU.list {a : Addr} {x : V} {xs : List V} {ts : List Str} (ha : H a = some (.lst (x :: xs))) (hna : a ∉ as) (hT : RUs X as k H (x :: xs) ts) : RU X (a :: as) (k + 1) H (.ref a) (listText ts) := by
  intro base A g pins σ H1 s u Q E hz hr hf hg hc s1 I rx q
  cases (show u = Value.ref a from rx)
  obtain ⟨_, its, n, r, _, e⟩ := I.lstM (s1 _ _ ha)
  have hu := hr.un
  refine wpAny_pyReprUnder_ref (by omega) (wpAny_pyReprObjUnder_twin (twin := "list.__repr__.under") ⟨_, e, rfl⟩ F.slot_list_repr.toG rfl (by omega) ?_)
  exact call_twin_plain F.plain_list_repr_under F.entry_list_repr_under F.check_list_repr_under ⟨_, e, rfl⟩ F.slot_list_repr.toG (F.args_list_repr_1 _)
    (ru_listBody ha hT hna hr hf hg hc s1 I hz fun H2 s' u s2 I2 => ⟨⟨_, _, rfl⟩, _, _, rfl, q H2 s' s2 I2⟩)
/-- things of the library's own certificate -/
theorem RU.of_K {x : V} {t : Str} {d : Nat} (hd : d ≤ 16 * k + 200) (h : ∀ pins σ H1 s u, Same H H1 → Inv X pins σ H1 s → RelV x u → ReprK X.prog X.w as s.heap d u t) : RU X as k H x t := by
  intro base A g pins σ H1 s u Q E hz hr hf hg hc s1 I rx q
  have hu := hr.un
  exact h pins σ H1 s u s1 I rx base hz A g E s Q hg hc (by omega) (fun _ _ e => e) fun h' tk keep => q H1 _ (Same.refl _) (I.kept keep)
theorem RU.list0 {a : Addr} (ha : H a = some (.lst [])) : RU X as k H (.ref a) "[]" := RU.of_K (d := 0) (Nat.zero_le _) fun pins σ H1 s u s1 I rx => by
  cases (show u = Value.ref a from rx)
  obtain ⟨_, its, n, r, _, e⟩ := I.lstM (s1 _ _ ha)
  cases r
  exact ReprK.listEmpty e rfl rfl
/-- an own thing, by its own __repr__ -/
theorem RU.own {CX : CXT} {C g0 : Addr} {n : Nat} {sp : Sp} {E0 : XK} {a dx : Addr} {fs : List (Str × V)} {t : Str} (ha : H a = some (.ins C dx fs)) (hs : PySem.W.findIn X.K (.ref C) "__repr__" = some (some (.ref g0))) (hfn : PySem.W.isFn X.K (.ref g0) = true)
    (F : FnR X.prog X.w X.K X.mg X.base CX n g0 sp) (hk : n ≤ k) (hE : ∀ s' e s H', CX X.stack H' s E0 e s' → False)
    (h : ∀ H1, Same H H1 → sp [.ref a] H1 (fun z H2 => z = .str t ∧ Same H1 H2) E0) : RU X as k H (.ref a) t := by
  intro base A g pins σ H1 s u Q E hz hr hf hg hc s1 I rx q
  cases (show u = Value.ref a from rx)
  obtain ⟨od, J⟩ := inst_of I (s1 _ _ ha)
  have hu := hr.un
  have e0 : Env0 X.prog X.w X.K X.mg X.base A X.stack s H1 := ⟨hf.trans I.ok.frames, I.env0.mod, I.env0.bs, I.env0.bsz, I.env0.funs, I.env0.frf, I.env0.hok, I.env0.bare⟩
  have run : wpAny (model X.prog X.w) A (call (.ref g0) [.ref a]) (fun v s' => ∃ tk, v = .str t tk ∧ Q t s') E s := by
    refine wpAny_call (codeAny_mono (F A X.stack s H1 [.ref a] [.ref a] _ E0 (hr.mono hk) e0 (.cons rfl .nil) (h H1 s1)) fun r s' hq => ?_)
    cases r with
    | error e => exact (hE _ _ _ _ hq).elim
    | ok fl =>
      cases fl with
      | next => exact hq.elim
      | brk => exact hq.elim
      | cont => exact hq.elim
      | ret v =>
        obtain ⟨w', H2, I2, rv, ez, s2⟩ := I.after hq
        subst ez
        obtain ⟨tk, rfl⟩ := (show ∃ tk, v = Value.str t tk from rv)
        exact ⟨tk, rfl, q H2 s' s2 I2⟩
  refine wpAny_pyReprUnder_ref (by omega) ?_
  unfold pyReprObjUnder pyReprObjBy
  refine wpAny_bind (wpAny_cRoomFor (by omega) ?_)
  refine wpAny_bind (wpAny_bind (J.type.here ((PySem.W.looks_findIn I.kIn hs).here ?_)))
  show wpAny _ _ (if (some (Value.ref g0)).isNone = true then _ else _) _ _ _
  rw [if_neg (by simp)]
  have fin : wpAny (model X.prog X.w) A ((fun (g : Value) (first : List Value) => match reprUnder? g, first with | some twin, [self] => call twin [self, rawInt base] | _, _ => call g (first ++ [])) (.ref g0) [.ref a] >>= fun v => pure (some v))
      (fun r s' => ∃ v tk, r = some v ∧ v = .str t tk ∧ Q t s') E s := wpAny_bind (wpAny_mono run (fun v s' ⟨tk, e, h⟩ => wpAny_pure ⟨v, tk, rfl, e, h⟩) fun _ _ x => x)
  have bound : wpAny (model X.prog X.w) A (callSpecialIfBoundBy? (fun g first => match reprUnder? g, first with | some twin, [self] => call twin [self, rawInt base] | _, _ => call g (first ++ [])) (.ref a) "__repr__") (fun r s' => ∃ v tk, r = some v ∧ v = .str t tk ∧ Q t s') E s := by
    simp only [callSpecialIfBoundBy?, bindSpecialIfBound?]
    refine wpAny_holding (wpAny_bind (wpAny_bind (wpAny_bind (J.type.here ((PySem.W.looks_findIn I.kIn hs).here ?_)))))
    refine wpAny_bind (wpAny_askSetting (wpAny_ite ?_))
    have B := PySem.W.bind_fn (M := model X.prog X.w) I.kIn (.ref a) (beq_iff_eq.mp hfn)
    split
    · exact wpAny_bind (B.here (wpAny_pure fin))
    · exact wpAny_tryCatch (wpAny_bind (B.here (wpAny_pure fin)))
  refine wpAny_bind (wpAny_mono bound (fun r s' ⟨v, tk, e1, e2, h⟩ => ?_) fun _ _ x => x)
  subst e1
  subst e2
  exact wpAny_bind (wpAny_isInstance (T := "str") (b := true) rfl isSubtype_str_str (wpAny_pure ⟨_, _, rfl, h⟩))
end
end Own

/-! the call of repr. -/
namespace Own
open PySem PySem.Spec PySem.Calls PyProof.Rows L2
section
variable {X : Cx} {k : Nat}
/-- repr of a tuple or a list of things whose reprs are known -/
def rRepr (X : Cx) (k : Nat) : List V → Hp → VK → Prop := fun xs H Q => ∃ (a : Addr) (zs : List V) (ts : List Str) (as : List Addr) (t : Str), xs = [.ref a] ∧ a ∉ as ∧ RUs X as k H zs ts ∧
  ((H a = some (.tup zs) ∧ t = tupleText ts) ∨ (H a = some (.lst zs) ∧ zs ≠ [] ∧ t = listText ts)) ∧ t.length ≤ sizeLine ∧ ∀ H', Same H H' → Q (.str t) H'
theorem call_repr (hg : X.A.guards = some []) (hr : Room (k + 2) X.A) : CallR X (.builtin "repr") (rRepr X k) := by
  intro pins s σ H xs us Q I r h
  obtain ⟨a, zs, ts, as, t, rfl, hna, hT, hcase, hz, q⟩ := h
  cases r with
  | cons rx rr =>
    cases rr
    cases rx
    have hu := hr.un
    have hr1 : Room (k + 1) X.A.in1 := hr.in1
    have end_ : ∀ {t : Str}, (∀ H', Same H H' → Q (.str t) H') → ∀ (H2 : Hp) (s' : Shared) (u : Tok), Same H H2 → Inv X pins σ H2 s' → callEnd (fun r s₁ => ∃ x t, r = Value.str x t ∧ EP X pins σ Q r s₁) X.xe (.ok (.ret (.str t u))) s' := fun q H2 s' u s2 I2 =>
      ⟨_, _, rfl, .str _, H2, I2, ⟨u, rfl⟩, q H2 s2⟩
    rcases hcase with ⟨ha, rfl⟩ | ⟨ha, hne, rfl⟩
    · obtain ⟨_, _, _, o, ho, hcl, _⟩ := I.hok a _ ha
      refine call_repr_slot (by omega) ⟨o, ho, hcl⟩ F.slot_tuple_repr ?_
      exact wpAny_call (codeAny_call_builtin_own (Code.quiet_builtin _ (by decide +kernel)) F.entry_tuple_repr (F.slot_tuple_repr.check _ _ _ _ _ _ _ _ ⟨o, ho, hcl⟩ (F.args_tuple_repr_1 _)
        (ru_tupBody (base := 0) ha hT hna (isGuard_tuple_repr _) (weight_tup _) (units_tup _) hr1 rfl (by rfl) hg (fun b _ => Clear.nil b) (Same.refl _) I (by omega) (end_ q))))
    · obtain ⟨_, its, n, r, _, e⟩ := I.lstM ha
      refine call_repr_slot (by omega) ⟨_, e, rfl⟩ F.slot_list_repr.toG ?_
      cases zs with
      | nil => exact absurd rfl hne
      | cons z zs =>
        exact wpAny_call (codeAny_call_builtin F.slot_list_repr.plain F.entry_list_repr (F.slot_list_repr.check _ _ _ _ _ _ _ _ ⟨_, e, rfl⟩ (F.args_list_repr_1 _)
          (ru_listBody (base := 0) ha hT hna hr1 rfl hg (fun b _ => Clear.nil b) (Same.refl _) I (by omega) (end_ q))))
/-- repr of an own thing -/
theorem call_reprO {CX : CXT} {C g0 : Addr} {n : Nat} {sp : Sp} {E : XK} (hs : PySem.W.findIn X.K (.ref C) "__repr__" = some (some (.ref g0))) (hf : PySem.W.isFn X.K (.ref g0) = true) (F : FnR X.prog X.w X.K X.mg X.base CX n g0 sp) (hr : Room (n + 1) X.A) (hx : Passes CX X E) :
    CallR X (.builtin "repr") (fun xs H Q => ∃ a dx fs, xs = [.ref a] ∧ H a = some (.ins C dx fs) ∧ sp [.ref a] H (fun z H' => ∃ t, z = .str t ∧ Q (.str t) H') E) := by
  intro pins s σ H xs us Q I r h
  obtain ⟨a, dx, fs, rfl, ha, q⟩ := h
  cases r with
  | cons rx rr =>
    cases rr
    cases rx
    obtain ⟨od, J⟩ := inst_of I ha
    obtain ⟨m, hF⟩ := I.fr
    refine PySem.W.repr_K (by have := hr.un; show X.A.units + 1 < cLine; omega) hF I.ok.mod.kin J hs hf (wpAny_mono (run_g1 (us := [.ref a]) (vs := [.ref a]) F hr hx I (.cons rfl .nil) q) (fun w s' z => ?_) fun _ _ x => x)
    obtain ⟨_, H', I', rz, t, rfl, qz⟩ := z
    obtain ⟨tk, rfl⟩ := (show ∃ tk, w = Value.str t tk from rz)
    exact ⟨.str t, H', I', ⟨tk, rfl⟩, qz⟩
end
end Own

/-! A def that calls what it got, and keeps the error that comes of it. -/
namespace Own
open PySem PySem.Spec PySem.Calls PyProof.Rows L2 LamX
section
variable {X : Cx}
theorem takes_len {W : WX} (tk : Takes X W) : Takes X (fun cls d σ H => σ.length = X.N.length → W cls d σ H) := fun u s' ⟨a, B, sI, pins, σ, H, cls, d, e, I, nb, up, sky, na, os, ag, w⟩ =>
  tk u s' ⟨a, B, sI, pins, σ, H, cls, d, e, I, nb, up, sky, na, os, ag, w I.len⟩
/-- the context of the def that got it -/
abbrev gotCx (X : Cx) (Ng : List Str) (x : Str) (sg : Scope) (g : Addr) (cdg : Value) (s : Shared) (H : Hp) : Cx := (cxOf C8.CX0 X.prog X.w X.K X.mg X.base Ng x sg g cdg X.A X.stack s H C8.E0).nox
/-- what is told of the call of f -/
def Act (X : Cx) (Ng : List Str) (x : Str) (sg : Scope) (g : Addr) (cdg : Value) (a q : Str) (f c' : Addr) (s : Shared) (H : Hp) (tl : XK → Hp → VK → Prop) : Prop :=
  ∀ (W : WX) (pn : List (Addr × Obj)) (xe : Value → Shared → Prop) (E : XK) (p1 p2 : Pos), Takes ((cxOf C8.CX0 X.prog X.w X.K X.mg X.base Ng x sg g cdg X.A X.stack s H C8.E0).tr pn xe) W → (∀ cls d σ' H', E cls d H' → W cls d σ' H') →
    PE ((cxOf C8.CX0 X.prog X.w X.K X.mg X.base Ng x sg g cdg X.A X.stack s H C8.E0).tr pn xe) (.Call (.Name a p1) [] [] p2) (fun σZ HZ Q => σZ[0]? = some (some (.ref f)) ∧ HZ c' = some (CodeO c' q) ∧ tl E HZ Q)
/-- try: found = ask() / except e as n: caught = n -/
def tAsk (K : PySem.W.Frag) (CS f c' : Addr) (q : Str) (len i j m : Nat) (tl : XK → Hp → VK → Prop) : TS := fun D σ H =>
  ∃ Ech : XK, σ[0]? = some (some (.ref f)) ∧ H c' = some (CodeO c' q) ∧ tl Ech H (fun v H1 => D.nx (σ.set m (some v)) H1) ∧
    ∀ (cls : Value) (d : Option Addr) (σ' : L2.St) (H' : Hp), σ'.length = len → Ech cls d H' → ∃ b, PySem.W.exmOne K cls (.ref CS) = some b ∧ (b = true → ∀ a, H' a = none → D.nx (((σ'.set i (some (.ref a))).set j (some (.ref a))).set i none) (upd H' a (kex a cls d))) ∧ (b = false → False)
theorem ps_ask {Ng : List Str} {x a e n cgt fnd q : Str} {sg : Scope} {g CS f c' : Addr} {cdg : Value} {s : Shared} {H : Hp} {tl : XK → Hp → VK → Prop} {i j m : Nat} {p1 p2 p3 p4 p5 p6 p7 p8 p9 p10 : Pos} (act : Act X Ng x sg g cdg a q f c' s H tl)
    (nd : Ng.Nodup) (hi : Ng[i]? = some n) (hj : Ng[j]? = some cgt) (hm : Ng[m]? = some fnd) (li : sg.names.lookup n = some .local) (lj : sg.names.lookup cgt = some .local) (lm : sg.names.lookup fnd = some .local) (hil : i < Ng.length)
    (ln : (envOfC x sg s.heap.objs.size g cdg).kindOf n = some .local) (hge : sg.names.lookup e = some .globalImplicit) (hme : X.mg e = some (.ref CS)) (hde : (e == ("__debug__" : Str)) = false := by decide) (hd : (n == ("__debug__" : Str)) = false := by decide) (hcd : (n == ("__classdict__" : Str)) = false := by decide)
    (sw : swapsWith (.Call (.Name a p1) [] [] p2) (some (.Name fnd p3)) p4.line (gotCx X Ng x sg g cdg s H).env = pure false := by rfl)
    (sw2 : swapsWith (.Name n p6) (some (.Name cgt p7)) p8.line (gotCx X Ng x sg g cdg s H).env = pure false := by rfl) :
    PS (gotCx X Ng x sg g cdg s H) (.Try [.Assign [.Name fnd p3] (.Call (.Name a p1) [] [] p2) p4] [.ExceptHandler (some (.Name e p5)) (some n) [.Assign [.Name cgt p7] (.Name n p6) p8] p9] [] [] p10)
      (tAsk X.K CS f c' q Ng.length i j m tl) := by
  have key := ps_try_keep (X := gotCx X Ng x sg g cdg s H) (x := e) (n := n) (c := .ref CS) (i := i) (body := [.Assign [.Name fnd p3] (.Call (.Name a p1) [] [] p2) p4]) (b₀ := .Assign [.Name cgt p7] (.Name n p6) p8) (suite := []) (np := p5) (pos := p10) (pos' := p9)
    (tb := fun W D σ H => ∃ Ech : XK, (∀ (cls : Value) (d : Option Addr) (σ' : L2.St) (H' : Hp), Ech cls d H' → σ'.length = Ng.length → W cls d σ' H') ∧ σ[0]? = some (some (.ref f)) ∧ H c' = some (CodeO c' q) ∧ tl Ech H (fun v H1 => D.nx (σ.set m (some v)) H1))
    (ts := fun _ _ _ => tAsg (tVar i) (gName j)) (Wout := fun _ _ _ _ => False) rfl rfl rfl nd hi ln ⟨hge, hde, .inl hme⟩ LamX.takes0 (fun W pn xe tk _ => ?_) (fun a oe cls d pn _ _ => ?_)
  · refine ⟨fun pins s' σ H' D I h => key.run pins s' σ H' D I ?_⟩
    obtain ⟨Ech, h1, h2, h3, h4⟩ := h
    refine ⟨Ech, fun cls d σ' H2 he hl => ?_, h1, h2, h3⟩
    obtain ⟨b, e1, e2, e3⟩ := h4 cls d σ' H2 hl he
    exact ⟨b, e1, fun hb a na => ⟨.ref a, by
      rw [List.getElem?_set_self (by rw [hl]; exact hil)], na, e2 hb a na⟩, fun hb => (e3 hb).elim⟩
  · refine ⟨fun pins s' σ H' D I h => ?_⟩
    obtain ⟨Ech, hW, h1, h2, h3⟩ := h
    have hp := act _ pn xe Ech p1 p2 (takes_len tk) hW
    exact (pss_one (ps_set (i := m) nd hm (.inl lm) hp sw (.inl rfl))).run pins s' σ H' D I ⟨h1, h2, h3⟩
  · exact pss_one (ps_set (i := j) nd hj (.inl lj) (pe_var hi (.inl li) hd hcd) sw2 (.inl rfl))
end
end Own

/-! Own errors that keep what they are made of. -/
namespace Own
open PySem PySem.Spec PySem.Calls PyProof.Rows L2 LamX
/-- self.f = value -/
def spErr (C : Addr) (f : Str) : Sp := fun vs H Q _ => ∃ (a : Addr) (v : V), vs = [.ref a, v] ∧ H a = some (exo a C none) ∧ ∀ dx, H dx = none → dx ≠ a → Q .non (upd (upd H dx (exd dx [(f, v)])) a (exo a C (some dx)))
/-- what is known of an error class x of this shape, its field f -/
structure Er (K : PySem.W.Frag) (mg : Str → Option Value) (x qual f : Str) (st : Stmt) (C fI : Addr) (fd : FuncData) : Prop where
  o : OexC K C
  mgC : mg x = some (.ref C)
  ini : PySem.W.findIn K (.ref C) "__init__" = some (some (.ref fI))
  tyI : PySem.W.typeIn K (.ref fI) = some (.type "function")
  fn : Fun K "__init__" qual st fI fd
  bi : L2.Binds K fd ["self", f] []
  nf : PySem.W.findIn K (.ref C) f = some none
  fld : XfC K C
section
variable {P : Program} {w : World} {K : PySem.W.Frag} {mg : Str → Option Value} {base : Heap} {x qual f : Str} {st : Stmt} {C fI : Addr} {fd : FuncData}
theorem ok_err {p1 p2 p3 p4 : Pos} (T : Er K mg x qual f st C fI fd) (sc : FnScope ["self", f] ["self", f] (defScope st)) (hb : defBody st = [.Assign [.Attribute (.Name "self" p1) f p2] (.Name f p3) p4])
    (hd1 : (f == ("__debug__" : Str)) = false) (hd2 : (f == ("__classdict__" : Str)) = false) : FnOk P w K mg base CX0 1 fI fd ["self", f] (spErr C f) := by
  refine T.fn.ok sc (fun vs H Q E h => ?_) (fun cdv A outer s H vs Q E hr h => ?_)
  · obtain ⟨a, v, rfl, _⟩ := h
    rfl
  · obtain ⟨a, v, rfl, ha, k⟩ := h
    rw [hb]
    have vs_ : ∀ n, n ∈ (["self", f] : List Str) → Vis (defScope st) n := fun n hn => by
      rcases sc.par n hn with q | q
      · exact .inl q
      · exact .inr (.inl q)
    refine ⟨_, pss_one (ps_ost (pe_var (i := 0) rfl (vs_ _ List.mem_cons_self)) (pe_var (i := 1) rfl (vs_ _ (List.mem_cons_of_mem _ List.mem_cons_self)) hd1 hd2)), ?_⟩
    exact ⟨v, rfl, .ref a, rfl, a, C, rfl, T.o, T.nf, .inl ⟨ha, k⟩⟩
end
section
variable {X : Cx} {x qual f : Str} {st : Stmt} {C fI : Addr} {fd : FuncData}
/-- raise x(e) -/
theorem ps_raise1 {e : Expr} {ta : TA} {W : WX} {p pos pos' : Pos} (hc : X.calm = true) (T : Er X.K X.mg x qual f st C fI fd) (F : FnOk X.prog X.w X.K X.mg X.base CX0 1 fI fd ["self", f] (spErr C f)) (hr : Room 2 X.A) (tk : Takes X W) (hg : Gl X x)
    (ha : PA X [e] ta) (hdb : (x == ("__debug__" : Str)) = false := by decide) (hs : starEach [e] X.env = (false, eval e X.env) :: starEach [] X.env := by rfl) (hpl : (backTo pos (starEach [] X.env)).any (·.1) = false := by rfl) :
    PS X (.Raise (some (.Call (.Name x p) [e] [] pos)) none pos') (fun _ σ H => tMkO C (spErr C f) [] ta σ H fun cls d H' => W cls d σ H') :=
  ps_raise hc tk (pmk_oex T.o T.ini T.tyI F hr T.bi .nil pass0 hg T.mgC ha hdb hs hpl)
/-- the error is made: its dict is new -/
theorem mk1 {v : V} {H1 : Hp} {Q : XK} (h : ∀ d, H1 d = none → Q (.ref C) (some d) (upd H1 d (.xd [(f, v)]))) :
    [v].length ≤ 1000 ∧ ∀ a, H1 a = none → spErr C f (.ref a :: ([v] ++ [])) (upd H1 a (exo a C none))
      (fun z H2 => z = .non ∧ ∃ (d : Addr) (fs : List (Str × V)), H2 a = some (exo a C (some d)) ∧ H2 d = some (exd d fs) ∧ H1 d = none ∧ Q (.ref C) (some d) (upd (del H2 a) d (.xd fs))) (fun _ _ _ => False) := by
  refine ⟨by simp, fun a ha => ⟨a, v, rfl, upd_same, fun dx hdx hne => ⟨rfl, dx, _, upd_same, by rw [upd_ne hne, upd_same], ?_, ?_⟩⟩⟩
  · rw [upd_ne hne] at hdx
    exact hdx
  · have hd1 : H1 dx = none := by
      rw [upd_ne hne] at hdx
      exact hdx
    have e : upd (del (upd (upd (upd H1 a (exo a C none)) dx (exd dx [(f, v)])) a (exo a C (some dx))) a) dx (.xd [(f, v)]) = upd H1 dx (.xd [(f, v)]) := by
      funext b
      by_cases h1 : b = dx
      · rw [h1, upd_same, upd_same]
      · rw [upd_ne h1, upd_ne h1]
        by_cases h2 : b = a
        · rw [h2, del_same, ha]
        · rw [del_ne h2, upd_ne h2, upd_ne h1, upd_ne h2]
    rw [e]
    exact h dx hd1
end
end Own

/-! str of an own thing. -/
namespace Own
open PySem PySem.Spec PySem.Calls PyProof.Rows L2
section
variable {X : Cx} {CX : CXT} {C g0 : Addr} {n : Nat} {sp : Sp} {E : XK}
theorem call_strO (hs : PySem.W.findIn X.K (.ref C) "__str__" = some (some (.ref g0))) (hf : PySem.W.isFn X.K (.ref g0) = true) (F : FnR X.prog X.w X.K X.mg X.base CX n g0 sp) (hr : Room (n + 2) X.A) (hx : Passes CX X E) :
    CallR X (.type "str") (fun xs H Q => ∃ a dx fs, xs = [.ref a] ∧ H a = some (.ins C dx fs) ∧ sp [.ref a] H (fun z H' => ∃ t, z = .str t ∧ Q (.str t) H') E) := by
  intro pins s σ H xs us Q I r h
  obtain ⟨a, dx, fs, rfl, ha, q⟩ := h
  cases r with
  | cons rx rr =>
    cases rr
    cases rx
    obtain ⟨od, J⟩ := inst_of I ha
    refine PySem.W.kso_call (prog := X.prog) (w := X.w) (A := X.A) (Q := EP X pins σ Q) (E := X.xe) (by have := hr.un; show X.A.units + 1 + 1 < cLine; omega) I.kIn J hs hf ?_
    refine wpAny_call (codeAny_mono (F X.A.in1.in1 X.stack s H [.ref a] [.ref a] _ E hr.in1.in1 I.env0.in1.in1 (.cons rfl .nil) q) fun r s' hq => ?_)
    cases r with
    | error e => exact hx _ _ _ _ _ _ I hq
    | ok fl =>
      cases fl with
      | next => exact hq.elim
      | brk => exact hq.elim
      | cont => exact hq.elim
      | ret u =>
        obtain ⟨_, H', I', rz, t, rfl, qz⟩ := I.after hq
        obtain ⟨tk, rfl⟩ := (show ∃ tk, u = Value.str t tk from rz)
        exact ⟨.str t, H', I', ⟨tk, rfl⟩, qz⟩
end
end Own

/-! a builtin thing == an own thing: the builtin's own __eq__ knows nothing of it, the own one is asked. -/
namespace Own
open PySem PySem.Spec PySem.Calls PyProof.Rows L2
section
variable {K : PySem.W.Frag} {x C g : Addr} {ox : Obj} {od : Option Obj} {s : Shared} {A : Around} {E : Value → Shared → Prop}
theorem eq_refl_K {prog : Program} {w : World} {T id : String} {a : Value} {Q : Value → Shared → Prop} (hu : A.units < cLine) (X : K.In s.heap) (I : PySem.W.InstAt s.heap x ox C od) (hT : s.TypeIs a T) (sl : SlotG T (Str.ofString "__eq__") id)
    (hsub : PySem.W.subIn K (.ref C) (.type T) = some false) (hs : PySem.W.findIn K (.ref C) "__eq__" = some (some (.ref g))) (hf : PySem.W.isFn K (.ref g) = true)
    (ni : wpAny (model prog w) A (call (.builtin id) [a, .ref x]) (fun v s' => v = .notImplemented ∧ s' = s) E s)
    (h : wpAny (model prog w) A (call (.ref g) [.ref x, a]) (PySem.W.CmpBack Q) E s) : wpAny (model prog w) A (richCompare .Eq a (.ref x)) Q E s := by
  have LT : PySem.W.Looks (model prog w) s.heap (typeOf (.ref x)) (.ref C) := I.type
  have none1 : wpAny (model prog w) A (tryCompare a (Str.ofString "__eq__") (.ref x)) (fun r s' => r = none ∧ s' = s) E s := by
    unfold tryCompare
    refine wpAny_bind ?_
    simp only [callSpecialIfBound?, bindSpecialIfBound?]
    refine wpAny_holding (wpAny_bind (wpAny_bind (wpAny_specialOf hT sl.lookup ?_)))
    simp only [sl.bind]
    have fin : wpAny (model prog w) A (call (.builtin id) ([a] ++ [.ref x]) >>= fun v => pure (some v)) (fun r s' => wpAny (model prog w) A (match r with | some .notImplemented | none => pure none | some v => pure (some v)) (fun r s' => r = none ∧ s' = s) E s') E s := by
      refine wpAny_bind (wpAny_mono ni (fun v s' hv => wpAny_pure ?_) fun _ _ z => z)
      obtain ⟨rfl, rfl⟩ := hv
      exact wpAny_pure ⟨rfl, rfl⟩
    refine wpAny_bind (wpAny_askSetting (wpAny_ite ?_))
    split
    · exact wpAny_bind (wpAny_pure (wpAny_pure (by exact fin)))
    · exact wpAny_tryCatch (wpAny_bind (wpAny_pure (wpAny_pure (by exact fin))))
  have two : wpAny (model prog w) A (tryCompare (.ref x) (Str.ofString "__eq__") a) (fun r s' => ∃ v, r = some v ∧ Q v s') E s := by
    unfold tryCompare
    refine wpAny_bind (PySem.W.ifBound_K X I hs hf (wpAny_mono h (fun v s' hv => ?_) fun _ _ e => e))
    cases v <;> first | exact hv.elim | exact wpAny_pure ⟨_, rfl, hv⟩
  unfold richCompare
  simp only [hT.oneThing_none]
  refine wpAny_holding (wpAny_bind (wpAny_cRoomFor hu ?_))
  refine wpAny_bind (wpAny_typeOf hT (wpAny_bind (LT.here ?_)))
  rw [if_pos (show (Value.type T != Value.ref C) = true from by simp)]
  refine wpAny_bind ((PySem.W.looks_subIn X hsub).here ?_)
  simp only [Bool.false_eq_true, if_false]
  refine wpAny_bind (wpAny_mono none1 (fun r s' z => ?_) fun _ _ e => e)
  obtain ⟨rfl, rfl⟩ := z
  show wpAny _ _ (tryCompare (.ref x) (Str.ofString "__eq__") a >>= _) _ _ _
  refine wpAny_bind (wpAny_mono two (fun r s' z => ?_) fun _ _ e => e)
  obtain ⟨v, rfl, hq⟩ := z
  exact wpAny_pure hq
end
end Own

namespace Own
open PySem PySem.Spec PySem.Calls PyProof.Rows L2
section
variable {prog : Program} {w : World} {K : PySem.W.Frag} {x C dx : Addr} {od : Option Obj} {s : Shared} {A : Around} {E : Value → Shared → Prop}
theorem ni_of {T id : String} {B : Builtin} {a : Value} (sl : Slot T (Str.ofString "__eq__") id) (hT : s.TypeIs a T) (en : entryFor table id = some B) (ar : argsOk id ⟨[a, .ref x], []⟩)
    (body : wpAny (model prog w) A.in1 (B ⟨[a, .ref x], []⟩) (fun fin s' => fin = .done (.ret .notImplemented) ∧ s' = s) (fun _ _ => False) s) :
    wpAny (model prog w) A (call (.builtin id) [a, .ref x]) (fun v s' => v = .notImplemented ∧ s' = s) E s :=
  wpAny_call (codeAny_call_builtin sl.plain en (sl.check _ _ _ _ _ _ _ _ hT ar (wpAny_mono body (fun fin s' z => by
    obtain ⟨rfl, rfl⟩ := z
    exact ⟨rfl, rfl⟩) fun _ _ z => z.elim)))
theorem ni_none : wpAny (model prog w) A (call (.builtin "NoneType.__eq__") [.none, .ref x]) (fun v s' => v = .notImplemented ∧ s' = s) E s :=
  ni_of F.slot_NoneType_eq rfl F.entry_NoneType_eq (F.args_NoneType_eq_2 _ _) (by
    obtain ⟨hp, g, d, tk, os⟩ := s
    wp_walk
    exact ⟨rfl, rfl⟩)
theorem ni_str {y : Str} {t : Tok} (hx : s.heap.get? x = some (PySem.W.instObj C dx)) : wpAny (model prog w) A (call (.builtin "str.__eq__") [.str y t, .ref x]) (fun v s' => v = .notImplemented ∧ s' = s) E s :=
  ni_of F.slot_str_eq rfl F.entry_str_eq (F.args_str_eq_2 _ _) (by
    obtain ⟨hp, g, d, tk, os⟩ := s
    have hx : hp.get? x = some (PySem.W.instObj C dx) := hx
    unfold PySem.W.instObj at hx
    wp_walk using wpAny_loadPart' hx
    exact ⟨rfl, rfl⟩)
theorem ni_int {y : Int} {t : Tok} (hx : s.heap.get? x = some (PySem.W.instObj C dx)) : wpAny (model prog w) A (call (.builtin "int.__eq__") [.int y t, .ref x]) (fun v s' => v = .notImplemented ∧ s' = s) E s :=
  ni_of F.slot_int_eq rfl F.entry_int_eq (F.args_int_eq_2 _ _) (by
    obtain ⟨hp, g, d, tk, os⟩ := s
    have hx : hp.get? x = some (PySem.W.instObj C dx) := hx
    unfold PySem.W.instObj at hx
    wp_walk using wpAny_loadPart' hx
    exact ⟨rfl, rfl⟩)
theorem ni_bool {y : Bool} (hx : s.heap.get? x = some (PySem.W.instObj C dx)) : wpAny (model prog w) A (call (.builtin "int.__eq__") [.bool y, .ref x]) (fun v s' => v = .notImplemented ∧ s' = s) E s :=
  ni_of F.slot_bool_eq rfl F.entry_int_eq (F.args_int_eq_2 _ _) (by
    obtain ⟨hp, g, d, tk, os⟩ := s
    have hx : hp.get? x = some (PySem.W.instObj C dx) := hx
    unfold PySem.W.instObj at hx
    wp_walk using wpAny_loadPart' hx
    exact ⟨rfl, rfl⟩)
theorem ni_list {l : Addr} {o : Obj} (hl : s.heap.get? l = some o) (hc : o.cls = .type "list") (X : K.In s.heap) (I : PySem.W.InstAt s.heap x (PySem.W.instObj C dx) C od) (hs : PySem.W.subIn K (.ref C) (.type "list") = some false) :
    wpAny (model prog w) A (call (.builtin "list.__eq__") [.ref l, .ref x]) (fun v s' => v = .notImplemented ∧ s' = s) E s :=
  ni_of F.slot_list_eq ⟨o, hl, hc⟩ F.entry_list_eq (F.args_list_eq_2 _ _) (by
    have L : PySem.W.Looks (model prog w) s.heap (isInstance (.ref x) (.type "list")) false := I.type.andThen (PySem.W.looks_subIn X hs)
    show wpAny _ _ (do if !(← isInstance (.ref x) (.type "list")) then return ← ret .notImplemented else _) _ _ _
    refine wpAny_bind (L.here ?_)
    exact wpAny_bind (wpAny_pure (wpAny_pure ⟨rfl, rfl⟩)))
theorem ni_tup {l : Addr} {o : Obj} (hl : s.heap.get? l = some o) (hc : o.cls = .type "tuple") (X : K.In s.heap) (I : PySem.W.InstAt s.heap x (PySem.W.instObj C dx) C od) (hs : PySem.W.subIn K (.ref C) (.type "tuple") = some false) :
    wpAny (model prog w) A (call (.builtin "tuple.__eq__") [.ref l, .ref x]) (fun v s' => v = .notImplemented ∧ s' = s) E s :=
  ni_of F.slot_tuple_eq ⟨o, hl, hc⟩ F.entry_tuple_eq (F.args_tuple_eq_2 _ _) (by
    have L : PySem.W.Looks (model prog w) s.heap (isInstance (.ref x) (.type "tuple")) false := I.type.andThen (PySem.W.looks_subIn X hs)
    show wpAny _ _ (do if !(← isInstance (.ref x) (.type "tuple")) then return ← ret .notImplemented else _) _ _ _
    refine wpAny_bind (L.here ?_)
    exact wpAny_bind (wpAny_pure (wpAny_pure ⟨rfl, rfl⟩)))
theorem ni_dict {l : Addr} {es : Array DictEntry} {n : Nat} {dd : Option Addr} {sl : Array (Option Value)} (hl : s.heap.get? l = some { cls := .type "dict", dict := dd, data := .dict es n, slots := sl }) (hm : (l == sysModules) = false) (X : K.In s.heap) (I : PySem.W.InstAt s.heap x (PySem.W.instObj C dx) C od)
    (hs : PySem.W.subIn K (.ref C) (.type "dict") = some false) :
    wpAny (model prog w) A (call (.builtin "dict.__eq__") [.ref l, .ref x]) (fun v s' => v = .notImplemented ∧ s' = s) E s :=
  ni_of F.slot_dict_eq ⟨_, hl, rfl⟩ F.entry_dict_eq (F.args_dict_eq_2 _ _) (by
    have L : PySem.W.Looks (model prog w) s.heap (isInstance (.ref x) (.type "dict")) false := I.type.andThen (PySem.W.looks_subIn X hs)
    obtain ⟨hp, g, d, tk, os⟩ := s
    have hl : hp.get? l = some { cls := .type "dict", dict := dd, data := .dict es n, slots := sl } := hl
    wp_walk using wpAny_loadPart' hl
    refine wpAny_loadPart I.1 (wpAny_pure ?_)
    refine (PySem.W.looks_subIn X hs).here ?_
    wp_walk
    exact ⟨rfl, rfl⟩)
end
end Own

namespace Own
open PySem PySem.Spec PySem.Calls PyProof.Rows L2
/-- the class is below none of these -/
structure NotB (K : PySem.W.Frag) (C : Addr) : Prop where
  non : PySem.W.subIn K (.ref C) (.type "NoneType") = some false
  int : PySem.W.subIn K (.ref C) (.type "int") = some false
  bl : PySem.W.subIn K (.ref C) (.type "bool") = some false
  str : PySem.W.subIn K (.ref C) (.type "str") = some false
  lst : PySem.W.subIn K (.ref C) (.type "list") = some false
  tup : PySem.W.subIn K (.ref C) (.type "tuple") = some false
  dct : PySem.W.subIn K (.ref C) (.type "dict") = some false
/-- a builtin thing -/
def Bi (H : Hp) (a : V) : Prop := a = .non ∨ (∃ i, a = .int i) ∨ (∃ b, a = .bl b) ∨ (∃ y, a = .str y) ∨ (∃ l xs, a = .ref l ∧ H l = some (.lst xs)) ∨ (∃ l xs, a = .ref l ∧ H l = some (.tup xs)) ∨ ∃ l kvs, a = .ref l ∧ H l = some (.dK kvs)
section
variable {X : Cx} {CX : CXT} {C g : Addr} {n : Nat} {sp : Sp} {E : XK}
theorem op_eqR (B : NotB X.K C) (hs : PySem.W.findIn X.K (.ref C) "__eq__" = some (some (.ref g))) (hf : PySem.W.isFn X.K (.ref g) = true) (F : FnR X.prog X.w X.K X.mg X.base CX n g sp) (hr : Room n X.A) (hx : Passes CX X E) :
    OpR X (compareOp .Eq) (fun a y H Q => ∃ x dx fs, y = .ref x ∧ H x = some (.ins C dx fs) ∧ Bi H a ∧ sp [.ref x, a] H Q E) := by
  intro pins s σ H a y va u Q I ra ry h
  obtain ⟨x, dx, fs, rfl, ha, bi, q⟩ := h
  cases (show u = Value.ref x from ry)
  obtain ⟨od, J⟩ := inst_of I ha
  have hu : X.A.units < cLine := hr.units0
  have run : wpAny (model X.prog X.w) X.A (call (.ref g) [.ref x, va]) (PySem.W.CmpBack (EP X pins σ Q)) X.xe s := by
    refine wpAny_mono (run_g (us := [.ref x, va]) (vs := [.ref x, a]) F hr hx I (.cons rfl (.cons ra .nil)) q) (fun w s' z => ?_) fun _ _ x => x
    obtain ⟨z', H', I', rz, qz⟩ := z
    exact SlX.cmpback rz ⟨z', H', I', rz, qz⟩
  show wpAny _ _ (richCompare .Eq va (.ref x)) _ _ s
  rcases bi with rfl | ⟨i, rfl⟩ | ⟨b, rfl⟩ | ⟨y, rfl⟩ | ⟨l, xs, rfl, hl⟩ | ⟨l, xs, rfl, hl⟩ | ⟨l, kvs, rfl, hl⟩
  · cases (show va = Value.none from ra)
    exact eq_refl_K hu I.kIn J rfl PySem.F.slot_NoneType_eq.toG B.non hs hf ni_none run
  · obtain ⟨tk, rfl⟩ := (show ∃ tk, va = Value.int i tk from ra)
    exact eq_refl_K hu I.kIn J rfl PySem.F.slot_int_eq.toG B.int hs hf (ni_int J.1) run
  · cases (show va = Value.bool b from ra)
    exact eq_refl_K hu I.kIn J rfl PySem.F.slot_bool_eq.toG B.bl hs hf (ni_bool J.1) run
  · obtain ⟨tk, rfl⟩ := (show ∃ tk, va = Value.str y tk from ra)
    exact eq_refl_K hu I.kIn J rfl PySem.F.slot_str_eq.toG B.str hs hf (ni_str J.1) run
  · cases (show va = Value.ref l from ra)
    obtain ⟨_, its, n', r, _, e⟩ := I.lstM hl
    exact eq_refl_K hu I.kIn J ⟨_, e, rfl⟩ PySem.F.slot_list_eq.toG B.lst hs hf (ni_list e rfl I.kIn J B.lst) run
  · cases (show va = Value.ref l from ra)
    obtain ⟨_, its, r, o, ho, hc, n', hd⟩ := I.hok l _ hl
    exact eq_refl_K hu I.kIn J ⟨o, ho, hc⟩ PySem.F.slot_tuple_eq.toG B.tup hs hf (ni_tup ho hc I.kIn J B.tup) run
  · cases (show va = Value.ref l from ra)
    obtain ⟨_, hm, vs, _, o, es, ep, ho, hc, hd, _⟩ := I.hok l _ hl
    obtain ⟨oc, od', oda, osl⟩ := o
    obtain ⟨h1, h2⟩ := hc
    dsimp only at h1 h2 hd
    subst h1 hd
    exact eq_refl_K hu I.kIn J ⟨_, ho, rfl⟩ PySem.F.slot_dict_eq.toG B.dct hs hf (ni_dict ho hm I.kIn J B.dct) run
end
end Own

namespace Own
open PySem PySem.Spec PySem.Calls PyProof.Rows L2
section
variable {X : Cx} {CX : CXT} {C g : Addr} {n : Nat} {sp : Sp} {E : XK}
theorem bi_looks {M : Model} {pins : List (Addr × Obj)} {σ : L2.St} {H : Hp} {s : Shared} {a : V} {va : Value} (I : L2.Inv X pins σ H s) (b : Bi H a) (ra : RelV a va) : ∃ T, PySem.W.Looks M s.heap (typeOf va) (.type T) ∧ PySem.W.notFirst X.K C (.type T) = true := by
  rcases b with rfl | ⟨i, rfl⟩ | ⟨b, rfl⟩ | ⟨y, rfl⟩ | ⟨l, xs, rfl, hl⟩ | ⟨l, xs, rfl, hl⟩ | ⟨l, kvs, rfl, hl⟩
  · cases (show va = Value.none from ra)
    exact ⟨"NoneType", .now, by rfl⟩
  · obtain ⟨tk, rfl⟩ := (show ∃ tk, va = Value.int i tk from ra)
    exact ⟨"int", .now, by rfl⟩
  · cases (show va = Value.bool b from ra)
    exact ⟨"bool", .now, by rfl⟩
  · obtain ⟨tk, rfl⟩ := (show ∃ tk, va = Value.str y tk from ra)
    exact ⟨"str", .now, by rfl⟩
  · cases (show va = Value.ref l from ra)
    obtain ⟨_, its, n', r, _, e⟩ := I.lstM hl
    exact ⟨"list", fun _ _ _ _ k q => wpAny_typeOf_ref (k _ _ e) q, by rfl⟩
  · cases (show va = Value.ref l from ra)
    obtain ⟨_, its, r, o, ho, hc, n', hd⟩ := I.hok l _ hl
    exact ⟨"tuple", fun _ _ _ _ k q => wpAny_typeOf_ref (k _ _ ho) (by rw [hc]; exact q), by rfl⟩
  · cases (show va = Value.ref l from ra)
    obtain ⟨_, hm, vs, _, o, es, ep, ho, hc, hd, _⟩ := I.hok l _ hl
    exact ⟨"dict", fun _ _ _ _ k q => wpAny_typeOf_ref (k _ _ ho) (by rw [hc.1]; exact q), by rfl⟩
theorem op_eqL (hs : PySem.W.findIn X.K (.ref C) "__eq__" = some (some (.ref g))) (hf : PySem.W.isFn X.K (.ref g) = true) (F : FnR X.prog X.w X.K X.mg X.base CX n g sp) (hr : Room n X.A) (hx : Passes CX X E) :
    OpR X (compareOp .Eq) (fun y a H Q => ∃ x dx fs, y = .ref x ∧ H x = some (.ins C dx fs) ∧ Bi H a ∧ sp [.ref x, a] H Q E) := by
  intro pins s σ H y a u va Q I ry ra h
  obtain ⟨x, dx, fs, rfl, ha, bi, q⟩ := h
  cases (show u = Value.ref x from ry)
  obtain ⟨od, J⟩ := inst_of I ha
  obtain ⟨T, L, nf⟩ := bi_looks (C := C) (M := model X.prog X.w) I bi ra
  obtain ⟨m, hF⟩ := I.fr
  show wpAny _ _ (richCompare .Eq (.ref x) va) _ _ s
  refine PySem.W.cmp_K (op := .Eq) hr.units0 hF I.ok.mod.kin J L nf hs hf ?_
  refine wpAny_mono (run_g (us := [.ref x, va]) (vs := [.ref x, a]) F hr hx I (.cons rfl (.cons ra .nil)) q) (fun w s' z => ?_) fun _ _ x => x
  obtain ⟨z', H', I', rz, qz⟩ := z
  exact SlX.cmpback rz ⟨z', H', I', rz, qz⟩
theorem op_neL (hne : PySem.W.findIn X.K (.ref C) "__ne__" = some (some (.builtin "object.__ne__"))) (hsub : PySem.W.subIn X.K (.ref C) (.type "object") = some true) (hs : PySem.W.findIn X.K (.ref C) "__eq__" = some (some (.ref g))) (hf : PySem.W.isFn X.K (.ref g) = true)
    (F : FnR X.prog X.w X.K X.mg X.base CX n g sp) (hr : Room (n + 1) X.A) (hx : Passes CX X E) :
    OpR X (compareOp .NotEq) (fun y a H Q => ∃ x dx fs, y = .ref x ∧ H x = some (.ins C dx fs) ∧ Bi H a ∧ sp [.ref x, a] H (fun z H' => ∃ k, z = .bl k ∧ Q (.bl (!k)) H') E) := by
  intro pins s σ H y a u va Q I ry ra h
  obtain ⟨x, dx, fs, rfl, ha, bi, q⟩ := h
  cases (show u = Value.ref x from ry)
  obtain ⟨od, J⟩ := inst_of I ha
  obtain ⟨T, L, nf⟩ := bi_looks (C := C) (M := model X.prog X.w) I bi ra
  show wpAny _ _ (richCompare .NotEq (.ref x) va) _ _ s
  refine ne_K (by have := hr.un; omega) I.kIn J L nf hne hs hf hsub ?_
  refine wpAny_mono (run_g1 (us := [.ref x, va]) (vs := [.ref x, a]) F hr hx I (.cons rfl (.cons ra .nil)) q) (fun w s' z => ?_) fun _ _ x => x
  obtain ⟨_, H', I', rz, k, rfl, qz⟩ := z
  cases (show w = Value.bool k from rz)
  exact ⟨k, rfl, .bl (!k), H', I', rfl, qz⟩
end
end Own

namespace Own
open PySem PySem.Spec PySem.Calls PyProof.Rows L2
/-- the same, the def's own object told (its code object is needed where it makes lambdas) -/
theorem fnG_lk {P : Program} {w : World} {K : PySem.W.Frag} {mg : Str → Option Value} {base : Heap} {CX : CXT} {k : Nat} {f : Addr} {x qual : Str} {st : Stmt} {ps N : List Str} {sp : Sp} {oc kV doc pm cdv ct : Value} {od an : Option Addr} {osl : Array (Option Value)}
    (lk : K.lookup f = some ⟨oc, od, .func (PySem.W.fnOf x qual (defArgs st) (defBody st) (defScope st) .none kV doc pm an cdv ct), osl⟩) (hcd : PySem.W.codeIn K cdv qual = true) (S : FnScope N ps (defScope st))
    (hb : L2.Binds K (PySem.W.fnOf x qual (defArgs st) (defBody st) (defScope st) .none kV doc pm an cdv ct) ps []) (len : ∀ vs H Q E, sp vs H Q E → vs.length = ps.length)
    (body : ∀ (A : Around) (outer : List Env) (s : Shared) (H : Hp) (vs : List V) (Q : VK) (E : XK), Room k (A.deeper (envOfC qual (defScope st) s.heap.objs.size f cdv)) → (A.deeper (envOfC qual (defScope st) s.heap.objs.size f cdv)).guards = some [] → sp vs H Q E →
      ∃ t, PSs (cxOf CX P w K mg base N qual (defScope st) f cdv A outer s H E) (defBody st) t ∧ t { nx := fun _ H' => Q .non H', rt := Q } (L2.start N vs) H) :
    FnG P w K mg base CX (k + 1) f sp := by
  intro A outer s H us vs Q E hr hg e0 r h
  have hl := len _ _ _ _ h
  have b := hb s us (e0.mod.kin.keeps fun b o e => (e0.bs b o e).1) (by rw [List.append_nil, ← r.length]; exact hl)
  rw [List.append_nil] at b
  exact LamX.run_ofS lk hcd S hr e0 b r hl fun hr' => body A outer s H vs Q E hr' hg h
end Own

/-! The law's call, by a promise that holds while no repr is under way. -/
namespace Own
open PySem PySem.Spec PySem.Calls PyProof.Rows L2 LamX
abbrev tabO : Obj := { cls := .none, data := .fields #[] }
abbrev scrO (vs : List Value) : Obj := { cls := .type "list", data := .seq vs.toArray }
/-- the told heap at the beginning: some empty tables, and perhaps the script, locked -/
structure Begun (K : PySem.W.Frag) (h : Heap) (cs : List (Addr × Addr)) (a : Addr) (vs : List Value) (ns : List Int) (H : Hp) : Prop where
  tabs : ∀ p ∈ cs, H p.2 = some (.tbl #[])
  only : ∀ b u, H b = some u → K.lookup b = none ∧ ((u = .tbl #[] ∧ h.get? b = some tabO ∧ ∃ p ∈ cs, p.2 = b) ∨ (u = .frz (scrO vs) (.lst (ns.map V.int)) ∧ h.get? b = some (scrO vs)))
  scr : SqL K H a (ns.map V.int)
section
variable {P : Program} {w : World} {K : PySem.W.Frag} {h : Heap} {cs : List (Addr × Addr)} {a : Addr} {vs : List Value} {ns : List Int} {H : Hp}
theorem begun (KX : K.In h) (hT : ∀ p ∈ cs, h.get? p.2 = some tabO ∧ K.lookup p.2 = none) (ha : h.get? a = some (scrO vs)) (hi : IntsAre vs ns) (hl : ns.length ≤ sizeLine) : ∃ H, Begun K h cs a vs ns H := by
  have isTab : ∀ b, (cs.any fun p => p.2 == b) = true → h.get? b = some tabO ∧ K.lookup b = none := by
    intro b e
    obtain ⟨p, hp, e⟩ := List.any_eq_true.mp e
    rw [← (beq_iff_eq.mp e : p.2 = b)]
    exact hT p hp
  have aNo : (cs.any fun p => p.2 == a) = false := by
    cases e : cs.any fun p => p.2 == a with
    | false => rfl
    | true =>
      have z := (isTab a e).1
      rw [ha] at z
      injection z with z
      injection z with z1 z2
      cases z1
  let H : Hp := fun b => bif cs.any fun p => p.2 == b then some (.tbl #[]) else bif (b == a) && (K.lookup a).isNone then some (.frz (scrO vs) (.lst (ns.map V.int))) else none
  have atT : ∀ b, (cs.any fun p => p.2 == b) = true → H b = some (.tbl #[]) := fun b e => by
    show (bif _ then _ else _) = _
    rw [e]
    rfl
  have offT : ∀ b, (cs.any fun p => p.2 == b) = false → H b = bif (b == a) && (K.lookup a).isNone then some (.frz (scrO vs) (.lst (ns.map V.int))) else none := fun b e => by
    show (bif _ then _ else _) = _
    rw [e]
    rfl
  have memT : ∀ p ∈ cs, (cs.any fun q => q.2 == p.2) = true := fun p hp => List.any_eq_true.mpr ⟨p, hp, beq_self_eq_true _⟩
  refine ⟨H, fun p hp => atT _ (memT p hp), fun b u e => ?_, ?_⟩
  · cases eb : cs.any fun p => p.2 == b with
    | true =>
      rw [atT b eb] at e
      injection e with e
      obtain ⟨p, hp, ep⟩ := List.any_eq_true.mp eb
      exact ⟨(isTab b eb).2, .inl ⟨e.symm, (isTab b eb).1, p, hp, beq_iff_eq.mp ep⟩⟩
    | false =>
      rw [offT b eb] at e
      cases ec : (b == a) && (K.lookup a).isNone with
      | false =>
        rw [ec] at e
        cases e
      | true =>
        rw [ec] at e
        injection e with e
        obtain ⟨c1, c2⟩ := Bool.and_eq_true_iff.mp ec
        have c1 : b = a := beq_iff_eq.mp c1
        subst c1
        exact ⟨Option.isNone_iff_eq_none.mp c2, .inr ⟨e.symm, ha⟩⟩
  · have rv := vals_ints hi
    cases hk : K.lookup a with
    | some o =>
      have e := KX a o hk
      rw [ha] at e
      injection e with e
      subst e
      exact .inr ⟨scrO vs, vs.toArray, _, hk, rfl, rfl, rfl, by rw [List.size_toArray, hi.length]; exact hl, by simpa using rv⟩
    | none =>
      refine .inl (.inr ⟨scrO vs, ?_⟩)
      rw [offT a aNo, hk, beq_self_eq_true]
      rfl
namespace Begun
theorem ok (B : Begun K h cs a vs ns H) (hi : IntsAre vs ns) (hl : ns.length ≤ sizeLine) : HOk P w H h := fun b u e => by
  obtain ⟨_, q⟩ := B.only b u e
  rcases q with ⟨rfl, g, _⟩ | ⟨rfl, g⟩
  · exact g
  · exact ⟨g, by rw [List.length_map]; exact hl, vs, _, vals_ints hi, g⟩
/-- what is neither a table nor the script is not told -/
theorem off (B : Begun K h cs a vs ns H) {b : Addr} {o : Obj} (e : h.get? b = some o) (h1 : o ≠ tabO) (h2 : o ≠ scrO vs) : H b = none := by
  cases q : H b with
  | none => rfl
  | some u =>
    obtain ⟨_, z⟩ := B.only b u q
    rcases z with ⟨_, g, _⟩ | ⟨_, g⟩
    · rw [e] at g
      injection g with g
      exact absurd g h1
    · rw [e] at g
      injection g with g
      exact absurd g h2
theorem there (B : Begun K h cs a vs ns H) {b : Addr} {o : Obj} (e : h.get? b = some o) (h1 : o ≠ tabO) (h2 : o ≠ scrO vs) : (hidT h H).get? b = some o := hidT_get e (B.off e h1 h2)
theorem nsB (B : Begun K h cs a vs ns H) {b : Addr} {m : Str → Option Value} (n : h.Ns b m) : (hidT h H).Ns b m := by
  obtain ⟨o, es, ep, e, d, r⟩ := n
  refine ⟨o, es, ep, B.there e (fun z => ?_) (fun z => ?_), d, r⟩
  · rw [z] at d
    cases d
  · rw [z] at d
    cases d
theorem kin (B : Begun K h cs a vs ns H) (KX : K.In h) : K.In (hidT h H) := fun b o e => hidT_get (KX b o e) (by
  cases q : H b with
  | none => rfl
  | some u =>
    have z := (B.only b u q).1
    rw [e] at z
    cases z)
end Begun
end
section
variable {P : Program} {w : World} {K : PySem.W.Frag} {mg mb : Str → Option Value} {q : Program} {loose : List Str} {mean : ExcName → Option Value}
theorem base_mod {H : Hp} {h : Heap} {cs : List (Addr × Addr)} {a : Addr} {vs : List Value} {ns : List Int} (B : Begun K h cs a vs ns H) (KX : K.In h) (T : Top q loose mean mg mb h) : L2.Mod K mg (hidT h H) := by
  obtain ⟨mc, h1, h2⟩ := T.nolimit
  exact { kin := B.kin KX, glob := B.nsB T.g, blt := ⟨mb, B.nsB T.b, T.builtins⟩, nolimit := ⟨mc, B.nsB h1, h2⟩ }
theorem base_tab {H : Hp} {h : Heap} {cs : List (Addr × Addr)} {a : Addr} {vs : List Value} {ns : List Int} (B : Begun K h cs a vs ns H) (T : Top q loose mean mg mb h) {c p : Addr} (hT : h.get? p = some tabO) (C : PySem.W.CodeHd h c p) : TabB (hidT h H) mg c p := by
  refine { code := ?_, bm := ?_, gP := ?_ }
  · obtain ⟨o, us, file, tf, flags, tg, inF, text, tt, e, cl, d, r⟩ := C
    refine ⟨o, us, file, tf, flags, tg, inF, text, tt, B.there e (fun z => ?_) (fun z => ?_), cl, d, r⟩
    · rw [z] at cl
      cases cl
    · rw [z] at d
      cases d
  · obtain ⟨bm, ob, b1, b2, b3, b4, b5, b6⟩ := T.bmain
    have g : (hidT h H).get? bm = some ob := B.there b3 (fun z => by rw [z] at b6; cases b6) (fun z => by rw [z] at b6; cases b6)
    refine ⟨bm, ob, b1, b2, fun z => ?_, fun z => ?_, g, b4, b5, b6⟩
    · obtain ⟨o, es, ep, e, d, _⟩ := T.g
      rw [← z, b3] at e
      injection e with e
      rw [← e, b6] at d
      cases d
    · rw [← z, b3] at hT
      injection hT with hT
      rw [hT] at b6
      cases b6
  · intro z
    obtain ⟨o, es, ep, e, d, _⟩ := T.g
    rw [z, hT] at e
    injection e with e
    rw [← e] at d
    cases d
theorem end_old {h h' : Heap} {cs : List (Addr × Addr)} {a : Addr} {vs : List Value} {ns : List Int} {H H' : Hp} (B : Begun K h cs a vs ns H) (un : Un [] [] H H' h h') (ok' : HOk P w H' h') (C : ∀ p ∈ cs, PySem.W.CodeHd h p.1 p.2) : OldK h h' := by
  have each : ∀ b o, h.get? b = some o → asItWas h h' b o ∧ ∃ o', h'.get? b = some o' := fun b o e => by
    cases z : H b with
    | none =>
      have k := un.keep b o e z List.not_mem_nil List.not_mem_nil
      exact ⟨.inl k, o, k⟩
    | some u =>
      obtain ⟨_, y⟩ := B.only b u z
      rcases y with ⟨rfl, g, p, hp, rfl⟩ | ⟨rfl, g⟩
      · obtain ⟨more, m⟩ := un.tbls _ #[] z
        have k : h'.get? p.2 = some { cls := .none, data := .fields (#[] ++ more) } := ok' _ _ m
        rw [e] at g
        injection g with g
        subst g
        exact ⟨.inr (.inl ⟨((C p hp).tab e).isCodeTable, rfl, #[], more, rfl, k⟩), _, k⟩
      · have k := (ok' b _ (un.frzs b _ _ z)).1
        rw [e] at g
        injection g with g
        rw [g]
        exact ⟨.inl k, _, k⟩
  exact { old := fun b o e => (each b o e).1, there := fun b o e => (each b o e).2 }
/-- the law's call: its def is worth sp, and sp says True -/
theorem call_lawG {s : Shared} {cs : List (Addr × Addr)} {fa a : Addr} {vs : List Value} {ns : List Int} {k : Nat} {sp : Sp} (KX : K.In s.heap) (T : Top q loose mean mg mb s.heap) (hg : s.gens = #[])
    (hC : ∀ p ∈ cs, s.heap.get? p.2 = some tabO ∧ K.lookup p.2 = none ∧ PySem.W.CodeHd s.heap p.1 p.2) (ha : s.heap.get? a = some (scrO vs)) (hi : IntsAre vs ns) (hl : ns.length ≤ sizeLine) (hr : Room k callerA)
    (F : ∀ base : Heap, K.In base → base.Ns mainGlobals mg → (∀ p ∈ cs, TabB base mg p.1 p.2) → FnG P w K mg base CX0 k fa sp)
    (hsp : ∀ H : Hp, (∀ p ∈ cs, H p.2 = some (.tbl #[])) → SqL K H a (ns.map V.int) → sp [.ref a] H (fun v _ => v = .bl true) fun _ _ _ => False) :
    codeAny (model P w) callerA (.call (.ref fa) ⟨[.ref a], []⟩) (fun r s' => r = .ok (.ret (.bool true)) ∧ OldK s.heap s'.heap ∧ s'.os = s.os ∧ AllBare s'.gens) s := by
  obtain ⟨H, B⟩ := begun (cs := cs) KX (fun p hp => ⟨(hC p hp).1, (hC p hp).2.1⟩) ha hi hl
  have ok : HOk P w H s.heap := B.ok hi hl
  have M := base_mod B KX T
  have G := F (hidT s.heap H) M.kin M.glob fun p hp => base_tab B T (hC p hp).1 (hC p hp).2.2
  have E0 : Env0 P w K mg (hidT s.heap H) callerA [] s H :=
    { frames := rfl, mod := M, bs := fun b o e => of_hidT e, bsz := Nat.le_of_eq (hidT_size _ _), funs := trivial, frf := fun b hb => absurd hb List.not_mem_nil, hok := ok, bare := .of_eq hg }
  refine codeAny_mono (G callerA [] s H [.ref a] [.ref a] _ _ hr rfl E0 (.cons rfl .nil) (hsp H B.tabs B.scr)) fun r s' z => ?_
  match r, z with
  | .ok (.ret u), z =>
    obtain ⟨v, H', os, bare, un, ok', rel, e⟩ := z
    have e : v = .bl true := e
    rw [e] at rel
    have rel : u = Value.bool true := rel
    rw [rel]
    exact ⟨rfl, end_old B un ok' (fun p hp => (hC p hp).2.2), os, bare⟩
  | .error e, z => exact absurd z id
end
theorem tabIn_of {K : PySem.W.Frag} {x : Str} {f c p : Addr} {oc e : Value} {od dd : Option Addr} {fd : FuncData} {sl sl2 : Array (Option Value)} {vs : Array Value} (h1 : PySem.W.nsIn K mainGlobals x = some (some (.ref f))) (h2 : K.lookup f = some ⟨oc, od, .func fd, sl⟩) (h3 : fd.code = .ref c)
    (h4 : K.lookup c = some ⟨e, dd, .fields vs, sl2⟩) (h5 : vs[11]? = some (.ref p)) : PySem.W.tabIn K x = some (c, p) := by
  unfold PySem.W.tabIn
  simp only [h1, h2, h3, h4, h5]
/-- the tables of the defs at the top are empty -/
def TabsOf (q : Program) (K : PySem.W.Frag) (h : Heap) : Prop := ∀ (x : Str) (c p : Addr), ((recsOf q).find? fun e => e.name == x).isSome = true → PySem.W.tabIn K x = some (c, p) → PySem.W.CodeHd h c p ∧ h.get? p = some tabO
def LawG (l : PySem.W.OpenLaw) (w : World) (K : PySem.W.Frag) (k n : Nat) (mg : Str → Option Value) (fa : Addr) (h : Heap) : Prop :=
  ∃ (cs : List (Addr × Addr)) (sp : Sp), (∀ p ∈ cs, h.get? p.2 = some tabO ∧ K.lookup p.2 = none ∧ PySem.W.CodeHd h p.1 p.2) ∧
    (∀ (H : Hp) (a : Addr) (ns : List Int), ns.length ≤ n → (∀ p ∈ cs, H p.2 = some (.tbl #[])) → SqL K H a (ns.map V.int) → sp [.ref a] H (fun v _ => v = .bl true) fun _ _ _ => False) ∧
    ∀ base : Heap, K.In base → base.Ns mainGlobals mg → (∀ p ∈ cs, TabB base mg p.1 p.2) → FnG l.prog w K mg base CX0 k fa sp
theorem walk_G {l : PySem.W.OpenLaw} {n k : Nat} {q : Program} {loose : List Str} {XP : (Str → Option Value) → Heap → Prop} {YP : World → Heap → Prop} {d : DefRec} {K : Params → PySem.W.Frag}
    (hn : l.most = some n) (hn2 : n ≤ sizeLine) (hdf : d.params.defaults = []) (hr : Room k callerA) (hY : ∀ (w : World) (h : Heap), YP w h → (K w.params).In h)
    (F : ∀ (w : World) (mg : Str → Option Value) (fa : Addr) (h : Heap), (K w.params).In h → h.Ns mainGlobals mg → mg d.name = some (.ref fa) → TabsOf q (K w.params) h → LawG l w (K w.params) k n mg fa h) :
    PySem.W.WalkO q loose XP YP l.row.toRowW d [] (fun f vs => PySem.call f vs) := by
  refine Att.attach_callB hn hdf ?_
  intro w s₀ s₁ mg mb fa o pm cd doc a vs ns G Y _ _ _ hm hs hi hlen _ hg
  have X := hY w _ Y
  have T : TabsOf q (K w.params) s₁.heap := fun x c p e ht => by
    obtain ⟨dd, hd⟩ := Option.isSome_iff_exists.mp e
    exact PySem.W.tab_of G.T X hd ht
  obtain ⟨cs, sp, hC, hsp, hF⟩ := F w mg fa _ X G.T.g hm T
  exact call_lawG X G.T hg hC hs hi (Nat.le_trans hlen hn2) hr hF fun H hT hS => hsp H a ns hlen hT hS
end Own

/-! An error that leaves a def with star arguments. -/
namespace Own
open PySem PySem.Spec PySem.Calls PyProof.Rows L2
theorem cxnew (P : Program) (w : World) : CXNew (L2.CX P w) := by
  intro outer s H h2 p rest E e s' k hp n c
  obtain ⟨a, B, H', cls, d, e1, fl, ok, ub, na, os, bare, q⟩ := c
  have ne : ∀ b o, s.heap.get? b = some o → b ≠ p := fun b o g z => by
    have y := Heap.lt_size g
    rw [z] at y
    exact absurd y (Nat.not_lt.mpr hp)
  have nt : ∀ b u, H b = some u → b ≠ p := fun b u g z => by
    rw [z, n] at g
    cases g
  refine ⟨a, B, H', cls, d, e1, fl, ok, ⟨fun b o g h hb => ub.keep b o (k b o g) (by rw [upd_ne (ne b o g)]; exact h) hb, fun b o g hb => ub.slot b o (k b o g) hb, fun b o g h => ub.free b o (k b o g) (by rw [upd_ne (ne b o g)]; exact h),
    fun b o g hb => ub.there b o (k b o g) hb, fun b xs g => ub.tups b xs (by rw [upd_ne (nt b _ g)]; exact g), fun b o xs g => ub.frzs b o xs (by rw [upd_ne (nt b _ g)]; exact g), fun b ps g => ub.tbls b ps (by rw [upd_ne (nt b _ g)]; exact g)⟩, na, os, bare, q⟩
end Own

/-! An own thing's operator with a builtin thing on its right. -/
namespace Own
open PySem PySem.Spec PySem.Calls PyProof.Rows L2
section
variable {prog : Program} {w : World} {A : Around} {E : Value → Shared → Prop} {K : PySem.W.Frag} {x C g : Addr} {ox : Obj} {od : Option Obj} {s : Shared} {op : Operator} {b : Value} {T : String} {Q : Value → Shared → Prop}
theorem binop_N (X : K.In s.heap) (I : PySem.W.InstAt s.heap x ox C od) (hc : PySem.W.selfFirst K C = true) (hs : PySem.W.findIn K (.ref C) (PySem.dunder op.info.2) = some (some (.ref g))) (hf : PySem.W.isFn K (.ref g) = true)
    (hb : PySem.W.Looks (model prog w) s.heap (typeOf b) (.type T)) (hno : fillsNumberSlot (.type T) op.info.2 = pure false)
    (h : wpAny (model prog w) A (call (.ref g) [.ref x, b]) (PySem.W.CmpBack Q) E s) : wpAny (model prog w) A (binaryOp op (.ref x) b) Q E s := by
  obtain ⟨cd, hcd, hm⟩ := PySem.W.any_some hc
  obtain ⟨rest, hm⟩ : ∃ rest, cd.mro = .ref C :: rest := by
    cases q : cd.mro with
    | nil => rw [q] at hm; cases hm
    | cons a r => rw [q] at hm; exact ⟨r, by rw [List.head?_cons] at hm; cases (beq_iff_eq.mp hm); rfl⟩
  unfold binaryOp
  refine wpAny_holding (wpAny_bind ?_)
  unfold binaryOp1
  refine wpAny_bind (I.type.here (wpAny_bind (hb.here (wpAny_bind ((PySem.W.fills_K X hcd hm hs).here ?_)))))
  have hne : (Value.ref C == Value.type T) = false := rfl
  simp only [hne, Bool.false_eq_true, if_false]
  refine wpAny_bind (wpAny_of_eq (a := false) hno ?_)
  simp only [Bool.and_false, Bool.false_eq_true, if_false, Bool.false_and]
  refine wpAny_bind (wpAny_pure ?_)
  simp only [Bool.false_eq_true, if_false]
  refine wpAny_bind (m := tryMethod (.ref x) _ b) ?_
  unfold tryMethod
  refine wpAny_bind (PySem.W.special_fn X I hs (beq_iff_eq.mp hf) (wpAny_mono h (fun v s' hv => ?_) fun _ _ e => e))
  cases v <;> first | exact hv.elim | exact wpAny_pure (wpAny_pure (wpAny_pure hv))
theorem slot_own {M : Model} {nm : String} (X : K.In s.heap) (hs : PySem.W.findIn K (.ref C) (PySem.dunder nm) = some (some (.ref g))) (hr : PySem.W.findIn K (.ref C) (PySem.dunderR nm) = some none) {Q : Bool → Shared → Prop} (h : Q true s) : wpAny M A (numberSlotInPython (.ref C) nm) Q E s := by
  unfold numberSlotInPython
  refine wpAny_bind ((PySem.W.looks_findIn X hs).here (wpAny_bind (wpAny_pure (wpAny_bind ((PySem.W.looks_findIn X hr).here (wpAny_bind (wpAny_pure ?_)))))))
  exact wpAny_pure h
theorem binop_Y {m : Value} (X : K.In s.heap) (I : PySem.W.InstAt s.heap x ox C od) (hc : PySem.W.selfFirst K C = true) (hs : PySem.W.findIn K (.ref C) (PySem.dunder op.info.2) = some (some (.ref g))) (hf : PySem.W.isFn K (.ref g) = true)
    (hb : PySem.W.Looks (model prog w) s.heap (typeOf b) (.type T)) (hyes : fillsNumberSlot (.type T) op.info.2 = pure true) (hsub : PySem.W.subIn K (.type T) (.ref C) = some false) (hr : PySem.W.findIn K (.ref C) (PySem.dunderR op.info.2) = some none)
    (hl : typeLookup (.type T) (PySem.dunderR op.info.2) = pure (some m))
    (h : wpAny (model prog w) A (call (.ref g) [.ref x, b]) (PySem.W.CmpBack Q) E s) : wpAny (model prog w) A (binaryOp op (.ref x) b) Q E s := by
  obtain ⟨cd, hcd, hm⟩ := PySem.W.any_some hc
  obtain ⟨rest, hm⟩ : ∃ rest, cd.mro = .ref C :: rest := by
    cases q : cd.mro with
    | nil => rw [q] at hm; cases hm
    | cons a r => rw [q] at hm; exact ⟨r, by rw [List.head?_cons] at hm; cases (beq_iff_eq.mp hm); rfl⟩
  unfold binaryOp
  refine wpAny_holding (wpAny_bind ?_)
  unfold binaryOp1
  refine wpAny_bind (I.type.here (wpAny_bind (hb.here (wpAny_bind ((PySem.W.fills_K X hcd hm hs).here ?_)))))
  have hne : (Value.ref C == Value.type T) = false := rfl
  simp only [hne, Bool.false_eq_true, if_false]
  refine wpAny_bind (wpAny_of_eq (a := true) hyes ?_)
  simp only [Bool.and_self, if_true]
  refine wpAny_bind ((PySem.W.looks_subIn X hsub).here ?_)
  simp only [Bool.false_eq_true, if_false, Bool.not_false, Bool.and_self, if_true]
  refine wpAny_bind (slot_own X hs hr ?_)
  simp only [if_true]
  refine wpAny_bind (wpAny_of_eq (a := false) rfl ?_)
  simp only [Bool.not_false, if_true]
  refine wpAny_bind (wpAny_of_eq (a := some m) hl ?_)
  refine wpAny_bind (m := tryMethod (.ref x) _ b) ?_
  unfold tryMethod
  refine wpAny_bind (PySem.W.special_fn X I hs (beq_iff_eq.mp hf) (wpAny_mono h (fun v s' hv => ?_) fun _ _ e => e))
  cases v <;> first | exact hv.elim | exact wpAny_pure (wpAny_pure (wpAny_pure hv))
end
end Own
namespace Own
open PySem PySem.Spec PySem.Calls PyProof.Rows L2
theorem look_ty {T : String} {name : Str} {r : Option Value} (h : fastLookup T name = some r) : typeLookup (.type T) name = pure r := by
  rw [typeLookup_type, builtinLookup_eq_fast, h]
theorem fills_ty {T nm : String} {f r : Option Value} (hf : fastLookup T (PySem.dunder nm) = some f) (hr : fastLookup T (PySem.dunderR nm) = some r) : fillsNumberSlot (.type T) nm = pure ((f.isSome && !isSeqSlot f) || (r.isSome && !isSeqSlot r)) := by
  have e : fillsNumberSlot (.type T) nm = (do
      let f ← typeLookup (.type T) (PySem.dunder nm)
      let r ← typeLookup (.type T) (PySem.dunderR nm)
      return (f.isSome && !isSeqSlot f) || (r.isSome && !isSeqSlot r)) := rfl
  rw [e, look_ty hf, look_ty hr]
  rfl
theorem fl_NoneType_add : fillsNumberSlot (.type "NoneType") "add" = pure false := fills_ty (f := none) (r := none) (by kernel_rfl) (by kernel_rfl)
theorem fl_NoneType_and : fillsNumberSlot (.type "NoneType") "and" = pure false := fills_ty (f := none) (r := none) (by kernel_rfl) (by kernel_rfl)
theorem fl_int_add : fillsNumberSlot (.type "int") "add" = pure true := fills_ty (f := some (.builtin "int.__add__")) (r := some (.builtin "int.__radd__")) (by kernel_rfl) (by kernel_rfl)
theorem rl_int_add : typeLookup (.type "int") (PySem.dunderR "add") = pure (some (.builtin "int.__radd__")) := look_ty (by kernel_rfl)
theorem fl_int_and : fillsNumberSlot (.type "int") "and" = pure true := fills_ty (f := some (.builtin "int.__and__")) (r := some (.builtin "int.__rand__")) (by kernel_rfl) (by kernel_rfl)
theorem rl_int_and : typeLookup (.type "int") (PySem.dunderR "and") = pure (some (.builtin "int.__rand__")) := look_ty (by kernel_rfl)
theorem fl_bool_add : fillsNumberSlot (.type "bool") "add" = pure true := fills_ty (f := some (.builtin "int.__add__")) (r := some (.builtin "int.__radd__")) (by kernel_rfl) (by kernel_rfl)
theorem rl_bool_add : typeLookup (.type "bool") (PySem.dunderR "add") = pure (some (.builtin "int.__radd__")) := look_ty (by kernel_rfl)
theorem fl_bool_and : fillsNumberSlot (.type "bool") "and" = pure true := fills_ty (f := some (.builtin "bool.__and__")) (r := some (.builtin "bool.__rand__")) (by kernel_rfl) (by kernel_rfl)
theorem rl_bool_and : typeLookup (.type "bool") (PySem.dunderR "and") = pure (some (.builtin "bool.__rand__")) := look_ty (by kernel_rfl)
theorem fl_str_add : fillsNumberSlot (.type "str") "add" = pure false := fills_ty (f := some (.builtin "str.__add__")) (r := none) (by kernel_rfl) (by kernel_rfl)
theorem fl_str_and : fillsNumberSlot (.type "str") "and" = pure false := fills_ty (f := none) (r := none) (by kernel_rfl) (by kernel_rfl)
theorem fl_list_add : fillsNumberSlot (.type "list") "add" = pure false := fills_ty (f := some (.builtin "list.__add__")) (r := none) (by kernel_rfl) (by kernel_rfl)
theorem fl_list_and : fillsNumberSlot (.type "list") "and" = pure false := fills_ty (f := none) (r := none) (by kernel_rfl) (by kernel_rfl)
theorem fl_tuple_add : fillsNumberSlot (.type "tuple") "add" = pure false := fills_ty (f := some (.builtin "tuple.__add__")) (r := none) (by kernel_rfl) (by kernel_rfl)
theorem fl_tuple_and : fillsNumberSlot (.type "tuple") "and" = pure false := fills_ty (f := none) (r := none) (by kernel_rfl) (by kernel_rfl)
theorem fl_dict_add : fillsNumberSlot (.type "dict") "add" = pure false := fills_ty (f := none) (r := none) (by kernel_rfl) (by kernel_rfl)
theorem fl_dict_and : fillsNumberSlot (.type "dict") "and" = pure false := fills_ty (f := none) (r := none) (by kernel_rfl) (by kernel_rfl)
end Own
namespace Own
open PySem PySem.Spec PySem.Calls PyProof.Rows L2
section
variable {X : Cx} {CX : CXT} {C g : Addr} {n : Nat} {sp : Sp} {E : XK}
theorem bi_type {M : Model} {pins : List (Addr × Obj)} {σ : L2.St} {H : Hp} {s : Shared} {a : V} {va : Value} (I : L2.Inv X pins σ H s) (b : Bi H a) (ra : RelV a va) :
    ∃ T, PySem.W.Looks M s.heap (typeOf va) (.type T) ∧ (T = "NoneType" ∨ T = "int" ∨ T = "bool" ∨ T = "str" ∨ T = "list" ∨ T = "tuple" ∨ T = "dict") := by
  rcases b with rfl | ⟨i, rfl⟩ | ⟨b, rfl⟩ | ⟨y, rfl⟩ | ⟨l, xs, rfl, hl⟩ | ⟨l, xs, rfl, hl⟩ | ⟨l, kvs, rfl, hl⟩
  · cases (show va = Value.none from ra)
    exact ⟨"NoneType", .now, .inl rfl⟩
  · obtain ⟨tk, rfl⟩ := (show ∃ tk, va = Value.int i tk from ra)
    exact ⟨"int", .now, .inr (.inl rfl)⟩
  · cases (show va = Value.bool b from ra)
    exact ⟨"bool", .now, .inr (.inr (.inl rfl))⟩
  · obtain ⟨tk, rfl⟩ := (show ∃ tk, va = Value.str y tk from ra)
    exact ⟨"str", .now, .inr (.inr (.inr (.inl rfl)))⟩
  · cases (show va = Value.ref l from ra)
    obtain ⟨_, its, n', r, _, e⟩ := I.lstM hl
    exact ⟨"list", fun _ _ _ _ k q => wpAny_typeOf_ref (k _ _ e) q, .inr (.inr (.inr (.inr (.inl rfl))))⟩
  · cases (show va = Value.ref l from ra)
    obtain ⟨_, its, r, o, ho, hc, n', hd⟩ := I.hok l _ hl
    exact ⟨"tuple", fun _ _ _ _ k q => wpAny_typeOf_ref (k _ _ ho) (by rw [hc]; exact q), .inr (.inr (.inr (.inr (.inr (.inl rfl)))))⟩
  · cases (show va = Value.ref l from ra)
    obtain ⟨_, hm, vs, _, o, es, ep, ho, hc, hd, _⟩ := I.hok l _ hl
    exact ⟨"dict", fun _ _ _ _ k q => wpAny_typeOf_ref (k _ _ ho) (by rw [hc.1]; exact q), .inr (.inr (.inr (.inr (.inr (.inr rfl)))))⟩
theorem sub_intC {K : PySem.W.Frag} {C : Addr} : PySem.W.subIn K (.type "int") (.ref C) = some false := by rfl
theorem sub_boolC {K : PySem.W.Frag} {C : Addr} : PySem.W.subIn K (.type "bool") (.ref C) = some false := by rfl
/-- x + a, a builtin -/
theorem op_addB (hc : PySem.W.selfFirst X.K C = true) (hs : PySem.W.findIn X.K (.ref C) "__add__" = some (some (.ref g))) (hf : PySem.W.isFn X.K (.ref g) = true) (hR : PySem.W.findIn X.K (.ref C) "__radd__" = some none)
    (F : FnR X.prog X.w X.K X.mg X.base CX n g sp) (hr : Room n X.A) (hx : Passes CX X E) :
    OpR X (binaryOp .Add) (fun x y H Q => ∃ a dx fs, x = .ref a ∧ H a = some (.ins C dx fs) ∧ Bi H y ∧ sp [.ref a, y] H Q E) := by
  intro pins s σ H x y v u Q I rx ry h
  obtain ⟨a, dx, fs, rfl, ha, bi, q⟩ := h
  cases (show v = Value.ref a from rx)
  obtain ⟨od, J⟩ := inst_of I ha
  obtain ⟨T, hb, ht⟩ := bi_type (M := model X.prog X.w) I bi ry
  have run : wpAny (model X.prog X.w) X.A (call (.ref g) [.ref a, u]) (PySem.W.CmpBack (EP X pins σ Q)) X.xe s := by
    refine wpAny_mono (run_g (us := [.ref a, u]) (vs := [.ref a, y]) F hr hx I (.cons rfl (.cons ry .nil)) q) (fun w s' z => ?_) fun _ _ x => x
    obtain ⟨z', H', I', rz, qz⟩ := z
    exact SlX.cmpback rz ⟨z', H', I', rz, qz⟩
  rcases ht with rfl | rfl | rfl | rfl | rfl | rfl | rfl
  · exact binop_N (op := .Add) I.kIn J hc hs hf hb fl_NoneType_add run
  · exact binop_Y (op := .Add) I.kIn J hc hs hf hb fl_int_add sub_intC hR rl_int_add run
  · exact binop_Y (op := .Add) I.kIn J hc hs hf hb fl_bool_add sub_boolC hR rl_bool_add run
  · exact binop_N (op := .Add) I.kIn J hc hs hf hb fl_str_add run
  · exact binop_N (op := .Add) I.kIn J hc hs hf hb fl_list_add run
  · exact binop_N (op := .Add) I.kIn J hc hs hf hb fl_tuple_add run
  · exact binop_N (op := .Add) I.kIn J hc hs hf hb fl_dict_add run
/-- x & a, a builtin -/
theorem op_andB (hc : PySem.W.selfFirst X.K C = true) (hs : PySem.W.findIn X.K (.ref C) "__and__" = some (some (.ref g))) (hf : PySem.W.isFn X.K (.ref g) = true) (hR : PySem.W.findIn X.K (.ref C) "__rand__" = some none)
    (F : FnR X.prog X.w X.K X.mg X.base CX n g sp) (hr : Room n X.A) (hx : Passes CX X E) :
    OpR X (binaryOp .BitAnd) (fun x y H Q => ∃ a dx fs, x = .ref a ∧ H a = some (.ins C dx fs) ∧ Bi H y ∧ sp [.ref a, y] H Q E) := by
  intro pins s σ H x y v u Q I rx ry h
  obtain ⟨a, dx, fs, rfl, ha, bi, q⟩ := h
  cases (show v = Value.ref a from rx)
  obtain ⟨od, J⟩ := inst_of I ha
  obtain ⟨T, hb, ht⟩ := bi_type (M := model X.prog X.w) I bi ry
  have run : wpAny (model X.prog X.w) X.A (call (.ref g) [.ref a, u]) (PySem.W.CmpBack (EP X pins σ Q)) X.xe s := by
    refine wpAny_mono (run_g (us := [.ref a, u]) (vs := [.ref a, y]) F hr hx I (.cons rfl (.cons ry .nil)) q) (fun w s' z => ?_) fun _ _ x => x
    obtain ⟨z', H', I', rz, qz⟩ := z
    exact SlX.cmpback rz ⟨z', H', I', rz, qz⟩
  rcases ht with rfl | rfl | rfl | rfl | rfl | rfl | rfl
  · exact binop_N (op := .BitAnd) I.kIn J hc hs hf hb fl_NoneType_and run
  · exact binop_Y (op := .BitAnd) I.kIn J hc hs hf hb fl_int_and sub_intC hR rl_int_and run
  · exact binop_Y (op := .BitAnd) I.kIn J hc hs hf hb fl_bool_and sub_boolC hR rl_bool_and run
  · exact binop_N (op := .BitAnd) I.kIn J hc hs hf hb fl_str_and run
  · exact binop_N (op := .BitAnd) I.kIn J hc hs hf hb fl_list_and run
  · exact binop_N (op := .BitAnd) I.kIn J hc hs hf hb fl_tuple_and run
  · exact binop_N (op := .BitAnd) I.kIn J hc hs hf hb fl_dict_and run
end
end Own

namespace Own
open PySem L2
theorem kit_other {K : PySem.W.Frag} {C D : Addr} {b b' : Bool} (ne : C ≠ D) (ht : PySem.W.typeIn K (.ref D) = some (.type "type")) (ho : PySem.W.mroIn K D (.type "object") = some b') (hm : PySem.W.mroIn K C (.ref D) = some b) : PySem.W.kitOne K (.ref C) (.ref D) = some b := by
  unfold PySem.W.kitOne
  rw [if_neg (fun z => ne (Value.ref.inj (beq_iff_eq.mp z)))]
  unfold PySem.W.kitCls
  have hc : (PySem.W.clsIn K D).isSome = true := by
    unfold PySem.W.mroIn at ho
    cases e : PySem.W.clsIn K D with
    | none =>
      rw [e] at ho
      cases ho
    | some _ => rfl
  show (if _ then _ else _) = _
  rw [if_pos (by
    rw [hc, ht]
    decide)]
  exact hm
end Own

/-! Class methods and static methods, called with one keyword. -/
namespace Own
open PySem PySem.Spec PySem.Calls PyProof.Rows L2
section
variable {X : Cx} {CX : CXT} {k : Nat} {C p_ g : Addr} {mc : Value} {sp : Sp} {E : XK} {o e : Expr} {m : Str} {pos apos : Pos} {ta te : TE} {pl : Sem Bool}
theorem pe_cmethK1 {fd : FuncData} {kn a1 : Str} {kpos : Pos} (he : PE X o ta) (r : ClX.CRead X.K C mc) (c : ClX.CMet X.K C mc m p_ g) (F : FnOk X.prog X.w X.K X.mg X.base CX k g fd [a1, kn] sp) (hr : Room k X.A)
    (hb : ∀ (s : Shared) (u v : Value), X.K.In s.heap → BindsTo s fd ⟨[u], [(kn, v)]⟩ [(a1, u), (kn, v)]) (hx : Passes CX X E) (hk : PE X e te)
    (ht : eval (.Call (.Attribute o m apos) [] [⟨some kn, e, kpos⟩] pos) X.env = (do
      let ov ← eval o X.env
      standAt apos.atName
      let (f, first) ← holding [ov] (getMethod ov m pl)
      callWith pos f first (backTo pos (starEach [] X.env)) (backToKw pos (keywordEach [⟨some kn, e, kpos⟩] X.env))) := by rfl) :
    PE X (.Call (.Attribute o m apos) [] [⟨some kn, e, kpos⟩] pos) (ClX.tCMeth C sp E ta (tCons te tNil)) := by
  refine ⟨fun pins s σ H Q I h => ?_⟩
  refine PySem.W.methodCall_KW (pl := pl) (thn (he.run pins s σ H _ I h) fun u s1 ⟨x, H1, I1, rx, ex, q⟩ => ?_) ht
  subst ex
  obtain rfl : u = Value.ref C := rx
  refine ClX.getmethcm_ok I1 r c fun s2 I2 => ?_
  refine PySem.W.callWith_of (P := PySem.W.MethP X.K s1.heap.objs.size g (.ref C)) (first := []) rfl (PySem.W.keeps_M c.fi) (evalArgs_kw2_nil rfl ?_)
  refine thn ((pk_cons (nm := some kn) (kpos := kpos) hk pk_nil).run pos _ s2 σ H1 _ I2 q) fun ws s3 ⟨zs, H2, I3, rz, q2⟩ => ⟨⟨ClX.pin_at I3, I3.kIn⟩, ?_⟩
  have hl := F.len _ _ _ _ q2
  obtain ⟨z, rfl⟩ : ∃ z, zs = [z] := by
    match zs, hl with
    | [z], _ => exact ⟨z, rfl⟩
  obtain ⟨u', rfl, ru⟩ := vals1 rz
  have run : wpAny (model X.prog X.w) X.A (call (.ref s1.heap.objs.size) [] [(kn, u')]) (EP X ((s1.heap.objs.size, PySem.W.methodObj (.ref g) (.ref C)) :: pins) σ Q) X.xe s3 := by
    refine wpAny_call (PySem.W.method_call (ClX.pin_at I3) (codeAny_mono (F.run X.A X.stack s3 H2 ⟨[.ref C], [(kn, u')]⟩ [.ref C, u'] [.ref C, z] Q E hr I3.env0 (hb s3 _ _ I3.kIn) (.cons rfl (.cons ru .nil)) q2) fun r s' hq => ?_))
    cases r with
    | error e => exact hx _ σ H2 s3 e s' I3 hq
    | ok fl =>
      cases fl with
      | ret u => exact I3.after hq
      | next => exact False.elim hq
      | brk => exact False.elim hq
      | cont => exact False.elim hq
  exact thn run fun _ _ y => ClX.unpinE y
/-- C.m(k = e), m a static method -/
theorem pe_smethK1 {fd : FuncData} {kn : Str} {kpos : Pos} (he : PE X o ta) (r : ClX.CRead X.K C mc) (c : SMet X.K C mc m p_ g) (F : FnOk X.prog X.w X.K X.mg X.base CX k g fd [kn] sp) (hr : Room k X.A)
    (hb : ∀ (s : Shared) (v : Value), X.K.In s.heap → BindsTo s fd ⟨[], [(kn, v)]⟩ [(kn, v)]) (hx : Passes CX X E) (hk : PE X e te)
    (ht : eval (.Call (.Attribute o m apos) [] [⟨some kn, e, kpos⟩] pos) X.env = (do
      let ov ← eval o X.env
      standAt apos.atName
      let (f, first) ← holding [ov] (getMethod ov m pl)
      callWith pos f first (backTo pos (starEach [] X.env)) (backToKw pos (keywordEach [⟨some kn, e, kpos⟩] X.env))) := by rfl) :
    PE X (.Call (.Attribute o m apos) [] [⟨some kn, e, kpos⟩] pos) (tSMeth C sp E ta (tCons te tNil)) := by
  refine ⟨fun pins s σ H Q I h => ?_⟩
  refine PySem.W.methodCall_KW (pl := pl) (thn (he.run pins s σ H _ I h) fun u s1 ⟨x, H1, I1, rx, ex, q⟩ => ?_) ht
  subst ex
  obtain rfl : u = Value.ref C := rx
  refine getmethsm_ok I1 r c fun s2 I2 => ?_
  refine PySem.W.callWith_KW0 (first := []) (h₀ := X.base) I.ok.mod.kin c.kp rfl (thn ((pk_cons (nm := some kn) (kpos := kpos) hk pk_nil).run pos pins s2 σ H1 _ I2 q) fun ws s3 ⟨zs, H2, I3, rz, q2⟩ => ⟨I3.kIn, ?_⟩) rfl
  have hl := F.len _ _ _ _ q2
  obtain ⟨z, rfl⟩ : ∃ z, zs = [z] := by
    match zs, hl with
    | [z], _ => exact ⟨z, rfl⟩
  obtain ⟨u', rfl, ru⟩ := vals1 rz
  refine wpAny_call (codeAny_mono (F.run X.A X.stack s3 H2 ⟨[], [(kn, u')]⟩ [u'] [z] Q E hr I3.env0 (hb s3 _ I3.kIn) (.cons ru .nil) q2) fun r s' hq => ?_)
  cases r with
  | error e => exact hx pins σ H2 s3 e s' I3 hq
  | ok fl =>
    cases fl with
    | ret u => exact I3.after hq
    | next => exact False.elim hq
    | brk => exact False.elim hq
    | cont => exact False.elim hq
end
end Own

/-! a lambda without parameters as a value, called by its maker -/
namespace Own
open PySem PySem.Spec PyProof.Rows L2 LamX
/-- the words of a lambda -/
structure LamW where
  params : Arguments
  body : Expr
  scope : Scope
/-- the object at f is the lambda L that the def of X made -/
def LamO (X : Cx) (L : LamW) (f c' : Addr) : HO := .ext fun h => ∃ (pm ctv : Value), h.get? f = some (PySem.W.kla_obj "<lambda>" (X.env.qual ++ "<lambda>") L.params L.body L.scope (cloFrom X.env.cells L.scope.names []) pm c' ctv)
section
variable {X : Cx} {pins : List (Addr × Obj)} {σ : L2.St} {H : Hp} {s : Shared}
theorem lamO_at {L : LamW} {f c' : Addr} (I : Inv X pins σ H s) (e : H f = some (LamO X L f c')) : ∃ (pm ctv : Value), s.heap.get? f = some (PySem.W.kla_obj "<lambda>" (X.env.qual ++ "<lambda>") L.params L.body L.scope (cloFrom X.env.cells L.scope.names []) pm c' ctv) := by
  obtain ⟨z, _, _⟩ := I.hok f _ e
  exact z
theorem inv_lam {L : LamW} {c' : Addr} {pm ctv : Value} {t' : Nat} (I : Inv X pins σ H s) :
    Inv X pins σ (upd H s.heap.objs.size (LamO X L s.heap.objs.size c')) { s with heap := s.heap.push (PySem.W.kla_obj "<lambda>" (X.env.qual ++ "<lambda>") L.params L.body L.scope (cloFrom X.env.cells L.scope.names []) pm c' ctv), toks := t' } := by
  refine I.laid (a := s.heap.objs.size) (fun b u e => Heap.get?_push_of_some _ e) (Nat.le_refl _) ?_
  have e : (s.heap.push (PySem.W.kla_obj "<lambda>" (X.env.qual ++ "<lambda>") L.params L.body L.scope (cloFrom X.env.cells L.scope.names []) pm c' ctv)).get? s.heap.objs.size = some _ := Heap.get?_push_size _ rfl
  exact ⟨⟨pm, ctv, e⟩, ⟨_, e⟩, fun h1 h2 ⟨p, t, z⟩ st => ⟨p, t, st _ z⟩⟩
/-- the reading of a lambda -/
def tLamV (X : Cx) (T : List (Addr × Str)) (L : LamW) : TE := fun _ H Q => Tabs T H ∧ ∀ (f c' : Addr) (H1 : Hp), ExtN H H1 → Tabs T H1 → H f = none → H1 f = some (LamO X L f c') → H1 c' = some (CodeO c' (X.env.qual ++ "<lambda>")) → Q (.ref f) H1
theorem pe_lamV {T : List (Addr × Str)} {c P : Addr} {L : LamW} {pos : Pos} (TB : TabB X.base X.mg c P) (hcode : X.env.code = .ref c) (hm : (P, X.env.qual ++ "<lambda>") ∈ T) (hu : ∀ p ∈ T, p.1 = P → p.2 = X.env.qual ++ "<lambda>")
    (LS : LamS X.env.scope L.scope) (hdef : defaultsOf L.params X.env = ([], [])) : PE X (.Lambda L.params L.body L.scope pos) (tLamV X T L) := by
  refine ⟨fun pins s σ H Q I hw => ?_⟩
  obtain ⟨hT, h⟩ := hw
  have hfree := LS.has I.ok
  obtain ⟨ps, hP, ht, ha⟩ := hT _ hm
  refine PySem.W.kla_eval hdef ?_
  have bP : s.heap.BuiltinsAt X.mg P := TB.bm.keeps I.bk
  have hP' : s.heap.get? P = some { cls := .none, data := .fields ps } := I.hok P _ hP
  cases hc : codeAmong pos ps.toList with
  | none =>
    refine PySem.W.kla_makeFunction (mg := X.mg) (c := c) (P := P) (ps := ps) (closure_ok hfree) I.ok.glob (I.mod.glob.keeps I.bk) hcode (TB.code.keeps I.bk) hP' ht hc TB.gP bP fun c' ctv h' tk hx hge hlt hrec htb => ?_
    obtain ⟨c2, oc, vs, t, e2, hoc, hd, hv⟩ := hrec
    cases e2
    have nC : H c' = none := I.hok.fresh hge
    have I1 := inv_table (t' := tk) (more := #[rawInt pos.line, rawInt pos.col, .ref c']) (h' := h') I hP (fun b o hb e => hx b o hb e) htb hge ⟨oc, vs, t, hoc, hd, hv⟩
    have hE : ExtN H (upd (upd H P (.tbl (ps ++ #[rawInt pos.line, rawInt pos.col, .ref c']))) c' (CodeO c' (X.env.qual ++ "<lambda>"))) := fun b o e n => by
      rw [upd_ne (ne_of_none e nC), upd_ne (fun z => n ps (Option.some.inj (e.symm.trans (by rw [z]; exact hP))))]
      exact e
    have eL : (ps ++ #[rawInt pos.line, rawInt pos.col, .ref c']).toList = ps.toList ++ [rawInt pos.line, rawInt pos.col, .ref c'] := by simp
    have T1 : Tabs T (upd (upd H P (.tbl (ps ++ #[rawInt pos.line, rawInt pos.col, .ref c']))) c' (CodeO c' (X.env.qual ++ "<lambda>"))) := fun p hp => by
      by_cases hb : p.1 = P
      · rw [hu p hp hb, hb]
        refine ⟨_, by rw [upd_ne (ne_of_none hP nC), upd_same], by rw [eL]; exact PySem.TriplesOk_snoc _ _ _ _ ht, fun p' cv hcv => ?_⟩
        rw [eL] at hcv
        rcases among_app _ ht hcv with z | z
        · obtain ⟨c0, e1, e2⟩ := ha p' cv z
          exact ⟨c0, e1, hE _ _ e2 codeO_ne⟩
        · exact ⟨c', z, upd_same⟩
      · obtain ⟨ps', a1, a2, a3⟩ := hT p hp
        refine ⟨ps', by rw [upd_ne (ne_of_none a1 nC), upd_ne hb]; exact a1, a2, fun p' cv hcv => ?_⟩
        obtain ⟨c0, e1, e2⟩ := a3 p' cv hcv
        exact ⟨c0, e1, hE _ _ e2 codeO_ne⟩
    have nF := I1.hok.fresh (Nat.le_refl _)
    have I2 := inv_lam (L := L) (c' := c') (pm := (X.mg "__name__").getD .none) (ctv := ctv) (t' := tk) I1
    refine ⟨.ref h'.objs.size, _, I2, rfl, h h'.objs.size c' _ (fun b o e n => ?_) (T1.ext fun b o e => ?_) (I.hok.fresh (Nat.le_trans hge (Nat.le_of_lt hlt))) upd_same ?_⟩
    · have e1 := hE b o e n
      exact (upd_ne (ne_of_none e1 nF)).trans e1
    · exact (upd_ne (ne_of_none e nF)).trans e
    · exact (upd_ne (Nat.ne_of_lt hlt)).trans upd_same
  | some cv =>
    obtain ⟨c', e, hco⟩ := ha pos cv hc
    subst e
    refine PySem.W.kla_makeFunctionHit (mg := X.mg) (c := c) (P := P) (ps := ps) (closure_ok hfree) I.ok.glob (I.mod.glob.keeps I.bk) hcode (TB.code.keeps I.bk) hP' ht hc bP fun ctv h' tk hx hsz => ?_
    have I1 : Inv X pins σ H { s with heap := h', toks := tk } := I.kept hx
    have nF : H h'.objs.size = none := I1.hok.fresh (Nat.le_refl _)
    have I2 := inv_lam (L := L) (c' := c') (pm := (X.mg "__name__").getD .none) (ctv := ctv) (t' := tk) I1
    refine ⟨.ref h'.objs.size, _, I2, rfl, h h'.objs.size c' _ (fun b o e n => ?_) (hT.ext fun b o e => ?_) nF upd_same ?_⟩
    · exact (upd_ne (ne_of_none e nF)).trans e
    · exact (upd_ne (ne_of_none e nF)).trans e
    · exact (upd_ne (ne_of_none hco nF)).trans hco
/-- x(), x a name of the maker's own that holds the lambda L -/
theorem pe_callLam {L : LamW} {k i : Nat} {a : Str} {E : XK} {tb : TE} {p1 p2 : Pos} (LS : LamS X.env.scope L.scope)
    (hbind : ∀ (q : Str) (cl : List (Str × Addr)) (pm cv ctv : Value), bindArgs (PySem.W.kla_fn "<lambda>" q L.params L.body L.scope cl pm cv ctv) ⟨[], []⟩ = pure [])
    (hx : Passes (L2.CX X.prog X.w) X E) (hr : Room (k + 1) X.A)
    (hbody : ∀ (A : Around) (outer : List Env) (s : Shared) (H : Hp) (f c' : Addr), Room k (A.deeper (lamEnv X L.scope s.heap.objs.size f c')) → PE (lamCx X A outer s H E L.scope f c') L.body tb)
    (hN : X.N[i]? = some a) (hv : Vis X.env.scope a) (hd : (a == ("__debug__" : Str)) = false := by decide) (hcd : (a == ("__classdict__" : Str)) = false := by decide) :
    PE X (.Call (.Name a p1) [] [] p2)
      (fun σ H Q => ∃ f c', σ[i]? = some (some (.ref f)) ∧ H f = some (LamO X L f c') ∧ H c' = some (CodeO c' (X.env.qual ++ "<lambda>")) ∧ tb σ H Q) := by
  refine ⟨fun pins s σ H Q I h => ?_⟩
  obtain ⟨f, c', hs, hf, hc, ht⟩ := h
  refine wpAny_Call_Name_kw (thn ((pe_var (pos := p1) (i := i) hN hv hd hcd).run pins s σ H (fun v H1 => v = .ref f ∧ H1 = H) I ⟨.ref f, hs, rfl, rfl⟩) fun u s1 ⟨v, H1, I1, r1, q1⟩ => ?_)
  obtain ⟨ev, eH⟩ := q1
  subst ev
  rw [eH] at I1
  obtain rfl : u = Value.ref f := r1
  obtain ⟨pm, ctv, of1⟩ := lamO_at I1 hf
  refine PySem.W.callWith_F0 ⟨_, _, _, _, of1⟩ ?_
  obtain ⟨⟨oc, vs, t, hoc, hdc, hvc⟩, _, _⟩ := I1.hok c' _ hc
  have rc : codeAny (model X.prog X.w) X.A (.call (.ref f) ⟨[], []⟩) (CR (L2.CX X.prog X.w) X.stack X.prog X.w H s1 Q E) s1 := by
    refine PySem.W.kla_callFunE hr.depth of1 rfl LS.co LS.gen rfl ⟨c', oc, vs, t, rfl, hoc, hdc, hvc⟩ ?_
    rw [hbind]
    refine wpAny_pure (wpAny_newFunctionEnv (fun y hy => (LS.own y hy).2) (fun y hy => absurd hy (by simp)) (fun h₁ hns hsb => ⟨I1.nolimit.fresh _ hsb, ?_⟩) LS.kind)
    show codeAny _ _ (.expr L.body (lamEnv X L.scope s1.heap.objs.size f c')) _ _
    have kp : ∀ b o, s1.heap.get? b = some o → h₁.get? b = some o := fun b o e => hsb.extBut b o (Nat.ne_of_lt (Heap.lt_size e)) (Heap.get?_push_of_some _ e)
    have J : Inv (lamCx X X.A X.stack s1 H E L.scope f c') [] σ H { s1 with heap := h₁, toks := s1.toks + ([] : List (Str × Value)).length } :=
      lam_start2 I1 LS I1.env0 hr.hd Un.refl hns kp
    refine PySem.W.kla_codeExpr (wpAny_mono ((hbody _ _ s1 H f c' (hr.deeper _)).run [] _ _ H Q J ht) (fun v s' hq => ?_) fun e s' hq => hq)
    obtain ⟨w', H', J', rv, q⟩ := hq
    exact ⟨w', H', J'.os, J'.bare, J'.base, J'.hok, rv, q⟩
  refine wpAny_call (codeAny_mono rc fun r s' hq => ?_)
  cases r with
  | error e => exact hx pins σ H s1 e s' I1 hq
  | ok fl =>
    cases fl with
    | ret u => exact I1.after hq
    | next => exact False.elim hq
    | brk => exact False.elim hq
    | cont => exact False.elim hq
end
end Own

/-! Own errors made as values: C(x), C(f = x), C(). -/
namespace PySem
namespace OwnK
open PySem.W PySem.Calls PyProof.Rows PySem.HandSPX
section
variable {M : Model} {A : Around} {E : Value → Shared → Prop} {hp : Heap} {gs : Array GenState} {dr : Drawn} {tk : Nat} {os : OsState}
variable {nm q : Str} {C N : Addr} {bs bm bB : List Value} {hd : Bool} {sn : List Str} {sub : List Value} {ab : Bool} {col : Option Bool} {dd : Option Addr} {k0 k1 k2 k3 k5 : Option Value} {B newId initId : String}
/-- the look at C.__new__(C, .., k = v) lets any names pass -/
theorem kw_check (F : ExcBaseFacts B newId initId bB) (hT : ∀ Y : String, bm.contains (.type Y) = bB.contains (.type Y)) {us : List Value} {kw : List (Str × Value)} {Q : Unit → Shared → Prop}
    (lC : hp.get? C = some (excClassObj nm q C N bs bm hd sn sub ab col dd k0 k1 k2 k3 k5 newId)) (fin : Q () ⟨hp, gs, dr, tk, os⟩) :
    wpAny M A (checkBuiltinCall newId ⟨.ref C :: us, kw⟩) Q E ⟨hp, gs, dr, tk, os⟩ := by
  have inB : (Value.ref C :: bm).contains (.type B) = true := by
    rw [List.contains_cons, hT, F.hasB, Bool.or_true]
  have noS := F.noStar
  simp only [checkBuiltinCall, F.newKind, F.newSplit, F.newRow]
  repeat (first
    | refine wpAny_loadPart_at lC ?_
    | (refine wpAny_isSubtype_exc lC ?_
       rw [inB])
    | refine wpAny_staticBase_exc lC ?_
    | refine wpAny_madeBy_exc lC ?_
    | simp only [bne_self_eq_false, Bool.false_eq_true, if_false]
    | wp_step)
  all_goals exact fin
theorem kw_tcheck {us : List Value} {kw : List (Str × Value)} {Q : Unit → Shared → Prop} (lC : hp.get? C = some (excClassObj nm q C N bs bm hd sn sub ab col dd k0 k1 k2 k3 k5 newId)) (fin : Q () ⟨hp, gs, dr, tk, os⟩) :
    wpAny M A (checkBuiltinCall "type.__call__" ⟨.ref C :: us, kw⟩) Q E ⟨hp, gs, dr, tk, os⟩ := by
  have f3 := tc_sub
  have isT : (⟨hp, gs, dr, tk, os⟩ : Shared).TypeIs (.ref C) "type" := ⟨_, lC, rfl⟩
  simp only [checkBuiltinCall, tc_kind, tc_split]
  repeat (any_goals (first
    | assumption
    | with_reducible refine wpAny_loadPart_at lC ?_
    | with_reducible refine wpAny_onRaise ?_
    | with_reducible refine wpAny_map ?_
    | wp_step))
end
section
variable {prog : Program} {w : World} {A : Around} {E : Value → Shared → Prop} {R : Result → Shared → Prop} {hp : Heap} {gs : Array GenState} {dr : Drawn} {tk : Nat} {os : OsState}
variable {nm q : Str} {C N : Addr} {bs bm bB : List Value} {hd : Bool} {sn : List Str} {sub : List Value} {ab : Bool} {col : Option Bool} {dd : Option Addr} {k0 k1 k2 k3 k5 : Option Value} {B newId initId : String}
theorem kw_new (F : ExcBaseFacts B newId initId bB) (hT : ∀ Y : String, bm.contains (.type Y) = bB.contains (.type Y)) {us : List Value} {kw : List (Str × Value)}
    (lC : hp.get? C = some (excClassObj nm q C N bs bm hd sn sub ab col dd k0 k1 k2 k3 k5 newId)) (hl : us.length ≤ sizeLine)
    (fin : R (.ok (.ret (.ref (hp.objs.size + 1)))) ⟨(hp.push (kdv_tup us)).push (excO C hp.objs.size), gs, dr, tk, os⟩) :
    codeAny (model prog w) A (.builtin newId ⟨.ref C :: us, kw⟩) R ⟨hp, gs, dr, tk, os⟩ := by
  have en := F.ends
  have inB : (Value.ref C :: bm).contains (.type B) = true := by
    rw [List.contains_cons, hT, F.hasB, Bool.or_true]
  have noA : (Value.ref C :: bm).contains (.type "AttributeError") = false := by
    rw [List.contains_cons, hT, F.noAttr]
    rfl
  have noN : (Value.ref C :: bm).contains (.type "NameError") = false := by
    rw [List.contains_cons, hT, F.noName]
    rfl
  refine codeAny_builtinAt F.entry ?_
  unfold Builtin.«BaseException.__new__»
  refine wpAt_bind ?_
  show wpAt _ _ _ (stack >>= _) _ _ _
  refine wpAt_bind (wpAt_stack fun _ _ => wpAt_of_wpAny ?_)
  wp_walk
  refine wpAt_of_wpAny ?_
  rw [F.owner]
  repeat (first
    | with_reducible refine wpAny_madeHere_exc F.canon lC ?_
    | with_reducible refine wpAny_loadPart_at lC ?_
    | (with_reducible refine wpAny_isSubtype_exc lC ?_
       first
         | rw [inB]
         | rw [noA]
         | rw [noN])
    | wp_step)
  show R _ _
  rw [Heap.size_push]
  exact fin
theorem kw_tcall (F : ExcBaseFacts B newId initId bB) (hT : ∀ Y : String, bm.contains (.type Y) = bB.contains (.type Y)) {us : List Value} {kw : List (Str × Value)} {fI : Addr} {Q : Fin → Shared → Prop}
    (lC : hp.get? C = some (excClassObj nm q C N bs bm hd sn sub ab col dd k0 k1 k2 k3 k5 newId)) (hl : us.length ≤ sizeLine)
    (hi : Looks (model prog w) hp (typeLookup (.ref C) "__init__") (some (.ref fI))) (hb : ∀ x, Looks (model prog w) hp (bindSpecial (.ref fI) x) (.ref fI, [x]))
    (run : codeAny (model prog w) A (.call (.ref fI) ⟨.ref (hp.objs.size + 1) :: us, kw⟩)
      (fun r s2 => match r with
        | .ok (.ret v) => v = .none ∧ Q (.done (.ret (.ref (hp.objs.size + 1)))) s2
        | .ok _ => False
        | .error e => E e s2)
      ⟨(hp.push (kdv_tup us)).push (excO C hp.objs.size), gs, dr, tk, os⟩) :
    wpAny (model prog w) A (Builtin.«type.__call__» ⟨.ref C :: us, kw⟩) Q E ⟨hp, gs, dr, tk, os⟩ := by
  repeat (first
    | with_reducible refine wpAny_loadPart_at lC ?_
    | with_reducible refine wpAny_madeBy_exc lC ?_
    | wp_step)
  refine codeAny_call_builtin_code (Code.quiet_builtin _ F.quiet) (kw_check F hT lC ?_)
  refine kw_new F hT lC hl ?_
  show wpAny _ _ _ _ _ _
  have kp : ∀ b o, hp.get? b = some o → ((hp.push (kdv_tup us)).push (excO C hp.objs.size)).get? b = some o := fun b o e => Heap.get?_push_of_some _ (Heap.get?_push_of_some _ e)
  have lC2 := kp _ _ lC
  have lx : ((hp.push (kdv_tup us)).push (excO C hp.objs.size)).get? (hp.objs.size + 1) = some (excO C hp.objs.size) := by heap_get
  have inC : (Value.ref C :: bm).contains (.ref C) = true := by simp
  have i2 := hi.keeps kp
  have b2 := (hb (.ref (hp.objs.size + 1))).keeps kp
  unfold isInstance
  repeat (first
    | with_reducible refine wpAny_loadPart_at lx ?_
    | (with_reducible refine wpAny_isSubtype_exc lC2 ?_
       rw [inC])
    | wp_step)
  show wpAny _ _ (typeLookup (.ref C) _) _ _ _
  refine i2.at ?_
  refine wpAny_holding (wpAny_bind (b2.at ?_))
  refine wpAny_bind (wpAny_call (codeAny_mono run fun r s2 z => ?_))
  match r, z with
  | .error _, z => exact z
  | .ok (.ret _), ⟨e, z⟩ =>
    subst e
    first
      | exact wpAny_pure (wpAny_pure z)
      | (wp_walk; exact z)
theorem kw_call (F : ExcBaseFacts B newId initId bB) (hT : ∀ Y : String, bm.contains (.type Y) = bB.contains (.type Y)) {us : List Value} {kw : List (Str × Value)} {fI : Addr}
    (lC : hp.get? C = some (excClassObj nm q C N bs bm hd sn sub ab col dd k0 k1 k2 k3 k5 newId)) (hl : us.length ≤ sizeLine)
    (hi : Looks (model prog w) hp (typeLookup (.ref C) "__init__") (some (.ref fI))) (hb : ∀ x, Looks (model prog w) hp (bindSpecial (.ref fI) x) (.ref fI, [x]))
    (run : codeAny (model prog w) (A.under (.builtin "type.__call__" ⟨.ref C :: us, kw⟩)) (.call (.ref fI) ⟨.ref (hp.objs.size + 1) :: us, kw⟩) (InitBack (hp.objs.size + 1) R)
      ⟨(hp.push (kdv_tup us)).push (excO C hp.objs.size), gs, dr, tk, os⟩) :
    codeAny (model prog w) A (.call (.ref C) ⟨us, kw⟩) R ⟨hp, gs, dr, tk, os⟩ := by
  have g1 := tc_lookup
  have g2 := tc_bind (.ref C)
  have isT : (⟨hp, gs, dr, tk, os⟩ : Shared).TypeIs (.ref C) "type" := ⟨_, lC, rfl⟩
  refine codeAny_of_tree ?_
  show wpAny _ _ (callAny (.ref C) _) _ _ _
  repeat (any_goals (first
    | assumption
    | with_reducible refine wpAny_loadPart_at lC ?_
    | wp_step))
  refine ⟨rfl, ?_⟩
  refine codeAny_call_builtin_at (Code.quiet_builtin _ (by decide +kernel)) entry_typeCall (kw_tcheck lC (kw_tcall F hT lC hl hi hb ?_))
  refine codeAny_mono run fun r s2 z => ?_
  match r, z with
  | .error _, z => exact z
  | .ok (.ret _), z => exact z
end
end OwnK
end PySem

/-! Promises joined; a def that makes lambdas, by a promise without words of guards. -/
namespace Own
open PySem PySem.Spec PySem.Calls PyProof.Rows L2
section
variable {P : Program} {w : World} {K : PySem.W.Frag} {mg : Str → Option Value} {base : Heap} {CX : CXT} {k j : Nat} {f : Addr} {sp sp1 sp2 : Sp}
theorem fnR_or (F1 : FnR P w K mg base CX k f sp1) (F2 : FnR P w K mg base CX k f sp2) : FnR P w K mg base CX k f (fun vs H Q E => sp1 vs H Q E ∨ sp2 vs H Q E) := by
  intro A outer s H us vs Q E hr e0 r h
  rcases h with h | h
  · exact F1 A outer s H us vs Q E hr e0 r h
  · exact F2 A outer s H us vs Q E hr e0 r h
/-- what raises nothing keeps any word of errors -/
theorem fnR_calm (F : FnR P w K mg base CX0 j f sp) (h : j ≤ k) : FnR P w K mg base CX k f sp := by
  intro A outer s H us vs Q E hr e0 r hs
  refine codeAny_mono (F A outer s H us vs Q E (hr.mono h) e0 r hs) fun q s' z => ?_
  match q, z with
  | .error _, z => exact False.elim z
  | .ok (.ret _), z => exact z
theorem fnR_lk {x qual : Str} {st : Stmt} {ps N : List Str} {oc kV doc pm cdv ct : Value} {od an : Option Addr} {osl : Array (Option Value)}
    (lk : K.lookup f = some ⟨oc, od, .func (PySem.W.fnOf x qual (defArgs st) (defBody st) (defScope st) .none kV doc pm an cdv ct), osl⟩) (hcd : PySem.W.codeIn K cdv qual = true) (S : FnScope N ps (defScope st))
    (hb : L2.Binds K (PySem.W.fnOf x qual (defArgs st) (defBody st) (defScope st) .none kV doc pm an cdv ct) ps []) (len : ∀ vs H Q E, sp vs H Q E → vs.length = ps.length)
    (body : ∀ (A : Around) (outer : List Env) (s : Shared) (H : Hp) (vs : List V) (Q : VK) (E : XK), Room k (A.deeper (envOfC qual (defScope st) s.heap.objs.size f cdv)) → sp vs H Q E →
      ∃ t, PSs (cxOf CX P w K mg base N qual (defScope st) f cdv A outer s H E) (defBody st) t ∧ t { nx := fun _ H' => Q .non H', rt := Q } (L2.start N vs) H) : FnR P w K mg base CX (k + 1) f sp := by
  intro A outer s H us vs Q E hr e0 r h
  have hl := len _ _ _ _ h
  have b := hb s us (e0.mod.kin.keeps fun b o e => (e0.bs b o e).1) (by rw [List.append_nil, ← r.length]; exact hl)
  rw [List.append_nil] at b
  exact LamX.run_ofS lk hcd S hr e0 b r hl fun hr' => body A outer s H vs Q E hr' h
end
section
variable {X : Cx} {CX : CXT} {k : Nat} {f : Addr} {sp : Sp} {E : XK}
theorem call_R (F : FnR X.prog X.w X.K X.mg X.base CX k f sp) (hr : Room k X.A) (hx : Passes CX X E) : CallR X (.ref f) (fun vs H Q => sp vs H Q E) := by
  intro pins s σ H vs us Q I r h
  refine wpAny_call (codeAny_mono (F X.A X.stack s H us vs Q E hr I.env0 r h) fun q s' z => ?_)
  match q, z with
  | .error e, z => exact hx pins σ H s e s' I z
  | .ok (.ret _), z => exact I.after z
end
end Own

/-! C(x), C(f = x, ..), C() of own errors as values; their fields. -/
namespace Own
open PySem PySem.Spec PySem.Calls PyProof.Rows L2
/-- at a: an error of the class at C with these fields -/
def ErAt (H : Hp) (a C : Addr) (fs : List (Str × V)) : Prop := ∃ d, H a = some (kex a (.ref C) (some d)) ∧ H d = some (.xd fs)
theorem ErAt.mono {H H' : Hp} {a C : Addr} {fs : List (Str × V)} (h : ErAt H a C fs) (s : Same H H') : ErAt H' a C fs := by
  obtain ⟨d, h1, h2⟩ := h
  exact ⟨d, s _ _ h1, s _ _ h2⟩
/-- what follows the making of an error -/
def MkAft (C : Addr) (H1 : Hp) (a : Addr) (Q : VK) : VK := fun v H2 => v = .non ∧ ∃ (d : Addr) (fs : List (Str × V)), H2 a = some (exo a C (some d)) ∧ H2 d = some (exd d fs) ∧ H1 d = none ∧ Q (.ref a) (upd (upd (del H2 a) d (.xd fs)) a (kex a (.ref C) (some d)))
def MkW (C : Addr) (sp : Sp) (H1 : Hp) (vs : List V) (Q : VK) : Prop := ∀ a, H1 a = none → sp (.ref a :: vs) (upd H1 a (exo a C none)) (MkAft C H1 a Q) (fun _ _ _ => False)
section
variable {X : Cx} {C fI : Addr} {k : Nat} {fd : FuncData} {ps : List Str} {sp : Sp}
theorem run_mkV {pins : List (Addr × Obj)} {σ : L2.St} {H1 : Hp} {s1 : Shared} {Q : VK} {us zs : List Value} {kw : List (Str × Value)} {vs : List V} (T : OexC X.K C) (iC : PySem.W.findIn X.K (.ref C) "__init__" = some (some (.ref fI))) (tI : PySem.W.typeIn X.K (.ref fI) = some (.type "function"))
    (F1 : FnOk X.prog X.w X.K X.mg X.base CX0 k fI fd ps sp) (hr : Room (k + 1) X.A) (I1 : Inv X pins σ H1 s1) (r : Vals vs zs) (hl : us.length ≤ sizeLine)
    (hb : ∀ (s' : Shared) (a : Addr), X.K.In s'.heap → zs.length + 1 = ps.length → BindsTo s' fd ⟨.ref a :: us, kw⟩ (ps.zip (.ref a :: zs))) (h : MkW C sp H1 vs Q) :
    wpAny (model X.prog X.w) X.A (call (.ref C) us kw) (EP X pins σ Q) X.xe s1 := by
  obtain ⟨nm, q, N, bs, bm, sn, sub, ab, col, dd, k0, k1, k2, k3, k5, hC, hbm⟩ := T.cls
  obtain ⟨hp, g, dr, tk, os⟩ := s1
  have up1 : hp.objs.size ≤ hp.objs.size + 1 := Nat.le_succ _
  have hn : H1 (hp.objs.size + 1) = none := I1.hok.fresh up1
  have hq := h (hp.objs.size + 1) hn
  have kk : ∀ b o, hp.get? b = some o → ((hp.push (PySem.W.kdv_tup us)).push (PySem.HandSPX.excO C hp.objs.size)).get? b = some o := fun b o e => Heap.get?_push_of_some _ (Heap.get?_push_of_some _ e)
  have new : ((hp.push (PySem.W.kdv_tup us)).push (PySem.HandSPX.excO C hp.objs.size)).get? (hp.objs.size + 1) = some (PySem.HandSPX.excO C hp.objs.size) := by heap_get
  have I2 : Inv X pins σ (upd H1 (hp.objs.size + 1) (exo (hp.objs.size + 1) C none)) ⟨(hp.push (PySem.W.kdv_tup us)).push (PySem.HandSPX.excO C hp.objs.size), g, dr, tk, os⟩ :=
    I1.laid (t' := tk) (a := hp.objs.size + 1) (o := exo (hp.objs.size + 1) C none) (h' := (hp.push (PySem.W.kdv_tup us)).push (PySem.HandSPX.excO C hp.objs.size)) kk up1 (exo_ok new)
  have r2 : Vals (V.ref (hp.objs.size + 1) :: vs) (Value.ref (hp.objs.size + 1) :: zs) := .cons rfl r
  have lz : zs.length + 1 = ps.length := by
    have e := r2.length
    rw [F1.len _ _ _ _ hq] at e
    exact e.symm
  refine wpAny_call (PySem.OwnK.kw_call F.excBase_ValueError (fun Y => PySem.HandSPX.refsVE_contains Y bm hbm) (I1.kIn _ _ hC) hl (PySem.W.looks_findIn I1.kIn iC) (fun x => PySem.W.bind_fn I1.kIn x tI)
    (codeAny_mono (F1.run _ X.stack _ _ ⟨Value.ref (hp.objs.size + 1) :: us, kw⟩ (Value.ref (hp.objs.size + 1) :: zs) _ _ (fun _ _ _ => False) (hr.make C us kw) (I2.env0.make C us kw) (hb _ _ I2.kIn lz) r2 hq) fun r' s' z => ?_))
  match r', z with
  | .error _, z => exact False.elim z
  | .ok (.ret u), z =>
    obtain ⟨v, H2, os2, bare2, un2, hok2, rv, ev, d, fs, ea, ed, hd1, q2⟩ := z
    subst ev
    obtain ⟨h2, g2, d2, t2, os'⟩ := s'
    refine ⟨rv, ?_⟩
    obtain ⟨t0, G, J, kG, ge, hoe, na⟩ := mk_end0 (d2 := d2) (t2 := t2) I1 up1 kk un2 hok2 os2 bare2 ea ed hd1
    exact ⟨.ref (hp.objs.size + 1), _, J.laidN (t' := t2) kG ge na (kex_ok hoe ⟨rfl, rfl⟩ rfl), rfl, q2⟩
/-- C(e, ..) -/
def tMkV (C : Addr) (sp : Sp) (ta : TA) : TE := fun σ H Q => ta σ H fun vs H1 => vs.length ≤ 1000 ∧ MkW C sp H1 vs Q
theorem pe_mkV {x : Str} {e : Expr} {es : List Expr} {ta : TA} {p pos : Pos} (T : OexC X.K C) (iC : PySem.W.findIn X.K (.ref C) "__init__" = some (some (.ref fI))) (tI : PySem.W.typeIn X.K (.ref fI) = some (.type "function"))
    (F1 : FnOk X.prog X.w X.K X.mg X.base CX0 k fI fd ps sp) (hr : Room (k + 1) X.A) (hb : L2.Binds X.K fd ps []) (hg : Gl X x) (hm : X.mg x = some (.ref C)) (ha : PA X (e :: es) ta)
    (hdb : (x == ("__debug__" : Str)) = false := by decide) (he : starEach (e :: es) X.env = (false, eval e X.env) :: starEach es X.env := by rfl) (hpl : (backTo pos (starEach es X.env)).any (·.1) = false := by rfl) :
    PE X (.Call (.Name x p) (e :: es) [] pos) (tMkV C sp ta) := by
  refine ⟨fun pins s σ H Q I h => ?_⟩
  refine wpAny_Call_Name_kw (ld_glob I hg hm ?_ hdb)
  refine PySem.W.callWith_K (h₀ := X.base) I.ok.mod.kin T.kC (thn (ha.run pos pins s σ H _ I h) fun us s1 ⟨vs, H1, I1, r1, hz, q1⟩ => ⟨I1.kIn, ?_⟩) he hpl
  show wpAny _ _ (call (.ref C) us) _ _ _
  refine run_mkV T iC tI F1 hr I1 r1 (by rw [← r1.length, sizeLine_eq]; omega) (fun s' a ki l => ?_) q1
  have z := hb s' (.ref a :: us) ki (by rw [List.append_nil]; exact l)
  rw [List.append_nil] at z
  exact z
/-- C(f = e, ..) -/
def tMkVK (C : Addr) (sp : Sp) (gV : List V → List V) (n : Nat) (ta : TA) : TE := fun σ H Q => ta σ H fun vs H1 => vs.length = n ∧ MkW C sp H1 (gV vs) Q
theorem pe_mkVK {x : Str} {kws : List Keyword} {ks : List Str} {ta : TA} {g : List Value → List Value} {gV : List V → List V} {p pos : Pos} (T : OexC X.K C) (iC : PySem.W.findIn X.K (.ref C) "__init__" = some (some (.ref fI))) (tI : PySem.W.typeIn X.K (.ref fI) = some (.type "function"))
    (F1 : FnOk X.prog X.w X.K X.mg X.base CX0 k fI fd ps sp) (hr : Room (k + 1) X.A) (hb : ∀ (s' : Shared) (a : Addr) (ws : List Value), ws.length = ks.length → BindsTo s' fd ⟨[.ref a], ks.zip ws⟩ (ps.zip (.ref a :: g ws)))
    (hgv : ∀ (vs : List V) (ws : List Value), vs.length = ks.length → Vals vs ws → Vals (gV vs) (g ws)) (hg : Gl X x) (hm : X.mg x = some (.ref C)) (hkw : PK X kws ta)
    (hall : (backToKw pos (keywordEach kws X.env)).all (·.1.isSome) = true := by rfl) (hks : (backToKw pos (keywordEach kws X.env)).filterMap (·.1) = ks := by rfl) (hdb : (x == ("__debug__" : Str)) = false := by decide)
    (hpl : ((backTo pos (starEach [] X.env)).any (·.1) || (backToKw pos (keywordEach kws X.env)).any (·.1.isNone)) = false := by rfl) :
    PE X (.Call (.Name x p) [] kws pos) (tMkVK C sp gV ks.length ta) := by
  refine ⟨fun pins s σ H Q I h => ?_⟩
  refine wpAny_Call_Name_kw (ld_glob I hg hm ?_ hdb)
  refine PySem.W.callWith_KW0 (h₀ := X.base) I.ok.mod.kin T.kC hall (thn (hkw.run pos pins s σ H _ I h) fun ws s2 ⟨zs, H2, I2, rz, l1, q2⟩ => ⟨I2.kIn, ?_⟩) hpl
  rw [hks]
  show wpAny _ _ (call (.ref C) [] (ks.zip ws)) _ _ _
  exact run_mkV T iC tI F1 hr I2 (hgv _ _ l1 rz) (Nat.zero_le _) (fun s' a _ _ => hb s' a ws (rz.length.symm.trans l1)) q2
/-- C(), C without an __init__ of its own -/
theorem pe_mk0 {bmB : List Value} {B newId initId : String} {x : Str} {p pos : Pos} (F : ExcBaseFacts B newId initId bmB) (q : PySem.W.excIn X.K C bmB newId = true) (gC : X.mg x = some (.ref C)) (kC : PySem.W.keepIn X.K (.ref C) = true) (hg : Gl X x) (hdb : (x == ("__debug__" : Str)) = false := by decide) :
    PE X (.Call (.Name x p) [] [] pos) (fun _ H Q => ∀ a, H a = none → Q (.ref a) (upd H a (kex a (.ref C) none))) := by
  refine ⟨fun pins s σ H Q I h => ?_⟩
  refine wpAny_Call_Name_kw (ld_glob I hg gC ?_ hdb)
  refine PySem.W.callWith_K0 I.kIn kC ?_
  show wpAny _ _ (call (.ref C) []) _ _ _
  obtain ⟨bm, N, nm, qn, bs, hdct, sn, sub, ab, col, dd, k0, k1, k2, k3, k5, mN, hC, hN, hni, T⟩ := exc_obj I.kIn q
  refine wpAny_call_exc_subT F T hC hN hni (fun h' a hm => ?_) (Nat.zero_le _)
  have hn : H a = none := I.hok.gone hm.new
  obtain ⟨t, ht, _, _⟩ := hm.there
  exact ⟨.ref a, _, I.laidN hm.keeps hm.new hn (kex_ok ht ⟨rfl, rfl⟩ rfl), rfl, h a hn⟩
/-- e.f, e an error of some class -/
def tKxA (K : PySem.W.Frag) (f : Str) (te : TE) : TE := fun σ H Q => te σ H fun x H1 => ∃ (a D : Addr) (fs : List (Str × V)) (v : V), x = .ref a ∧ XfC K D ∧ PySem.W.findIn K (.ref D) f = some none ∧ ErAt H1 a D fs ∧ fs.lookup f = some v ∧ Q v H1
theorem pe_kxA {e : Expr} {te : TE} {pos : Pos} {n : Str} (he : PE X e te) (hb : attributeBase e n X.env (eval e X.env) = eval e X.env := by rfl) : PE X (.Attribute e n pos) (tKxA X.K n te) := by
  refine ⟨fun pins s σ H Q I h => ?_⟩
  refine attr_of hb (thn (he.run pins s σ H _ I h) fun u s1 hh => ?_)
  obtain ⟨x, H1, I1, rx, a, D, fs, v, ex, T, hno, ⟨dd, ek, ea⟩, l, q⟩ := hh
  subst ex
  obtain rfl : u = Value.ref a := rx
  obtain ⟨oe, vs, ha, hz, hd⟩ := kex_at I1.hok ek
  have hx : ObjOk X.prog X.w H1 s1.heap dd (.xd fs) := I1.hok dd _ ea
  obtain ⟨mA, hns, hr⟩ := hx
  obtain ⟨od, ho, hl⟩ := lookIn_ns hns
  obtain ⟨u, hu, ru⟩ := RelO.some_of (v := v) (o := mA n) (by rw [← l]; exact hr n)
  have J : PySem.W.InstAt s1.heap a oe D (some od) := ⟨ha, hz.1, by unfold PySem.W.notCls; rw [hd] <;> rfl, by rw [hz.2]; exact ho⟩
  exact HandSPX.exc_get I1.kIn J T.ga T.gg T.exC (PySem.W.findObj_own T.hdC hno rfl (by rw [hl, hu])) (handed_of ru) ⟨v, H1, I1.tok _, ru, q⟩
end
/-! ### __init__ of one, two, three fields -/
section
variable {P : Program} {w : World} {K : PySem.W.Frag} {mg : Str → Option Value} {base : Heap} {C fI : Addr} {fd : FuncData} {H1 : Hp} {Q : VK}
theorem mkw1 {f : Str} {v : V} (h : ∀ a H', Same H1 H' → ErAt H' a C [(f, v)] → H1 a = none → Q (.ref a) H') : MkW C (spErr C f) H1 [v] Q := by
  intro a ha
  refine ⟨a, v, rfl, upd_same, fun dx hdx hne => ⟨rfl, dx, _, upd_same, by rw [upd_ne hne, upd_same], ?_, ?_⟩⟩
  · rw [upd_ne hne] at hdx
    exact hdx
  · have hd1 : H1 dx = none := by
      rw [upd_ne hne] at hdx
      exact hdx
    refine h a _ (fun b o hb => ?_) ⟨dx, upd_same, by rw [upd_ne hne, upd_same]⟩ ha
    have n1 := ne_of_none hb ha
    have n2 := ne_of_none hb hd1
    rw [upd_ne n1, upd_ne n2, del_ne n1, upd_ne n1, upd_ne n2, upd_ne n1]
    exact hb
/-- self.f = x; self.g = y -/
def spErr2 (C : Addr) (f g : Str) : Sp := fun vs H Q _ => ∃ (a : Addr) (v u : V), vs = [.ref a, v, u] ∧ H a = some (exo a C none) ∧ ∀ dx, H dx = none → dx ≠ a → Q .non (upd (upd (upd H dx (exd dx [(f, v)])) a (exo a C (some dx))) dx (exd dx [(g, u), (f, v)]))
def spErr3 (C : Addr) (f g h : Str) : Sp := fun vs H Q _ => ∃ (a : Addr) (v u z : V), vs = [.ref a, v, u, z] ∧ H a = some (exo a C none) ∧
  ∀ dx, H dx = none → dx ≠ a → Q .non (upd (upd (upd (upd H dx (exd dx [(f, v)])) a (exo a C (some dx))) dx (exd dx [(g, u), (f, v)])) dx (exd dx [(h, z), (g, u), (f, v)]))
theorem mkw_tail {fs : List (Str × V)} {a dx : Addr} {HZ : Hp} (ha : H1 a = none) (hd : H1 dx = none) (hne : dx ≠ a) (hz : ∀ b, b ≠ a → b ≠ dx → HZ b = H1 b) (h : ∀ a H', Same H1 H' → ErAt H' a C fs → H1 a = none → Q (.ref a) H') :
    Q (.ref a) (upd (upd (del HZ a) dx (.xd fs)) a (kex a (.ref C) (some dx))) := by
  refine h a _ (fun b o hb => ?_) ⟨dx, upd_same, by rw [upd_ne hne, upd_same]⟩ ha
  have n1 := ne_of_none hb ha
  have n2 := ne_of_none hb hd
  rw [upd_ne n1, upd_ne n2, del_ne n1, hz b n1 n2]
  exact hb
theorem mkw2 {f g : Str} {v u : V} (h : ∀ a H', Same H1 H' → ErAt H' a C [(g, u), (f, v)] → H1 a = none → Q (.ref a) H') : MkW C (spErr2 C f g) H1 [v, u] Q := by
  intro a ha
  refine ⟨a, v, u, rfl, upd_same, fun dx hdx hne => ?_⟩
  rw [upd_ne hne] at hdx
  refine ⟨rfl, dx, _, by rw [upd_ne hne.symm, upd_same], upd_same, hdx, mkw_tail ha hdx hne (fun b n1 n2 => ?_) h⟩
  rw [upd_ne n2, upd_ne n1, upd_ne n2, upd_ne n1]
theorem mkw3 {f g i : Str} {v u z : V} (h : ∀ a H', Same H1 H' → ErAt H' a C [(i, z), (g, u), (f, v)] → H1 a = none → Q (.ref a) H') : MkW C (spErr3 C f g i) H1 [v, u, z] Q := by
  intro a ha
  refine ⟨a, v, u, z, rfl, upd_same, fun dx hdx hne => ?_⟩
  rw [upd_ne hne] at hdx
  refine ⟨rfl, dx, _, by rw [upd_ne hne.symm, upd_ne hne.symm, upd_same], upd_same, hdx, mkw_tail ha hdx hne (fun b n1 n2 => ?_) h⟩
  rw [upd_ne n2, upd_ne n2, upd_ne n1, upd_ne n2, upd_ne n1]
end
end Own

/-! bool(x), x of an own class with __bool__. -/
namespace PySem
namespace OwnK
open PySem.W PySem.Calls PyProof.Rows
theorem bool_tree (x : Value) : Builtin.«bool.__new__» ⟨[.type "bool", x], []⟩ = (do
    let t ← isType (.type "bool")
    if !t then
      rule "bool.__new__.no-type"
      raiseError "TypeError" s!"bool.__new__(X): X is not a type object ({← typeNameOf (.type "bool")})"
    if !(← isSubtype (.type "bool") (.type "bool")) then
      rule "bool.__new__.no-subtype"
      raiseError "TypeError" s!"bool.__new__({← typeName (.type "bool")}): {← typeName (.type "bool")} is not a subtype of bool"
    match ← someArgs "bool" 0 1 { pos := [x] } with
    | x :: _ => ret (.bool (← truthy x))
    | [] => ret (.bool false)) := rfl
section
variable {prog : Program} {w : World} {A : Around} {E : Value → Shared → Prop} {K : Frag} {s : Shared} {x C f L : Addr} {ox : Obj} {od : Option Obj} {h0 : Heap}
theorem bool_own {m : Str → Option Value} {Q : Value → Shared → Prop} (Fh : Fr h0 L s.heap m) (X0 : K.In h0) (I : InstAt s.heap x ox C od) (hs : findIn K (.ref C) "__bool__" = some (some (.ref f))) (hf : isFn K (.ref f) = true)
    (h : wpAny (model prog w) A.in1.in1 (call (.ref f) [.ref x]) (PySem.W.BoolBack fun b s' => Q (.bool b) s') E s) : wpAny (model prog w) A (call (.type "bool") [.ref x]) Q E s := by
  refine callType_codes (T := "bool") (Bi := Builtin.«object.__init__») (Q₁ := fun r s1 => ∃ b, r = .bool b ∧ Q r s1) PySem.F.called_bool (PySem.F.typeCall_bool_1 _) PySem.F.entry_object_init ?_ ?_
  · refine codeAny_of_tree ?_
    show wpAny _ A.in1.in1 (do checkBuiltinCall "bool.__new__" ⟨[.type "bool", .ref x], []⟩; again (.builtin "bool.__new__" ⟨[.type "bool", .ref x], []⟩)) _ _ s
    refine wpAny_bind (wpAny_of_eq (PySem.F.newCall_bool_1 _) (wpAny_pure ⟨plainId_quiet (by decide +kernel) _, codeAny_builtin PySem.F.entry_bool_new ?_⟩))
    rw [Around.under_plainId (by decide +kernel) _]
    have g1 := F.conv_sub_bool
    rw [bool_tree]
    refine wpAny_bind (wpAny_pure ?_)
    refine wpAny_bind (wpAny_of_eq g1 ?_)
    refine wpAny_bind (wpAny_of_eq (show someArgs "bool" 0 1 { pos := [Value.ref x] } = pure [Value.ref x] from rfl) ?_)
    refine wpAny_bind (PySem.W.truthy_K (Q := fun b s' => Q (.bool b) s') Fh X0 I hs hf h |> fun z => wpAny_mono z (fun b s' q => ?_) fun _ _ y => y)
    exact wpAny_pure ⟨b, rfl, q⟩
  · rintro obj s1 ⟨b, rfl, hq⟩
    exact ⟨rfl, PySem.F.args_object_init_2 _ _, object_init_meets PySem.F.called_bool.init.lookup PySem.F.called_bool.made (by decide) prog w A.in1 _ s1 ⟨rfl, rfl, hq⟩⟩
end
end OwnK
end PySem
namespace Own
open PySem PySem.Spec PySem.Calls PyProof.Rows L2
section
variable {X : Cx} {CX : CXT} {C g : Addr} {n : Nat} {sp : Sp} {E : XK}
theorem call_boolO (hs : PySem.W.findIn X.K (.ref C) "__bool__" = some (some (.ref g))) (hf : PySem.W.isFn X.K (.ref g) = true) (F : FnR X.prog X.w X.K X.mg X.base CX n g sp) (hr : Room (n + 2) X.A) (hx : Passes CX X E) :
    CallR X (.type "bool") (fun xs H Q => ∃ b dx fs, xs = [.ref b] ∧ H b = some (.ins C dx fs) ∧ sp [.ref b] H (fun z H' => ∃ k, z = .bl k ∧ Q (.bl k) H') E) := by
  intro pins s σ H xs us Q I r h
  obtain ⟨b, dx, fs, rfl, hb, q⟩ := h
  obtain ⟨u, rfl, ru⟩ := vals1 r
  cases (show u = Value.ref b from ru)
  obtain ⟨od, J⟩ := inst_of I hb
  obtain ⟨m, hF⟩ := I.fr
  refine PySem.OwnK.bool_own hF I.ok.mod.kin J hs hf (wpAny_call (codeAny_mono (F X.A.in1.in1 X.stack s H [.ref b] [.ref b] _ E hr.in1.in1 I.env0.in1.in1 (.cons rfl .nil) q) fun t s' z => ?_))
  match t, z with
  | .error e, z => exact hx _ _ _ _ _ _ I z
  | .ok (.ret u), z =>
    obtain ⟨_, H', I', rz, k, rfl, qz⟩ := I.after z
    cases (show u = Value.bool k from rz)
    exact ⟨.bl k, H', I', rfl, qz⟩
end
end Own

namespace Pl
open PySem L2 Own TL
def top (i : Nat) : Stmt := PySem.Challenge.pw_nearestsays_k01_places_made.main.body.getD i (.Pass ⟨0, 0, 0, 0⟩)
abbrev sIsInt : Stmt := top 29
abbrev sIsName : Stmt := top 30
abbrev sPText : Stmt := top 31
abbrev sIsPlace : Stmt := top 32
abbrev sPlace : Stmt := top 33
abbrev sInit : Stmt := inClass sPlace 1
abbrev sRead : Stmt := inClass sPlace 2
abbrev sOf : Stmt := inClass sPlace 3
abbrev sNames : Stmt := inClass sPlace 4
abbrev sText : Stmt := inClass sPlace 5
abbrev sUp : Stmt := inClass sPlace 6
abbrev sAdd : Stmt := inClass sPlace 7
abbrev sHead : Stmt := inClass sPlace 8
abbrev sCont : Stmt := inClass sPlace 9
abbrev sAnd : Stmt := inClass sPlace 10
abbrev sLen : Stmt := inClass sPlace 11
abbrev sBool : Stmt := inClass sPlace 12
abbrev sEq : Stmt := inClass sPlace 15
abbrev sAhead : Stmt := inClass sPlace 16
/-! ### names -/
def okN (s : Str) : Bool := decide (0 < s.length) && decide (s.length ≤ 8) && (tl s).all fun c => decide (c ∈ tl SIGNS)
def isNm : V → Bool
  | .str s => okN s
  | _ => false
/-- what stands of the builtins' names in the module -/
structure BT (mg : Str → Option Value) : Prop where
  isi : mg "isinstance" = none
  int : mg "int" = none
  bool : mg "bool" = none
  str : mg "str" = none
  len : mg "len" = none
  all : mg "all" = none
  zip : mg "zip" = none
  range : mg "range" = none
  enum : mg "enumerate" = none
  list : mg "list" = none
  abs : mg "abs" = none
structure GT (mg : Str → Option Value) : Prop where
  b : BT mg
  longest : ∃ t, mg "LONGEST_NAME" = some (.int 8 t)
/-! ### promises -/
def spIsInt (K : PySem.W.Frag) : Sp := fun vs H Q _ => ∃ x t b1 b2, vs = [x] ∧ TyX K H x t ∧ PySem.W.kitOne K t (.type "int") = some b1 ∧ PySem.W.kitOne K t (.type "bool") = some b2 ∧ Q (.bl (b1 && !b2)) H
def spIsName (K : PySem.W.Frag) : Sp := fun vs H Q _ => ∃ x, vs = [x] ∧ ((∃ s, x = .str s ∧ s.length ≤ sizeLine) ∨ (∃ t, TyX K H x t ∧ PySem.W.kitOne K t (.type "str") = some false ∧ isNm x = false)) ∧
  ∀ H', Same H H' → Q (.bl (isNm x)) H'
section
variable {P : Program} {w : World} {K : PySem.W.Frag} {mg : Str → Option Value} {base : Heap}
theorem scIsInt : FnScope ["value"] ["value"] (defScope sIsInt) := ⟨rfl, rfl, rfl, by decide +kernel, rfl, by decide +kernel, by decide +kernel⟩
theorem ok_isInt {f : Addr} {fd : FuncData} (F : Fun K "is_integer" "is_integer" sIsInt f fd) (T : BT mg) : FnOk P w K mg base CX0 1 f fd ["value"] (spIsInt K) := by
  refine F.ok scIsInt (fun vs H Q E h => ?_) (fun cdv A outer s H vs Q E hr h => ?_)
  · obtain ⟨x, t, b1, b2, rfl, _⟩ := h
    rfl
  · obtain ⟨x, t, b1, b2, rfl, ty, k1, k2, q⟩ := h
    refine ⟨_, pss_one (ps_ret (pe_and (pe_callB call_isi (by rfl) T.isi (by decide +kernel) (pa_cons (pv 0) (pa_cons (pe_bltn (v := .ty "int") (by rfl) T.int (by decide +kernel) rfl) pa_nil)))
      (pe_one (pe_not (pe_callB call_isi (by rfl) T.isi (by decide +kernel) (pa_cons (pv 0) (pa_cons (pe_bltn (v := .ty "bool") (by rfl) T.bool (by decide +kernel) rfl) pa_nil))))))), ?_⟩
    refine ⟨_, rfl, x, _, t, _, b1, rfl, .ty "int", ty, k1, b1, rfl, ?_⟩
    cases b1 with
    | true => exact iteT ⟨_, rfl, x, _, t, _, b2, rfl, .ty "bool", ty, k2, b2, rfl, q⟩
    | false => exact iteF q
theorem scIsName : FnScope ["value"] ["value"] (defScope sIsName) := ⟨rfl, rfl, rfl, by decide +kernel, rfl, by decide +kernel, by decide +kernel⟩
theorem ok_isName {f : Addr} {fd : FuncData} (F : Fun K "is_name" "is_name" sIsName f fd) (T : GT mg) : FnOk P w K mg base CX0 1 f fd ["value"] (spIsName K) := by
  refine F.ok scIsName (fun vs H Q E h => ?_) (fun cdv A outer s H vs Q E hr h => ?_)
  · obtain ⟨x, rfl, _⟩ := h
    rfl
  · obtain ⟨x, rfl, hx, q⟩ := h
    obtain ⟨tl8, h8⟩ := T.longest
    refine ⟨_, pss_cons (ps_if (PW.pt (pw_or (pt_not (pt_val (pe_callB call_isi (by rfl) T.b.isi (by decide +kernel) (pa_cons (pv 0) (pa_cons (pe_bltn (v := .ty "str") (by rfl) T.b.str (by decide +kernel) rfl) pa_nil)))))
        (pw_or1 (pt_not (pt_chain op_lt op_le pe_int (pe_callB call_len_str (by rfl) T.b.len PySem.boot_len (pa_cons (pv 0) pa_nil)) (pe_glob (v := .int 8) (by rfl) h8 ⟨_, rfl⟩))))))
        (pss_one (ps_ret pe_bl)) pss_nil)
      (pss_one (ps_ret (pe_and (pe_bm0 PySem.F.plainAttrs_str PySem.F.slot_str_isascii PySem.F.type_str_isascii mt_isascii (pv 0))
        (pe_and (pe_bm0 PySem.F.plainAttrs_str PySem.F.slot_str_isalnum PySem.F.type_str_isalnum mt_isalnum (pv 0))
        (pe_one (pe_cmpR op_eq (pv 0) (pe_bm0 PySem.F.plainAttrs_str PySem.F.slot_str_lower PySem.F.type_str_lower mt_lower (pv 0)) (nomark _))))))), ?_⟩
    rcases hx with ⟨z, rfl, hz⟩ | ⟨t, ty, kt, nz⟩
    · refine ⟨_, rfl, _, _, _, _, true, rfl, .ty "str", .base (.str z), kit_ty (by decide +kernel), true, rfl, ?_⟩
      refine iteF ?_
      refine ⟨_, rfl, z, rfl, hz, _, _, rfl, rfl, _, rfl, ite2 (fun h0 => ?_) (fun h0 => ?_)⟩
      · refine ⟨_, _, rfl, rfl, _, rfl, ite2 (fun h1 => ?_) (fun h1 => ?_)⟩
        · have e := q H (Same.refl H)
          have e2 : isNm (V.str z) = false := by
            show okN z = false
            unfold okN
            simp only [Bool.not_eq_true', decide_eq_false_iff_not] at h1
            rw [decide_eq_false (p := z.length ≤ 8) (by omega)]
            simp
          rw [e2] at e
          exact e
        · have e := q H (Same.refl H)
          simp only [decide_eq_true_eq] at h0
          simp only [Bool.not_eq_true', decide_eq_false_iff_not, Decidable.not_not] at h1
          have h1' : z.length ≤ 8 := by
            have := of_decide_eq_true (by simpa using h1 : decide ((z.length : Int) ≤ 8) = true)
            omega
          have h0' : 0 < z.length := by omega
          have e2 : isNm (V.str z) = (Txt.isascii z && (Txt.isalnum z && decide (z = Txt.lower z))) := by
            show okN z = _
            unfold okN
            rw [decide_eq_true h0', decide_eq_true h1', Bool.true_and, Bool.true_and, name_look h0']
          rw [e2] at e
          have l6 : z.length ≤ 5592405 := by omega
          refine ⟨_, rfl, rfl, z, rfl, rfl, trivial, _, rfl, ?_⟩
          cases c1 : Txt.isascii z with
          | false =>
            rw [c1] at e
            exact iteF e
          | true =>
            rw [c1] at e
            refine iteT ⟨_, rfl, rfl, z, rfl, rfl, trivial, _, rfl, ?_⟩
            cases c2 : Txt.isalnum z with
            | false =>
              rw [c2] at e
              exact iteF e
            | true =>
              rw [c2] at e
              refine iteT ⟨_, rfl, _, rfl, rfl, z, rfl, rfl, l6, rfl, ?_⟩
              have e3 : decide (V.str z = V.str (Txt.lower z)) = decide (z = Txt.lower z) := decide_eq_decide.mpr ⟨fun h => V.str.inj h, fun h => by rw [← h]⟩
              rw [e3]
              exact e
      · have e := q H (Same.refl H)
        have e2 : isNm (V.str z) = false := by
          show okN z = false
          unfold okN
          simp only [decide_eq_true_eq] at h0
          rw [decide_eq_false (p := 0 < z.length) (by omega)]
          rfl
        rw [e2] at e
        exact ⟨_, rfl, e⟩
    · refine ⟨_, rfl, x, _, t, _, false, rfl, .ty "str", ty, kt, false, rfl, ?_⟩
      refine iteT (iteT ?_)
      have e := q H (Same.refl H)
      rw [nz] at e
      exact e
end
end Pl

namespace Pl
open PySem L2 Own TL
/-! ### places -/
theorem nl1 : ¬ (("x" : Str) = "_names") := by decide +kernel
def pf (t : Addr) : List (Str × V) := putF "_names" (.ref t) []
theorem pf_at (t : Addr) : (pf t).lookup ("_names" : Str) = some (.ref t) := by
  unfold pf
  rw [lookup_putF, if_pos rfl]
theorem pf_no (t : Addr) {m : Str} (h : ¬ m = "_names") : (pf t).lookup m = none := by
  unfold pf
  rw [lookup_putF, if_neg h]
  all_goals rfl
/-- a place with these names stands at p -/
def PlA (C : Addr) (H : Hp) (p : Addr) (ns : List Str) : Prop := ∃ dx t, H p = some (.ins C dx (pf t)) ∧ H t = some (.tup (ns.map V.str))
theorem PlA.mono {C : Addr} {H H' : Hp} {p : Addr} {ns : List Str} (h : PlA C H p ns) (s : Same H H') : PlA C H' p ns := by
  obtain ⟨dx, t, a, b⟩ := h
  exact ⟨dx, t, s _ _ a, s _ _ b⟩
theorem ok_str {s : Str} (h : okN s = true) : PyData.strOk s = true := by
  unfold okN at h
  simp only [Bool.and_eq_true, decide_eq_true_eq, List.all_eq_true] at h
  have a : ∀ c ∈ tl SIGNS, c < 0x110000 := by decide +kernel
  unfold PyData.strOk
  rw [Array.all_eq_true']
  intro c hc
  exact decide_eq_true (a c (h.2 c (by simpa [tl] using hc)))
def Nms (ns : List Str) : Prop := ns.length ≤ 8 ∧ ∀ n ∈ ns, okN n = true
theorem okN_len {s : Str} (h : okN s = true) : 0 < s.length ∧ s.length ≤ 8 := by
  unfold okN at h
  simp only [Bool.and_eq_true, decide_eq_true_eq] at h
  exact h.1
theorem Nms.take {ns : List Str} (h : Nms ns) (k : Nat) : Nms (ns.take k) :=
  ⟨by
    have h1 := h.1
    rw [List.length_take]
    omega, fun n hn => h.2 n (List.mem_of_mem_take hn)⟩
theorem small8 {n : Nat} (h : n ≤ 10) : n ≤ sizeLine := Nat.le_trans h (by decide)
/-- facts of the class -/
structure CT (K : PySem.W.Frag) (mg : Str → Option Value) (C : Addr) (mc : Value) : Prop where
  cl : Cls K C
  nN : NoAttr K C "_names"
  mgC : mg "Place" = some (.ref C)
  rd : ClX.CRead K C mc
  most : ∃ u, ClX.CVal K C mc "MOST" (.int 8) u
  most2 : ∃ u, Con K C "MOST" (.int 8) u
  ha : PySem.W.findIn K (.ref C) "__class__" = some (some (.builtin "object.__class__"))
  hn : PySem.W.specialIn K (.builtin "object.__class__") "__get__" = some (some (.builtin "getset_descriptor.__get__"))
  htk : PySem.W.takesIn K (.builtin "object.__class__") = some true
  hm : PySem.W.mroIn K C (.type "object") = some true
  kS : PySem.W.kitOne K (.type "str") (.ref C) = some false
  kC : PySem.W.kitOne K (.ref C) (.ref C) = some true
  kCs : PySem.W.kitOne K (.ref C) (.type "str") = some false
theorem PlA.ty {K : PySem.W.Frag} {mg : Str → Option Value} {C : Addr} {mc : Value} (T : CT K mg C mc) {H : Hp} {p : Addr} {ns : List Str} (h : PlA C H p ns) : TyX K H (.ref p) (.ref C) := by
  obtain ⟨dx, t, a, b⟩ := h
  exact .base (.ins a T.cl T.ha T.hn T.htk T.hm)
/-! ### __init__ -/
def spInit (C : Addr) : Sp := fun vs H Q _ => ∃ (p dx t : Addr) (ns : List Str), vs = [.ref p, .ref t] ∧ H p = some (.ins C dx []) ∧ H t = some (.tup (ns.map V.str)) ∧ Nms ns ∧
  ∀ H', H' p = some (.ins C dx (pf t)) → (∀ b o, H b = some o → b ≠ p → H' b = some o) → Q .non H'
def spMk (C : Addr) : Sp := fun vs H Q E => ∃ v rest, vs = v :: rest ∧ rest.length ≤ 10 ∧ ∀ p, H p = none → spInit C [v, .ref p] (upd H p (.tup rest)) Q E
theorem make_ok {C : Addr} {H1 : Hp} {Q : VK} {E : XK} {ns : List Str} (hn : Nms ns) (k : ∀ p H', Same H1 H' → PlA C H' p ns → Q (.ref p) H') :
    ∀ x dx, H1 x = none → H1 dx = none → dx ≠ x → spMk C (V.ref x :: ns.map V.str) (upd (upd H1 dx (.own x)) x (.ins C dx [])) (fun v H2 => v = .non ∧ Q (.ref x) H2) E := by
  intro x dx hx hdx hne
  refine ⟨_, _, rfl, by rw [List.length_map]; exact Nat.le_trans hn.1 (by decide), fun t ht => ?_⟩
  have ntx : x ≠ t := fun e => by
    rw [← e, upd_same] at ht
    cases ht
  have ht1 : H1 t = none := by
    rw [upd_ne ntx.symm] at ht
    by_cases e : t = dx
    · rw [e]
      exact hdx
    · rw [upd_ne e] at ht
      exact ht
  refine ⟨x, dx, t, ns, rfl, by rw [upd_ne ntx]; exact upd_same, upd_same, hn, fun H' h1 h2 => ⟨rfl, k x H' (fun b o hb => ?_) ⟨dx, t, h1, h2 t _ upd_same ntx.symm⟩⟩⟩
  have nb1 : b ≠ x := ne_of_none hb hx
  refine h2 b o ?_ nb1
  rw [upd_ne (ne_of_none hb ht1), upd_ne nb1, upd_ne (ne_of_none hb hdx)]
  exact hb
/-- the same at one address, what follows as a word of the heap alone -/
theorem make_at {C : Addr} {H1 : Hp} {R : Hp → Prop} {E : XK} {ns : List Str} (hn : Nms ns) {x dx : Addr} (hx : H1 x = none) (hdx : H1 dx = none) (hne : dx ≠ x) (k : ∀ H', Same H1 H' → PlA C H' x ns → R H') :
    spMk C (V.ref x :: ns.map V.str) (upd (upd H1 dx (.own x)) x (.ins C dx [])) (fun v H2 => v = .non ∧ R H2) E := by
  have z := make_ok (C := C) (H1 := H1) (Q := fun v H' => v = .ref x → R H') (E := E) hn (fun p H' s P e => ?_) x dx hx hdx hne
  · obtain ⟨v, rest, e, hl, h⟩ := z
    refine ⟨v, rest, e, hl, fun p hp => ?_⟩
    obtain ⟨p', dx', t, ns', e1, h1, h2, h3, h4⟩ := h p hp
    exact ⟨p', dx', t, ns', e1, h1, h2, h3, fun H' g1 g2 => ⟨(h4 H' g1 g2).1, (h4 H' g1 g2).2 rfl⟩⟩
  · injection e with e
    subst e
    exact k H' s P
section
variable {P : Program} {w : World} {K : PySem.W.Frag} {mg : Str → Option Value} {base : Heap}
theorem scInit : FnScope ["self", "names", "name"] ["self", "names"] (defScope sInit) := ⟨rfl, rfl, rfl, by decide +kernel, rfl, by decide +kernel, by decide +kernel⟩
theorem ok_init {f C fN : Addr} {mc : Value} {fd fdN : FuncData} (F : Fun K "__init__" "Place.__init__" sInit f fd) (T : GT mg) (U : CT K mg C mc) (FN : Fun K "is_name" "is_name" sIsName fN fdN) (bN : Binds K fdN ["value"] []) (mN : mg "is_name" = some (.ref fN)) :
    FnR P w K mg base CX0 2 f (spMk C) := by
  have GN : FnOk P w K mg base CX0 1 fN fdN ["value"] (spIsName K) := ok_isName FN T
  obtain ⟨oc, od, kV, doc, pm, an, cdv, ct, osl, rfl, lk, hcd⟩ := F.ex
  refine fn_ofV (nmax := 10) (sp := spInit C) lk hcd scInit (by decide) (fun u rest hl => ?_) (fun _ _ _ _ _ _ _ _ _ _ _ _ z => z) (fun A outer s H vs Q E hr h => ?_)
  · match rest, hl with
    | [], _ => rfl
    | [_], _ => rfl
    | [_, _], _ => rfl
    | [_, _, _], _ => rfl
    | [_, _, _, _], _ => rfl
    | [_, _, _, _, _], _ => rfl
    | [_, _, _, _, _, _], _ => rfl
    | [_, _, _, _, _, _, _], _ => rfl
    | [_, _, _, _, _, _, _, _], _ => rfl
    | [_, _, _, _, _, _, _, _, _], _ => rfl
    | [_, _, _, _, _, _, _, _, _, _], _ => rfl
    | _ :: _ :: _ :: _ :: _ :: _ :: _ :: _ :: _ :: _ :: _ :: r, h => exact absurd h (by simp only [List.length_cons]; omega)
  · obtain ⟨p, dx, t, ns, rfl, hp, ht, hn, k⟩ := h
    obtain ⟨um, cm⟩ := U.most2
    have npt : p ≠ t := ne_of hp ht (by intro z; cases z)
    refine ⟨_, PSs.nox (pss_cons (ps_for PassesOwn.never rfl (pi_tup (pv 1)) (pg_name (i := 2) scInit.nd rfl (Or.inl rfl))
        (pss_one (ps_if (pt_not (pt_val (pe_call GN hr (by rfl) mN FN.kp bN .nil pass0 (pa_cons (pv 2) pa_nil)))) (pss_one ps_never) pss_nil)))
      (pss_cons (ps_if (pt_cmpR op_gt (pe_callB call_len_seq (by rfl) T.b.len PySem.boot_len (pa_cons (pv 1) pa_nil)) (pe_con (pv 0) rfl) (nomark _)) (pss_one ps_never) pss_nil)
      (pss_one (ps_fld (pv 0) (pv 1) rfl)))), ?_⟩
    refine ⟨_, rfl, t, rfl, ⟨_, SqT.of ht⟩, for_it walk_tup (fun i σ H' => Same H H' ∧ ∃ v, σ = [some (.ref p), some (.ref t), v]) ⟨Same.refl H, none, rfl⟩ (fun i σ H' _ e => SqT.of (e.1 _ _ ht)) (fun i x σ H1 H2 hi e y => ?_) (fun σ H1 e => ?_)⟩
    · obtain ⟨s1, v, rfl⟩ := e
      obtain ⟨rfl, hx⟩ := y
      rw [List.getElem?_map] at hx
      obtain ⟨n, hn1, rfl⟩ := Option.map_eq_some_iff.mp hx
      have on := hn.2 n (List.mem_of_getElem? hn1)
      refine ⟨_, rfl, _, rfl, .inl ⟨n, rfl, Nat.le_trans (okN_len on).2 (by decide)⟩, fun H' s2 => ⟨_, rfl, ?_⟩⟩
      rw [show isNm (V.str n) = true from on]
      exact ⟨s1.trans s2, _, rfl⟩
    · obtain ⟨s1, v, rfl⟩ := e
      refine ⟨_, rfl, t, _, rfl, .inr (SqT.of (s1 _ _ ht)), _, rfl, p, C, dx, [], .int 8, um, rfl, s1 _ _ hp, U.cl, cm, rfl, _, _, rfl, rfl, _, rfl, ?_⟩
      refine ite2 (fun h => ?_) (fun _ => ?_)
      · rw [decide_eq_true_eq, List.length_map] at h
        have := hn.1
        exact absurd h (by omega)
      · refine ⟨_, rfl, _, rfl, p, C, dx, [], rfl, s1 _ _ hp, U.cl, U.nN, (by show 0 < 1000; decide), ?_⟩
        exact k _ upd_same fun b o hb hne => by
          rw [upd_ne hne]
          exact s1 _ _ hb
end
end Pl

namespace Pl
open PySem L2 Own TL
/-! ### what the methods are, and their promises -/
def spNames (C : Addr) : Sp := fun vs H Q _ => ∃ p dx t, vs = [.ref p] ∧ H p = some (.ins C dx (pf t)) ∧ Q (.ref t) H
def spLen (C : Addr) : Sp := fun vs H Q _ => ∃ p ns, vs = [.ref p] ∧ PlA C H p ns ∧ Q (.int (ns.length : Nat)) H
def spBool (C : Addr) : Sp := fun vs H Q _ => ∃ p ns, vs = [.ref p] ∧ PlA C H p ns ∧ Q (.bl (!ns.isEmpty)) H
def spEq (C : Addr) : Sp := fun vs H Q _ => ∃ p q ns ms, vs = [.ref p, .ref q] ∧ PlA C H p ns ∧ PlA C H q ms ∧ Nms ns ∧ Nms ms ∧ Q (.bl (decide (ns = ms))) H
def spAhead (C : Addr) : Sp := fun vs H Q _ => ∃ p q ns ms, vs = [.ref p, .ref q] ∧ PlA C H p ns ∧ PlA C H q ms ∧ Q (.bl (lexS ns ms)) H
def spHead (C : Addr) : Sp := fun vs H Q _ => ∃ p ns k, vs = [.ref p, .int k] ∧ PlA C H p ns ∧ Nms ns ∧ 0 ≤ k ∧ k ≤ (ns.length : Nat) ∧ ∀ q H', Same H H' → PlA C H' q (ns.take k.toNat) → Q (.ref q) H'
def spUp (C : Addr) : Sp := fun vs H Q _ => ∃ p ns, vs = [.ref p] ∧ PlA C H p ns ∧ Nms ns ∧ (ns = [] → Q .non H) ∧ (ns ≠ [] → ∀ q H', Same H H' → PlA C H' q ns.dropLast → Q (.ref q) H')
def spAdd (C : Addr) : Sp := fun vs H Q _ => ∃ p ns s, vs = [.ref p, .str s] ∧ PlA C H p ns ∧ Nms (ns ++ [s]) ∧ ∀ q H', Same H H' → PlA C H' q (ns ++ [s]) → Q (.ref q) H'
/-- the call of a def as a positional promise -/
theorem fnR_of {P : Program} {w : World} {K : PySem.W.Frag} {mg : Str → Option Value} {base : Heap} {k : Nat} {f : Addr} {fd : FuncData} {ps : List Str} {sp : Sp} (F : FnOk P w K mg base CX0 k f fd ps sp) (hb : Binds K fd ps []) :
    FnR P w K mg base CX0 k f sp := by
  intro A outer s H us vs Q E hr e0 r h
  have hl := F.len _ _ _ _ h
  have z := hb s us (e0.mod.kin.keeps fun b o e => (e0.bs b o e).1) (by rw [List.append_nil, ← r.length]; exact hl)
  rw [List.append_nil] at z
  exact F.run A outer s H _ us vs Q E hr e0 z r h
theorem cut_to {xs : List V} {k : Int} (h0 : 0 ≤ k) (h1 : k ≤ (xs.length : Nat)) : cutV xs none (some k) = xs.take k.toNat := by
  obtain ⟨n, rfl⟩ : ∃ n : Nat, k = (n : Int) := ⟨k.toNat, by omega⟩
  unfold cutV
  rw [HT.sIx_none, HT.sIx_nat, List.drop_zero, Nat.sub_zero, Nat.min_eq_left (by omega)]
  rfl
section
variable {P : Program} {w : World} {K : PySem.W.Frag} {mg : Str → Option Value} {base : Heap} {f C : Addr} {mc : Value} {fd : FuncData}
theorem scNames : FnScope ["self"] ["self"] (defScope sNames) := ⟨rfl, rfl, rfl, by decide +kernel, rfl, by decide +kernel, by decide +kernel⟩
theorem ok_names (F : Fun K "names" "Place.names" sNames f fd) (U : CT K mg C mc) : FnOk P w K mg base CX0 1 f fd ["self"] (spNames C) := by
  refine F.ok scNames (fun vs H Q E h => ?_) (fun cdv A outer s H vs Q E hr h => ?_)
  · obtain ⟨p, dx, t, rfl, _⟩ := h
    rfl
  · obtain ⟨p, dx, t, rfl, hp, q⟩ := h
    exact ⟨_, pss_one (ps_ret (pe_fld (pv 0) rfl)), _, rfl, p, C, dx, _, _, rfl, hp, U.cl, U.nN, pf_at _, q⟩
theorem scLen : FnScope ["self"] ["self"] (defScope sLen) := ⟨rfl, rfl, rfl, by decide +kernel, rfl, by decide +kernel, by decide +kernel⟩
theorem ok_len (F : Fun K "__len__" "Place.__len__" sLen f fd) (T : BT mg) (U : CT K mg C mc) : FnOk P w K mg base CX0 1 f fd ["self"] (spLen C) := by
  refine F.ok scLen (fun vs H Q E h => ?_) (fun cdv A outer s H vs Q E hr h => ?_)
  · obtain ⟨p, ns, rfl, _⟩ := h
    rfl
  · obtain ⟨p, ns, rfl, ⟨dx, t, hp, ht⟩, q⟩ := h
    refine ⟨_, pss_one (ps_ret (pe_callB call_len_seq (by rfl) T.len PySem.boot_len (pa_cons (pe_fld (pv 0) rfl) pa_nil))), _, rfl, p, C, dx, _, _, rfl, hp, U.cl, U.nN, pf_at _, t, _, rfl, .inr (SqT.of ht), ?_⟩
    rw [List.length_map]
    exact q
theorem scBool : FnScope ["self"] ["self"] (defScope sBool) := ⟨rfl, rfl, rfl, by decide +kernel, rfl, by decide +kernel, by decide +kernel⟩
theorem ok_bool (F : Fun K "__bool__" "Place.__bool__" sBool f fd) (T : BT mg) (U : CT K mg C mc) : FnOk P w K mg base CX0 1 f fd ["self"] (spBool C) := by
  refine F.ok scBool (fun vs H Q E h => ?_) (fun cdv A outer s H vs Q E hr h => ?_)
  · obtain ⟨p, ns, rfl, _⟩ := h
    rfl
  · obtain ⟨p, ns, rfl, ⟨dx, t, hp, ht⟩, q⟩ := h
    refine ⟨_, pss_one (ps_ret (pe_callTy call_boolT (by rfl) T.bool (by decide +kernel) (pa_cons (pe_fld (pv 0) rfl) pa_nil))), _, rfl, p, C, dx, _, _, rfl, hp, U.cl, U.nN, pf_at _, t, _, rfl, SqT.of ht, ?_⟩
    have e : (!(ns.map V.str).isEmpty) = !ns.isEmpty := by cases ns <;> rfl
    rw [e]
    exact q
theorem scEq : FnScope ["self", "other"] ["self", "other"] (defScope sEq) := ⟨rfl, rfl, rfl, by decide +kernel, rfl, by decide +kernel, by decide +kernel⟩
theorem ok_eq (F : Fun K "__eq__" "Place.__eq__" sEq f fd) (T : BT mg) (U : CT K mg C mc) : FnOk P w K mg base CX0 1 f fd ["self", "other"] (spEq C) := by
  refine F.ok scEq (fun vs H Q E h => ?_) (fun cdv A outer s H vs Q E hr h => ?_)
  · obtain ⟨p, q, ns, ms, rfl, _⟩ := h
    rfl
  · obtain ⟨p, q, ns, ms, rfl, P1, P2, N1, N2, k⟩ := h
    have ty := PlA.ty U P2
    obtain ⟨dx, t, hp, ht⟩ := P1
    obtain ⟨dy, u, hq, hu⟩ := P2
    refine ⟨_, pss_one (ps_ret (pe_and (pe_callB call_isi (by rfl) T.isi (by decide +kernel) (pa_cons (pv 1) (pa_cons (pe_glob (v := .ref C) (by rfl) U.mgC rfl) pa_nil)))
      (pe_one (pe_cmpR (op_eqD hr.units) (pe_fld (pv 0) rfl) (pe_fld (pv 1) rfl) (nomark _))))), ?_⟩
    refine ⟨_, rfl, _, _, _, _, true, rfl, .own C, ty, U.kC, true, rfl, ?_⟩
    refine iteT ⟨_, rfl, p, C, dx, _, _, rfl, hp, U.cl, U.nN, pf_at _, _, rfl, q, C, dy, _, _, rfl, hq, U.cl, U.nN, pf_at _, _, _, .tup (SqT.of ht) (dp_strs _), .tup (SqT.of hu) (dp_strs _),
      shaped_strs _ fun n hn => ok_str (N1.2 n hn), shaped_strs _ fun n hn => ok_str (N2.2 n hn), ?_⟩
    rw [eqv_strs]
    exact k
theorem scHead : FnScope ["self", "k", "names"] ["self", "k"] (defScope sHead) := ⟨rfl, rfl, rfl, by decide +kernel, rfl, by decide +kernel, by decide +kernel⟩
theorem ok_head {fI fP : Addr} {fdI : FuncData} (F : Fun K "head" "Place.head" sHead f fd) (T : BT mg) (U : CT K mg C mc) (FI : Fun K "is_integer" "is_integer" sIsInt fI fdI) (bI : Binds K fdI ["value"] []) (mI : mg "is_integer" = some (.ref fI))
    (M : Mk K C fP) (GM : FnR P w K mg base CX0 2 fP (spMk C)) : FnOk P w K mg base CX0 4 f fd ["self", "k"] (spHead C) := by
  have GI : FnOk P w K mg base CX0 1 fI fdI ["value"] (spIsInt K) := ok_isInt FI T
  refine F.ok scHead (fun vs H Q E h => ?_) (fun cdv A outer s H vs Q E hr h => ?_)
  · obtain ⟨p, ns, k, rfl, _⟩ := h
    rfl
  · obtain ⟨p, ns, k, rfl, ⟨dx, t, hp, ht⟩, hn, k0, k1, q⟩ := h
    refine ⟨_, pss_cons (ps_if (PW.pt (pw_or (pt_not (pt_val (pe_call GI (hr.mono (by decide)) (by rfl) mI FI.kp bI .nil pass0 (pa_cons (pv 1) pa_nil))))
        (pw_or1 (pt_not (pt_chain op_le op_le pe_int (pv 1) (pe_callB call_len_seq (by rfl) T.len PySem.boot_len (pa_cons (pe_fld (pv 0) rfl) pa_nil))))))) (pss_one ps_never) pss_nil)
      (pss_cons (ps_set (i := 2) scHead.nd rfl (Or.inl rfl) (pe_slice sl_tupA (pe_fld (pv 0) rfl) po_none (po_some (pv 1))))
      (pss_one (ps_ret (pe_makeS M GM hr (by rfl) U.mgC pass0 (pv 2))))), ?_⟩
    refine ⟨_, rfl, _, _, true, false, rfl, .base (.int k), kit_ty (by decide +kernel), kit_ty (by decide +kernel), _, rfl, ?_⟩
    refine iteF ⟨_, rfl, _, _, rfl, rfl, _, rfl, ?_⟩
    rw [decide_eq_true k0]
    refine iteT ⟨_, rfl, p, C, dx, _, _, rfl, hp, U.cl, U.nN, pf_at _, t, _, rfl, .inr (SqT.of ht), _, _, rfl, rfl, _, rfl, ?_⟩
    rw [List.length_map, decide_eq_true k1]
    refine iteF ⟨_, rfl, p, C, dx, _, _, rfl, hp, U.cl, U.nN, pf_at _, ?_⟩
    refine ⟨_, rfl, k, rfl, t, _, rfl, SqT.of ht, fun hw => ?_, fun hw p2 hp2 => ?_⟩
    · have ek : ns.take k.toNat = ns := by
        have h2 := hw.2
        obtain ⟨n, rfl⟩ : ∃ n : Nat, k = (n : Int) := ⟨k.toNat, by omega⟩
        rw [HT.sIx_nat, List.length_map] at h2
        exact List.take_of_length_le (by omega)
      refine ⟨_, rfl, t, _, rfl, .inl (SqT.of ht), make_ok hn fun r H' s1 P1 => q r H' s1 ?_⟩
      rw [ek]
      exact P1
    · have ec : cutV (ns.map V.str) none (some k) = (ns.take k.toNat).map V.str := by
        rw [cut_to k0 (by rw [List.length_map]; exact k1), List.map_take]
      refine ⟨_, rfl, p2, (ns.take k.toNat).map V.str, rfl, .inl (SqT.of (by rw [upd_same, ec])), make_ok (hn.take _) fun r H' s1 P1 => q r H' (fun b o hb => s1 b o ?_) P1⟩
      rw [upd_ne (ne_of_none hb hp2)]
      exact hb
theorem scUp : FnScope ["self"] ["self"] (defScope sUp) := ⟨rfl, rfl, rfl, by decide +kernel, rfl, by decide +kernel, by decide +kernel⟩
theorem ok_up {fH : Addr} {fdH : FuncData} (F : Fun K "up" "Place.up" sUp f fd) (T : BT mg) (U : CT K mg C mc) (GH : FnOk P w K mg base CX0 4 fH fdH ["self", "k"] (spHead C)) (bH : Binds K fdH ["self", "k"] []) (mH : Meth K C "head" fH) :
    FnOk P w K mg base CX0 5 f fd ["self"] (spUp C) := by
  refine F.ok scUp (fun vs H Q E h => ?_) (fun cdv A outer s H vs Q E hr h => ?_)
  · obtain ⟨p, ns, rfl, _⟩ := h
    rfl
  · obtain ⟨p, ns, rfl, Pp, hn, q0, q1⟩ := h
    obtain ⟨dx, t, hp, ht⟩ := id Pp
    refine ⟨_, pss_cons (ps_if (pt_not (pt_truth (pe_fld (pv 0) rfl) (by intro _; rfl))) (pss_one (ps_ret pe_non)) pss_nil)
      (pss_one (ps_ret (pe_meth (pv 0) U.cl mH GH hr bH .nil pass0 (pa_cons (pe_op op_sub (pe_callB call_len_seq (by rfl) T.len PySem.boot_len (pa_cons (pe_fld (pv 0) rfl) pa_nil)) pe_int) pa_nil)))), ?_⟩
    refine ⟨_, rfl, p, C, dx, _, _, rfl, hp, U.cl, U.nN, pf_at _, _, .inr (.inl ⟨_, SqT.of ht, rfl⟩), ?_⟩
    cases ns with
    | nil => exact q0 rfl
    | cons n ns =>
      refine ⟨_, rfl, p, dx, _, rfl, hp, pf_no _ (by decide +kernel), _, rfl, p, C, dx, _, _, rfl, hp, U.cl, U.nN, pf_at _, t, _, rfl, .inr (SqT.of ht), _, _, rfl, rfl, ?_⟩
      refine ⟨p, n :: ns, _, rfl, Pp, hn, ?_, ?_, fun r H' s1 P1 => q1 (by simp) r H' s1 ?_⟩
      · simp
      · simp
        omega
      · have e : (((List.map V.str (n :: ns)).length : Nat) - 1 : Int).toNat = ns.length := by simp
        rw [e] at P1
        rw [List.dropLast_eq_take]
        exact P1
theorem scAdd : FnScope ["self", "other"] ["self", "other"] (defScope sAdd) := ⟨rfl, rfl, rfl, by decide +kernel, rfl, by decide +kernel, by decide +kernel⟩
theorem ok_add {fP : Addr} (F : Fun K "__add__" "Place.__add__" sAdd f fd) (U : CT K mg C mc) (M : Mk K C fP) (GM : FnR P w K mg base CX0 2 fP (spMk C)) : FnOk P w K mg base CX0 4 f fd ["self", "other"] (spAdd C) := by
  refine F.ok scAdd (fun vs H Q E h => ?_) (fun cdv A outer s H vs Q E hr h => ?_)
  · obtain ⟨p, ns, x, rfl, _⟩ := h
    rfl
  · obtain ⟨p, ns, x, rfl, ⟨dx, t, hp, ht⟩, hn, q⟩ := h
    refine ⟨_, pss_one (ps_ret (pe_makeS1 M GM hr (by rfl) U.mgC pass0 (StX.pa_star (pe_fld (pv 0) rfl) (pa_cons (pv 1) pa_nil)))), ?_⟩
    refine ⟨_, rfl, p, C, dx, _, _, rfl, hp, U.cl, U.nN, pf_at _, t, _, rfl, .inl (SqT.of ht), _, rfl, ?_⟩
    have e : ns.map V.str ++ [V.str x] = (ns ++ [x]).map V.str := by rw [List.map_append]; rfl
    have z := make_ok (C := C) (H1 := H) (Q := Q) (E := E0) hn fun r H' s1 P1 => q r H' s1 P1
    rw [← e] at z
    exact z
end
end Pl

namespace Pl
open PySem L2 Own TL
/-! ### texts of places -/
def txt (ns : List Str) : Str := ("/" : Str) ++ Txt.join ("/" : Str) ns
theorem tl_slash : tl ("/" : Str) = [47] := by decide +kernel
theorem slash_small : ("/" : Str).cps.all (· < 256) = true := by decide +kernel
theorem no47 {s : Str} (h : okN s = true) : 47 ∉ tl s := by
  unfold okN at h
  simp only [Bool.and_eq_true, decide_eq_true_eq, List.all_eq_true] at h
  intro hm
  have a : 47 ∉ tl SIGNS := by decide +kernel
  exact a (h.2 47 hm)
theorem tl_txt (ns : List Str) : tl (txt ns) = 47 :: joinL [47] (ns.map tl) := by
  unfold txt
  rw [tl_append, join_eq, tl_join, tl_slash]
  rfl
theorem txt_starts (ns : List Str) : Txt.startswith (txt ns) ("/" : Str) = true := by
  unfold Txt.startswith
  have h := tl_txt ns
  have l1 : ("/" : Str).length = 1 := by decide +kernel
  have l2 : 1 ≤ (txt ns).length := by rw [len_tl, h]; simp
  rw [StrLaws.subAt_eq, l1]
  simp only [Bool.and_eq_true, decide_eq_true_eq, beq_iff_eq]
  refine ⟨by omega, ?_⟩
  show ((tl (txt ns)).drop 0).take 1 = tl ("/" : Str)
  rw [h, tl_slash]
  rfl
def cut1 (s : Str) : Str := cutS s (some 1) none
theorem tl_cut1 (s : Str) : tl (cut1 s) = (tl s).drop 1 := by
  unfold cut1 cutS
  show List.take (HT.sIx s.length s.length none - HT.sIx s.length 0 (some ((1 : Nat) : Int))) (List.drop (HT.sIx s.length 0 (some ((1 : Nat) : Int))) (tl s)) = _
  rw [HT.sIx_none, HT.sIx_nat]
  have e : s.length = (tl s).length := len_tl s
  rcases Nat.eq_zero_or_pos s.length with z | z
  · have : tl s = [] := List.length_eq_zero_iff.mp (by omega)
    rw [this]
    simp
  · rw [Nat.min_eq_left (by omega)]
    refine List.take_of_length_le ?_
    rw [List.length_drop]
    omega
theorem cut_txt (ns : List Str) : cut1 (txt ns) = Txt.join ("/" : Str) ns := by
  refine ext_tl ?_
  rw [tl_cut1, tl_txt, join_eq, tl_join, tl_slash]
  rfl
theorem join_cons (ns : List Str) (h : ns ≠ []) : txt ns = Txt.join ("/" : Str) (("" : Str) :: ns) := by
  refine ext_tl ?_
  rw [tl_txt, join_eq, tl_join, tl_slash]
  cases ns with
  | nil => exact absurd rfl h
  | cons n r => rfl
theorem split_names {ns : List Str} (hn : Nms ns) (h : ns ≠ []) : Txt.split (Txt.join ("/" : Str) ns) ("/" : Str) = ns :=
  split_join tl_slash slash_small h fun p hp => no47 (hn.2 p hp)
theorem split_txt {ns : List Str} (hn : Nms ns) (h : ns ≠ []) : Txt.split (txt ns) ("/" : Str) = ("" : Str) :: ns := by
  rw [join_cons ns h]
  refine split_join tl_slash slash_small (by simp) fun p hp => ?_
  rcases List.mem_cons.mp hp with rfl | hp
  · decide +kernel
  · exact no47 (hn.2 p hp)
theorem txt_nil : txt [] = ("/" : Str) := by
  refine ext_tl ?_
  rw [tl_txt, tl_slash]
  rfl
theorem split_root : Txt.split ("/" : Str) ("/" : Str) = [("" : Str), ("" : Str)] := by
  have e : ("/" : Str) = Txt.join ("/" : Str) [("" : Str), ("" : Str)] := by
    refine ext_tl ?_
    rw [join_eq, tl_join, tl_slash]
    rfl
  have z := split_join (y := ("/" : Str)) tl_slash slash_small (parts := [("" : Str), ("" : Str)]) (by simp) (fun p hp => by
    have e2 : p = ("" : Str) := by simpa using hp
    rw [e2]
    decide +kernel)
  rw [← e] at z
  exact z
theorem txt_ne {ns : List Str} (h : ns ≠ []) (hn : Nms ns) : txt ns ≠ ("/" : Str) := by
  intro e
  have h1 := tl_txt ns
  rw [e, tl_slash] at h1
  cases ns with
  | nil => exact h rfl
  | cons n r =>
    have h2 : joinL [47] ((n :: r).map tl) = [] := by
      injection h1 with _ q
      exact q.symm
    have h3 : tl n ≠ [] := fun q => by
      have := (okN_len (hn.2 n List.mem_cons_self)).1
      rw [len_tl, q] at this
      simp at this
    cases r with
    | nil => exact h3 h2
    | cons m r =>
      have h4 : tl n ++ ([47] ++ joinL [47] ((m :: r).map tl)) = [] := h2
      exact h3 (List.append_eq_nil_iff.mp h4).1
def prt (s : Str) : List Str := Txt.split (cut1 s) ("/" : Str)
def isPT (s : Str) : Bool := Txt.startswith s ("/" : Str) && (decide (s = ("/" : Str)) || (decide ((prt s).length ≤ 8) && (prt s).all okN))
theorem isPT_txt {ns : List Str} (hn : Nms ns) : isPT (txt ns) = true := by
  unfold isPT
  rw [txt_starts, Bool.true_and]
  by_cases h : ns = []
  · subst h
    rw [txt_nil, decide_eq_true rfl]
    rfl
  · have e : prt (txt ns) = ns := by
      unfold prt
      rw [cut_txt, split_names hn h]
    rw [e, decide_eq_true hn.1]
    have : ns.all okN = true := List.all_eq_true.mpr fun n hm => hn.2 n hm
    rw [this]
    simp
/-- the names that read keeps -/
theorem kept_txt {ns : List Str} (hn : Nms ns) : (Txt.split (txt ns) ("/" : Str)).filter (fun n => (n.length : Int) != 0) = ns := by
  by_cases h : ns = []
  · subst h
    rw [txt_nil, split_root]
    decide +kernel
  · rw [split_txt hn h]
    rw [List.filter_cons_of_neg (by decide +kernel)]
    refine List.filter_eq_self.mpr fun n hm => ?_
    have := (okN_len (hn.2 n hm)).1
    simp
    omega
theorem sum_len : ∀ ns : List Str, (∀ n ∈ ns, okN n = true) → (ns.map (·.length)).sum ≤ 8 * ns.length
  | [], _ => by simp
  | n :: r, h => by
    have a := sum_len r fun m hm => h m (List.mem_cons_of_mem _ hm)
    have b := (okN_len (h n List.mem_cons_self)).2
    simp only [List.map_cons, List.sum_cons, List.length_cons]
    omega
theorem join_room {ns : List Str} (hn : Nms ns) : (ns.map (·.length)).sum + ns.length * ("/" : Str).length ≤ 16777216 := by
  have a := sum_len ns hn.2
  have l1 : ("/" : Str).length = 1 := by decide +kernel
  have := hn.1
  rw [l1]
  omega
theorem len_joinL : ∀ ps : List (List Nat), (joinL [47] ps).length ≤ (ps.map List.length).sum + ps.length
  | [] => by simp [joinL]
  | [p] => by simp [joinL]
  | p :: q :: r => by
    have := len_joinL (q :: r)
    simp only [joinL, List.length_append, List.map_cons, List.sum_cons, List.length_cons, List.length_nil] at *
    omega
theorem txt_len {ns : List Str} (hn : Nms ns) : (txt ns).length ≤ 100 := by
  rw [len_tl, tl_txt, List.length_cons]
  have a := len_joinL (ns.map tl)
  have b := sum_len ns hn.2
  have e : (List.map List.length (List.map tl ns)) = ns.map (·.length) := by
    rw [List.map_map]
    refine List.map_congr_left fun n _ => ?_
    show (tl n).length = n.length
    rw [len_tl]
  rw [e, List.length_map] at a
  have := hn.1
  omega
theorem join_len {ns : List Str} (hn : Nms ns) : (Txt.join ("/" : Str) ns).length ≤ 100 := by
  have h := txt_len hn
  have e : (txt ns).length = ("/" : Str).length + (Txt.join ("/" : Str) ns).length := by
    unfold txt
    rw [len_tl, len_tl, len_tl, tl_append, List.length_append]
  omega
end Pl

namespace Pl
open PySem L2 Own TL
def isPTv : V → Bool
  | .str s => isPT s
  | _ => false
def spPText (K : PySem.W.Frag) : Sp := fun vs H Q _ => ∃ x, vs = [x] ∧ ((∃ s, x = .str s ∧ s.length ≤ 1000000) ∨ (∃ t, TyX K H x t ∧ PySem.W.kitOne K t (.type "str") = some false ∧ isPTv x = false)) ∧
  ∀ H', Same H H' → Q (.bl (isPTv x)) H'
def spText (C : Addr) : Sp := fun vs H Q _ => ∃ p ns, vs = [.ref p] ∧ PlA C H p ns ∧ Nms ns ∧ Q (.str (txt ns)) H
def spRead (C : Addr) : Sp := fun vs H Q _ => ∃ ns, vs = [.ref C, .str (txt ns)] ∧ Nms ns ∧ ∀ q H', Same H H' → PlA C H' q ns → Q (.ref q) H'
def spOf (C : Addr) : Sp := fun vs H Q _ => ∃ p ns, vs = [.ref p] ∧ PlA C H p ns ∧ Q (.ref p) H
def spIsPlace (C : Addr) : Sp := fun vs H Q _ => ∃ p ns, vs = [.ref p] ∧ PlA C H p ns ∧ Q (.bl true) H
def spCont (C : Addr) : Sp := fun vs H Q _ => ∃ p q ns ms, vs = [.ref p, .ref q] ∧ PlA C H p ns ∧ PlA C H q ms ∧ Nms ns ∧ Nms ms ∧ ∀ H', Same H H' → Q (.bl (decide (ms.take ns.length = ns))) H'
theorem spl_le (S : List Nat) : ∀ (l : List Nat) (k : Nat) (acc p : List Nat), p ∈ spl S k acc l → p.length ≤ acc.length + l.length
  | [], k, acc, p, h => by
    rw [spl_nil] at h
    rw [List.mem_singleton.mp h]
    simp
  | c :: r, 0, acc, p, h => by
    cases e : pre S (c :: r) with
    | true =>
      rw [spl_hit e] at h
      rcases List.mem_cons.mp h with q | q
      · rw [q]
        simp
      · have := spl_le S r _ _ p q
        simp only [List.length_nil, List.length_cons] at *
        omega
    | false =>
      rw [spl_miss e] at h
      have := spl_le S r _ _ p h
      simp only [List.length_append, List.length_cons, List.length_nil] at *
      omega
  | c :: r, k + 1, acc, p, h => by
    rw [spl_pass] at h
    have : p ∈ spl S k acc r := by
      rw [spl_pass]
      exact h
    have := spl_le S r _ _ p this
    simp only [List.length_cons]
    omega
theorem split_le {x : Str} {p : Str} (h : p ∈ Txt.split x ("/" : Str)) : p.length ≤ x.length := by
  have e := split_spl x ("/" : Str) (by rw [tl_slash]; simp) (kind_ok slash_small)
  have h2 : tl p ∈ spl [47] 0 [] (tl x) := by
    rw [← tl_slash, ← e]
    exact List.mem_map_of_mem h
  have := spl_le _ _ _ _ _ h2
  rw [len_tl, len_tl]
  simpa using this
theorem spl_count (S : List Nat) : ∀ (l : List Nat) (k : Nat) (acc : List Nat), (spl S k acc l).length ≤ l.length + 1
  | [], k, acc => by
    rw [spl_nil]
    simp
  | c :: r, 0, acc => by
    cases e : pre S (c :: r) with
    | true =>
      rw [spl_hit e]
      have := spl_count S r (S.length - 1) []
      simp only [List.length_cons]
      omega
    | false =>
      rw [spl_miss e]
      have := spl_count S r 0 (acc ++ [c])
      simp only [List.length_cons]
      omega
  | c :: r, k + 1, acc => by
    have h : spl S (k + 1) acc (c :: r) = spl S k acc r := by rw [spl_pass, spl_pass S k]; rfl
    rw [h]
    have := spl_count S r k acc
    simp only [List.length_cons]
    omega
theorem split_count (x : Str) : (Txt.split x ("/" : Str)).length ≤ x.length + 1 := by
  have e := split_spl x ("/" : Str) (by rw [tl_slash]; simp) (kind_ok slash_small)
  have h := congrArg List.length e
  rw [List.length_map] at h
  rw [h, len_tl]
  exact spl_count _ _ _ _
theorem cut1_le (s : Str) : (cut1 s).length ≤ s.length := cutS_length s _ _
section
variable {P : Program} {w : World} {K : PySem.W.Frag} {mg : Str → Option Value} {base : Heap} {f C : Addr} {mc : Value} {fd : FuncData}
theorem scText : FnScope ["self"] ["self"] (defScope sText) := ⟨rfl, rfl, rfl, by decide +kernel, rfl, by decide +kernel, by decide +kernel⟩
theorem ok_text (F : Fun K "text" "Place.text" sText f fd) (U : CT K mg C mc) : FnOk P w K mg base CX0 1 f fd ["self"] (spText C) := by
  refine F.ok scText (fun vs H Q E h => ?_) (fun cdv A outer s H vs Q E hr h => ?_)
  · obtain ⟨p, ns, rfl, _⟩ := h
    rfl
  · obtain ⟨p, ns, rfl, ⟨dx, t, hp, ht⟩, hn, q⟩ := h
    refine ⟨_, pss_one (ps_ret (pe_op op_add_str pe_str (pe_join pe_str (pe_fld (pv 0) rfl)))), ⟨_, rfl⟩, _, rfl, p, C, dx, _, _, rfl, hp, U.cl, U.nN, pf_at _, _, t, ns, rfl, rfl, .inr (SqT.of ht), join_room hn, _, _, rfl, rfl, ?_, q⟩
    have a := join_len hn
    have l1 : ("/" : Str).length = 1 := by decide +kernel
    rw [l1]
    have : (1000 : Nat) ≤ sizeLine := by decide
    omega
theorem scPText : FnScope ["value", "names", "name"] ["value"] (defScope sPText) := ⟨rfl, rfl, rfl, by decide +kernel, rfl, by decide +kernel, by decide +kernel⟩
theorem ok_ptext {fN : Addr} {fdN : FuncData} (F : Fun K "is_place_text" "is_place_text" sPText f fd) (T : GT mg) (U : CT K mg C mc) (FN : Fun K "is_name" "is_name" sIsName fN fdN) (bN : Binds K fdN ["value"] []) (mN : mg "is_name" = some (.ref fN)) :
    FnOk P w K mg base CX0 2 f fd ["value"] (spPText K) := by
  have GN : FnOk P w K mg base CX0 1 fN fdN ["value"] (spIsName K) := ok_isName FN T
  refine F.ok scPText (fun vs H Q E h => ?_) (fun cdv A outer s H vs Q E hr h => ?_)
  · obtain ⟨x, rfl, _⟩ := h
    rfl
  · obtain ⟨x, rfl, hx, q⟩ := h
    obtain ⟨um, cm⟩ := U.most
    refine ⟨_, pss_cons (ps_if (PW.pt (pw_or (pt_not (pt_val (pe_callB call_isi (by rfl) T.b.isi (by decide +kernel) (pa_cons (pv 0) (pa_cons (pe_bltn (v := .ty "str") (by rfl) T.b.str (by decide +kernel) rfl) pa_nil)))))
        (pw_or1 (pt_not (pt_val (pe_m1 PySem.F.slot_str_startswith PySem.F.type_str_startswith mt_startswith (pv 0) pe_str)))))) (pss_one (ps_ret pe_bl)) pss_nil)
      (pss_cons (ps_if (pt_cmpR op_eq (pv 0) pe_str (nomark _)) (pss_one (ps_ret pe_bl)) pss_nil)
      (pss_cons (ps_set (i := 1) scPText.nd rfl (Or.inl rfl) (pe_split (pe_slice sl_str (pv 0) (po_some pe_int) po_none) pe_str))
      (pss_one (ps_ret (pe_and (pe_cmpR op_le (pe_callB call_len_seq (by rfl) T.b.len PySem.boot_len (pa_cons (pv 1) pa_nil)) (ClX.pe_cval (pe_glob (v := .ref C) (by rfl) U.mgC rfl)) (nomark _))
        (pe_one (pe_callB (cr_all rfl) (by rfl) T.b.all (by decide +kernel) (pa_cons (pe_lc (own := [("name", 2)]) (g := gName 2) (tt := tYes) rfl scPText.nd (pi_list (pv 1))
          (blkOk_by (own := [("name", 2)]) (N := ["value", "names", "name"]) (sc := defScope sPText) (by decide +kernel)) (fun _ _ _ _ _ => pg_name (i := 2) scPText.nd rfl (Or.inl rfl)) (fun _ _ _ _ _ => pts_nil)
          (fun _ _ _ _ _ => pe_call GN hr (by rfl) mN FN.kp bN .nil pass0 (pa_cons (pv 2) pa_nil))) pa_nil)))))))), ?_⟩
    rcases hx with ⟨z, rfl, hz⟩ | ⟨t, ty, kt, nz⟩
    · have hzl : z.length + 10 ≤ sizeLine := Nat.le_trans (Nat.add_le_add_right hz 10) (by decide)
      refine ⟨_, rfl, _, _, _, _, true, rfl, .ty "str", .base (.str z), kit_ty (by decide +kernel), true, rfl, ?_⟩
      refine iteF ⟨_, rfl, ⟨_, rfl⟩, _, _, rfl, rfl, _, rfl, ite2 (fun h0 => ?_) (fun h0 => ?_)⟩
      · have e := q H (Same.refl H)
        have e2 : isPTv (.str z) = false := by
          show isPT z = false
          unfold isPT
          rw [Bool.not_eq_true'] at h0
          rw [h0]
          rfl
        rw [e2] at e
        exact e
      · have h0' : Txt.startswith z ("/" : Str) = true := by simpa using h0
        refine ⟨_, rfl, rfl, _, rfl, ite2 (fun h1 => ?_) (fun h1 => ?_)⟩
        · have e := q H (Same.refl H)
          have h1' : z = ("/" : Str) := by simpa using h1
          have e2 : isPTv (.str z) = true := by
            show isPT z = true
            unfold isPT
            rw [h0', decide_eq_true h1']
            rfl
          rw [e2] at e
          exact e
        · have h1' : ¬ z = ("/" : Str) := by simpa using h1
          refine ⟨_, rfl, 1, rfl, z, rfl, Nat.le_trans (Nat.le_add_right _ _) hzl, ⟨_, rfl⟩, _, _, rfl, rfl, by decide +kernel, ?_, fun l hl => ?_⟩
          · have := cut1_le z
            show (cut1 z).length + 2 ≤ sizeLine
            omega
          · have hL : (upd H l (.lst ((prt z).map V.str))) l = some (.lst ((prt z).map V.str)) := upd_same
            have s0 : Same H (upd H l (.lst ((prt z).map V.str))) := fun b o hb => by
              rw [upd_ne (ne_of_none hb hl)]
              exact hb
            refine ⟨_, rfl, l, _, rfl, .inl (SqL.of hL), C, mc, .int 8, um, rfl, U.rd, cm, _, _, rfl, rfl, _, rfl, ite2 (fun h2 => ?_) (fun h2 => ?_)⟩
            · have h2' : (prt z).length ≤ 8 := by
                have : (((prt z).map V.str).length : Int) ≤ 8 := by simpa using h2
                rw [List.length_map] at this
                omega
              refine ⟨_, rfl, l, rfl, ⟨_, SqL.of hL⟩, fun D hD => lc_it (walk_list (K := K) (a := l) (xs := (prt z).map V.str)) (fun i H' => Same (upd H l (.lst ((prt z).map V.str))) H' ∧ H' D = some (.lst (((prt z).take i).map fun n => V.bl (okN n)))) ⟨fun b o hb => by
                rw [upd_ne (ne_of_none hb hD)]
                exact hb, upd_same⟩ (fun i H' _ p => SqL.of (p.1 _ _ hL)) (fun i x H1 H2 hi p y => ?_) (fun H1 p => ?_)⟩
              · obtain ⟨rfl, hx⟩ := y
                rw [List.getElem?_map] at hx
                obtain ⟨n, hn1, rfl⟩ := Option.map_eq_some_iff.mp hx
                refine ⟨rfl, _, rfl, _, rfl, .inl ⟨n, rfl, ?_⟩, fun H' s2 => ⟨_, s2 _ _ p.2, ?_, fun b o hb => ?_, ?_⟩⟩
                · have a1 := split_le (List.mem_of_getElem? hn1)
                  have a2 := cut1_le z
                  omega
                · rw [List.length_map]
                  have : ((prt z).take i).length ≤ (prt z).length := by rw [List.length_take]; omega
                  have : (8 : Nat) < sizeLine := by decide
                  omega
                · rw [upd_ne (ne_of_none hb hD)]
                  exact s2 _ _ (p.1 _ _ hb)
                · rw [upd_same, List.take_add_one, hn1, List.map_append]
                  rfl
              · refine ⟨D, (prt z).map okN, rfl, SqL.of ?_, ?_⟩
                · rw [p.2, List.length_map, List.take_length, List.map_map]
                  rfl
                · have e := q H1 (s0.trans p.1)
                  have e2 : isPTv (.str z) = ((prt z).map okN).all id := by
                    show isPT z = _
                    unfold isPT
                    rw [h0', decide_eq_false h1', decide_eq_true h2', List.all_map]
                    rfl
                  rw [e2] at e
                  exact e
            · have e := q _ s0
              have h2' : ¬ (prt z).length ≤ 8 := fun q => h2 (decide_eq_true (by rw [List.length_map]; omega))
              have e2 : isPTv (.str z) = false := by
                show isPT z = false
                unfold isPT
                rw [decide_eq_false h1', decide_eq_false h2']
                simp
              rw [e2] at e
              exact e
    · refine ⟨_, rfl, x, _, t, _, false, rfl, .ty "str", ty, kt, false, rfl, ?_⟩
      refine iteT (iteT ?_)
      have e := q H (Same.refl H)
      rw [nz] at e
      exact e
theorem scIsPlace : FnScope ["value"] ["value"] (defScope sIsPlace) := ⟨rfl, rfl, rfl, by decide +kernel, rfl, by decide +kernel, by decide +kernel⟩
theorem ok_isPlace {fT : Addr} {fdT : FuncData} (F : Fun K "is_place" "is_place" sIsPlace f fd) (T : GT mg) (U : CT K mg C mc) (GT_ : FnOk P w K mg base CX0 2 fT fdT ["value"] (spPText K)) (kT : PySem.W.keepIn K (.ref fT) = true) (bT : Binds K fdT ["value"] []) (mT : mg "is_place_text" = some (.ref fT)) :
    FnOk P w K mg base CX0 3 f fd ["value"] (spIsPlace C) := by
  refine F.ok scIsPlace (fun vs H Q E h => ?_) (fun cdv A outer s H vs Q E hr h => ?_)
  · obtain ⟨p, ns, rfl, _⟩ := h
    rfl
  · obtain ⟨p, ns, rfl, Pp, q⟩ := h
    refine ⟨_, pss_one (ps_ret (pe_or (pe_callB call_isi (by rfl) T.b.isi (by decide +kernel) (pa_cons (pv 0) (pa_cons (pe_glob (v := .ref C) (by rfl) U.mgC rfl) pa_nil)))
      (pe_one (pe_call GT_ hr (by rfl) mT kT bT .nil pass0 (pa_cons (pv 0) pa_nil))))), ?_⟩
    refine ⟨_, rfl, _, _, _, _, true, rfl, .own C, PlA.ty U Pp, U.kC, true, rfl, ?_⟩
    exact iteT q
theorem scOf : FnScope ["value"] ["value"] (defScope sOf) := ⟨rfl, rfl, rfl, by decide +kernel, rfl, by decide +kernel, by decide +kernel⟩
theorem ok_of (F : Fun K "of" "Place.of" sOf f fd) (T : GT mg) (U : CT K mg C mc) : FnOk P w K mg base CX0 1 f fd ["value"] (spOf C) := by
  refine F.ok scOf (fun vs H Q E h => ?_) (fun cdv A outer s H vs Q E hr h => ?_)
  · obtain ⟨p, ns, rfl, _⟩ := h
    rfl
  · obtain ⟨p, ns, rfl, Pp, q⟩ := h
    refine ⟨_, pss_cons (ps_if (pt_val (pe_callB call_isi (by rfl) T.b.isi (by decide +kernel) (pa_cons (pv 0) (pa_cons (pe_glob (v := .ref C) (by rfl) U.mgC rfl) pa_nil)))) (pss_one (ps_ret (pv 0))) pss_nil) (pss_one ps_never), ?_⟩
    refine ⟨_, rfl, _, _, _, _, true, rfl, .own C, PlA.ty U Pp, U.kC, true, rfl, ?_⟩
    exact iteT ⟨_, rfl, q⟩
theorem scRead : FnScope ["cls", "text", "names", "name"] ["cls", "text"] (defScope sRead) := ⟨rfl, rfl, rfl, by decide +kernel, rfl, by decide +kernel, by decide +kernel⟩
theorem ok_read {fT fP : Addr} {fdT : FuncData} (F : Fun K "read" "Place.read" sRead f fd) (T : GT mg) (U : CT K mg C mc) (GT_ : FnOk P w K mg base CX0 2 fT fdT ["value"] (spPText K)) (kT : PySem.W.keepIn K (.ref fT) = true) (bT : Binds K fdT ["value"] []) (mT : mg "is_place_text" = some (.ref fT))
    (M : Mk K C fP) (GM : FnR P w K mg base CX0 2 fP (spMk C)) : FnOk P w K mg base CX0 4 f fd ["cls", "text"] (spRead C) := by
  refine F.ok scRead (fun vs H Q E h => ?_) (fun cdv A outer s H vs Q E hr h => ?_)
  · obtain ⟨ns, rfl, _⟩ := h
    rfl
  · obtain ⟨ns, rfl, hn, q⟩ := h
    have tl1 := txt_len hn
    have big : (2000 : Nat) ≤ sizeLine := by decide
    refine ⟨_, pss_cons (ps_if (pt_not (pt_val (pe_call GT_ (hr.mono (by decide)) (by rfl) mT kT bT .nil pass0 (pa_cons (pv 1) pa_nil)))) (pss_one ps_never) pss_nil)
      (pss_cons (ps_setLc (i := 2) (own := [("name", 3)]) (g := gName 3) (tt := tTru K (tVar 3)) rfl scRead.nd rfl rfl (sw_true rfl rfl rfl (by decide +kernel)) (pi_list (pe_split (pv 1) pe_str))
        (blkOk_by (own := [("name", 3)]) (N := ["cls", "text", "names", "name"]) (sc := defScope sRead) (by decide +kernel)) (fun _ _ _ _ _ => pg_name (i := 3) scRead.nd rfl (Or.inl rfl)) (fun _ _ _ _ _ => pts_one (pt_truth (pv 3) (by intro _; rfl)))
        (fun _ _ _ _ _ => pv 3))
      (pss_one (ps_ret (pe_makeLS M GM hr (pv 0) pass0 (pv 2))))), ?_⟩
    refine ⟨_, rfl, _, rfl, .inl ⟨_, rfl, by omega⟩, fun H1 s1 => ⟨_, rfl, ?_⟩⟩
    rw [show isPTv (.str (txt ns)) = true from isPT_txt hn]
    refine iteF ?_
    refine ⟨_, rfl, ⟨_, rfl⟩, _, _, rfl, rfl, by decide +kernel, by omega, fun l hl => ?_⟩
    have hL : (upd H1 l (.lst ((Txt.split (txt ns) ("/" : Str)).map V.str))) l = some (.lst ((Txt.split (txt ns) ("/" : Str)).map V.str)) := upd_same
    have s2 : Same H1 (upd H1 l (.lst ((Txt.split (txt ns) ("/" : Str)).map V.str))) := fun b o hb => by
      rw [upd_ne (ne_of_none hb hl)]
      exact hb
    refine ⟨l, rfl, ⟨_, SqL.of hL⟩, fun D hD => lc_it (walk_list (K := K) (a := l) (xs := (Txt.split (txt ns) ("/" : Str)).map V.str))
      (fun i H' => Same (upd H1 l (.lst ((Txt.split (txt ns) ("/" : Str)).map V.str))) H' ∧ H' D = some (.lst ((((Txt.split (txt ns) ("/" : Str)).take i).filter fun n => (n.length : Int) != 0).map V.str))) ⟨fun b o hb => by
        rw [upd_ne (ne_of_none hb hD)]
        exact hb, upd_same⟩ (fun i H' _ p => SqL.of (p.1 _ _ hL)) (fun i x H3 H4 hi p y => ?_) (fun H3 p => ?_)⟩
    · obtain ⟨rfl, hx⟩ := y
      rw [List.getElem?_map] at hx
      obtain ⟨n, hn1, rfl⟩ := Option.map_eq_some_iff.mp hx
      have a1 := split_le (List.mem_of_getElem? hn1)
      have a2 := split_count (txt ns)
      refine ⟨rfl, _, rfl, ((n.length : Int) != 0), ⟨by omega, rfl⟩, ?_⟩
      cases hb : ((n.length : Int) != 0) with
      | true =>
        refine iteT ⟨_, rfl, _, p.2, ?_, fun b o hb => ?_, ?_⟩
        · rw [List.length_map]
          have b1 := List.length_filter_le (fun n : Str => (n.length : Int) != 0) ((Txt.split (txt ns) ("/" : Str)).take i)
          have b2 : ((Txt.split (txt ns) ("/" : Str)).take i).length ≤ (Txt.split (txt ns) ("/" : Str)).length := by rw [List.length_take]; omega
          omega
        · rw [upd_ne (ne_of_none hb hD)]
          exact p.1 _ _ hb
        · rw [upd_same, List.take_add_one, hn1, List.filter_append, List.map_append]
          simp [hb]
      | false =>
        refine iteF ⟨p.1, ?_⟩
        rw [p.2, List.take_add_one, hn1, List.filter_append]
        simp [hb]
    · have e : H3 D = some (.lst (ns.map V.str)) := by
        rw [p.2, List.length_map, List.take_length, kept_txt hn]
      refine ⟨rfl, _, rfl, D, _, rfl, .inr (SqL.of e), make_ok hn fun r H' s4 P1 => q r H' (s1.trans (s2.trans (p.1.trans s4))) P1⟩
end
end Pl

namespace Pl
open PySem L2 Own TL RZ
def shr : List Str → List Str → Nat
  | x :: xs, y :: ys => if x = y then shr xs ys + 1 else 0
  | _, _ => 0
theorem shr_at : ∀ (ns ms : List Str) (i : Nat), i ≤ ns.length → i ≤ ms.length → ns.take i = ms.take i → (i = ns.length ∨ i = ms.length ∨ ns[i]? ≠ ms[i]?) → shr ns ms = i
  | [], ms, i, h1, _, _, _ => by
    have : i = 0 := by simpa using h1
    rw [this]
    cases ms <;> rfl
  | n :: ns, [], i, _, h2, _, _ => by
    have : i = 0 := by simpa using h2
    rw [this]
    rfl
  | n :: ns, m :: ms, 0, _, _, _, h => by
    have e : ¬ n = m := by
      rcases h with h | h | h
      · simp at h
      · simp at h
      · simpa using h
    show (if n = m then _ else 0) = 0
    rw [if_neg e]
  | n :: ns, m :: ms, i + 1, h1, h2, h3, h => by
    simp only [List.take_succ_cons, List.cons.injEq] at h3
    show (if n = m then shr ns ms + 1 else 0) = i + 1
    rw [if_pos h3.1, shr_at ns ms i (by simpa using h1) (by simpa using h2) h3.2 (by simpa using h)]
theorem walk_zipT {K : PySem.W.Frag} {a b : Addr} {xs ys : List V} {n : Nat} (hn : n = min xs.length ys.length) : Walk (ItzT K a b) n (fun H => SqT K H a xs ∧ SqT K H b ys) (YPair (fun i => xs[i]?) (fun i => ys[i]?)) := by
  subst hn
  refine ⟨fun i _ hi q => ?_, fun _ q => ⟨xs, ys, q.1, q.2, by omega⟩, fun i H v H' _ q y => ?_⟩
  · have h1 : i < xs.length := by omega
    have h2 : i < ys.length := by omega
    exact ⟨xs, ys, xs[i], ys[i], q.1, q.2, by simp [h1], by simp [h2]⟩
  · obtain ⟨T, x, z, h1, h2, h3, h4, h5⟩ := y
    exact ⟨T, x, z, h1, h2, h3, h4 xs q.1, h5 ys q.2⟩
def spAnd (C : Addr) : Sp := fun vs H Q _ => ∃ p q ns ms, vs = [.ref p, .ref q] ∧ PlA C H p ns ∧ PlA C H q ms ∧ Nms ns ∧ Nms ms ∧ ∀ r H', Same H H' → PlA C H' r (ns.take (shr ns ms)) → Q (.ref r) H'
section
variable {P : Program} {w : World} {K : PySem.W.Frag} {mg : Str → Option Value} {base : Heap} {f C : Addr} {mc : Value} {fd : FuncData}
theorem scAnd : FnScope ["self", "other", "shared", "mine", "theirs"] ["self", "other"] (defScope sAnd) := ⟨rfl, rfl, rfl, by decide +kernel, rfl, by decide +kernel, by decide +kernel⟩
theorem ok_and {fH fn pn : Addr} {fdH fdn : FuncData} (F : Fun K "__and__" "Place.__and__" sAnd f fd) (T : BT mg) (U : CT K mg C mc) (GH : FnOk P w K mg base CX0 4 fH fdH ["self", "k"] (spHead C)) (bH : Binds K fdH ["self", "k"] []) (mH : Meth K C "head" fH)
    (Fn : Fun K "names" "Place.names" sNames fn fdn) (bn : Binds K fdn ["self"] []) (hpn : PropOf K C "names" pn fn) : FnOk P w K mg base CX0 5 f fd ["self", "other"] (spAnd C) := by
  have GN : FnOk P w K mg base CX0 1 fn fdn ["self"] (spNames C) := ok_names Fn U
  refine F.ok scAnd (fun vs H Q E h => ?_) (fun cdv A outer s H vs Q E hr h => ?_)
  · obtain ⟨p, q, ns, ms, rfl, _⟩ := h
    rfl
  · obtain ⟨p, q, ns, ms, rfl, P1, P2, N1, N2, k⟩ := h
    obtain ⟨dx, t, hp, ht⟩ := id P1
    obtain ⟨dy, u, hq, hu⟩ := id P2
    refine ⟨_, pss_cons (ps_if (pt_not (pt_val (pe_callB call_isi (by rfl) T.isi (by decide +kernel) (pa_cons (pv 1) (pa_cons (pe_glob (v := .ref C) (by rfl) U.mgC rfl) pa_nil))))) (pss_one ps_never) pss_nil)
      (pss_cons (ps_set (i := 2) scAnd.nd rfl (Or.inl rfl) pe_int)
      (pss_cons (ps_for PassesOwn.never rfl (pi_zipA (by rfl) T.zip (pa_cons (pe_fld (pv 0) rfl) (pa_cons (pe_prop (pv 1) U.cl hpn GN (hr.mono (by decide)) bn .nil pass0 rfl) pa_nil)))
          (pg_tup rfl (pgs_cons (pg_name (i := 3) scAnd.nd rfl (Or.inl rfl)) (pgs_cons (pg_name (i := 4) scAnd.nd rfl (Or.inl rfl)) pgs_nil)))
        (pss_cons (ps_if (pt_cmpR op_ne (pv 3) (pv 4) (nomark _)) (pss_one ps_break) pss_nil)
        (pss_one (ps_aug (i := 2) scAnd.nd rfl (Or.inl rfl) pe_int ip_add))))
      (pss_one (ps_ret (pe_meth (pv 0) U.cl mH GH hr bH .nil pass0 (pa_cons (pv 2) pa_nil)))))), ?_⟩
    refine ⟨_, rfl, _, _, _, _, true, rfl, .own C, PlA.ty U P2, U.kC, true, rfl, ?_⟩
    refine iteF ?_
    have SAME : ∀ {H' : Hp}, Same H H' → SqT K H' t (ns.map V.str) ∧ SqT K H' u (ms.map V.str) := fun s1 => ⟨SqT.of (s1 _ _ ht), SqT.of (s1 _ _ hu)⟩
    have fin : ∀ (i : Nat) (H' : Hp) (v3 v4 : Option V), Same H H' → i ≤ ns.length → i ≤ ms.length → ns.take i = ms.take i → (i = ns.length ∨ i = ms.length ∨ ns[i]? ≠ ms[i]?) →
        tRet (tMeth C "head" (spHead C) [] E0 (tVar 0) (tCons (tVar 2) tNil)) { nx := fun x H' => Q V.non H', rt := Q } [some (.ref p), some (.ref q), some (.int i), v3, v4] H' := by
      intro i H' v3 v4 s1 h1 h2 h3 h4
      refine ⟨_, rfl, p, dx, _, rfl, s1 _ _ hp, pf_no _ (by decide +kernel), _, rfl, p, ns, i, rfl, P1.mono s1, N1, by omega, by omega, fun r H2 s2 P3 => k r H2 (s1.trans s2) ?_⟩
      rw [shr_at ns ms i h1 h2 h3 h4]
      simpa using P3
    refine ⟨_, rfl, p, C, dx, _, _, rfl, hp, U.cl, U.nN, pf_at _, _, rfl, q, dy, _, rfl, hq, q, dy, u, rfl, hq, t, u, _, _, rfl, .inr ⟨SqT.of ht, SqT.of hu,
      for_it (walk_zipT (n := min ns.length ms.length) (xs := ns.map V.str) (ys := ms.map V.str) (by simp)) (fun i σ H' => Same H H' ∧ ns.take i = ms.take i ∧ ∃ v3 v4, σ = [some (.ref p), some (.ref q), some (.int i), v3, v4]) ⟨Same.refl H, rfl, none, none, rfl⟩
        (fun i σ H' _ e => SAME e.1) (fun i x σ H1 H2 hi e y => ?_) (fun σ H1 e => ?_)⟩⟩
    · obtain ⟨s1, e1, v3, v4, rfl⟩ := e
      obtain ⟨tt, x, y, rfl, hn, rfl, hx, hy⟩ := y
      simp only [List.getElem?_map] at hx hy
      obtain ⟨n, hn1, rfl⟩ := Option.map_eq_some_iff.mp hx
      obtain ⟨m, hm1, rfl⟩ := Option.map_eq_some_iff.mp hy
      have s2 : Same H (upd H1 tt (.tup [.str n, .str m])) := fun b o hb => by
        rw [upd_ne (ne_of_none (s1 _ _ hb) hn)]
        exact s1 _ _ hb
      refine ⟨tt, _, rfl, SqT.of upd_same, rfl, _, _, rfl, _, _, rfl, rfl, ?_⟩
      refine ⟨_, rfl, _, rfl, rfl, _, rfl, ite2 (fun h => ?_) (fun h => ?_)⟩
      · have h' : n ≠ m := by simpa using h
        exact fin i _ _ _ s2 (by omega) (by omega) e1 (.inr (.inr (by rw [hn1, hm1]; simpa using h')))
      · have h' : n = m := by simpa using h
        refine ⟨_, rfl, _, _, rfl, rfl, ?_⟩
        refine ⟨s2, ?_, _, _, rfl⟩
        rw [List.take_add_one, List.take_add_one, e1, hn1, hm1, h']
    · obtain ⟨s1, e1, v3, v4, rfl⟩ := e
      exact fin _ _ _ _ s1 (by omega) (by omega) e1 (by omega)
theorem scCont : FnScope ["self", "x"] ["self", "x"] (defScope sCont) := ⟨rfl, rfl, rfl, by decide +kernel, rfl, by decide +kernel, by decide +kernel⟩
theorem ok_cont {fI fO pO fn pn : Addr} {fdI fdO fdn : FuncData} (F : Fun K "__contains__" "Place.__contains__" sCont f fd) (T : GT mg) (U : CT K mg C mc)
    (GI : FnOk P w K mg base CX0 3 fI fdI ["value"] (spIsPlace C)) (kI : PySem.W.keepIn K (.ref fI) = true) (bI : Binds K fdI ["value"] []) (mI : mg "is_place" = some (.ref fI))
    (FO : Fun K "of" "Place.of" sOf fO fdO) (bO : Binds K fdO ["value"] []) (mO : SMet K C mc "of" pO fO)
    (Fn : Fun K "names" "Place.names" sNames fn fdn) (bn : Binds K fdn ["self"] []) (hpn : PropOf K C "names" pn fn) : FnOk P w K mg base CX0 4 f fd ["self", "x"] (spCont C) := by
  have GN : FnOk P w K mg base CX0 1 fn fdn ["self"] (spNames C) := ok_names Fn U
  have GO : FnR P w K mg base CX0 1 fO (spOf C) := fnR_of (ok_of FO T U) bO
  refine F.ok scCont (fun vs H Q E h => ?_) (fun cdv A outer s H vs Q E hr h => ?_)
  · obtain ⟨p, q, ns, ms, rfl, _⟩ := h
    rfl
  · obtain ⟨p, q, ns, ms, rfl, P1, P2, N1, N2, k⟩ := h
    obtain ⟨dx, t, hp, ht⟩ := id P1
    obtain ⟨dy, u, hq, hu⟩ := id P2
    refine ⟨_, pss_cons (ps_if (pt_not (pt_val (pe_call GI hr (by rfl) mI kI bI .nil pass0 (pa_cons (pv 1) pa_nil)))) (pss_one (ps_ret pe_bl)) pss_nil)
      (pss_one (ps_ret (pe_cmpR (op_eqD hr.units) (pe_slice sl_tupA (pe_prop (pe_smeth (pe_glob (v := .ref C) (by rfl) U.mgC rfl) U.rd mO GO (hr.mono (by decide)) pass0 (pa_cons (pv 1) pa_nil)) U.cl hpn GN (hr.mono (by decide)) bn .nil pass0 rfl) po_none
          (po_some (pe_callB call_len_seq (by rfl) T.b.len PySem.boot_len (pa_cons (pe_fld (pv 0) rfl) pa_nil)))) (pe_fld (pv 0) rfl) (nomark _)))), ?_⟩
    refine ⟨_, rfl, q, ms, rfl, P2, _, rfl, ?_⟩
    refine iteF ⟨rfl, _, rfl, q, ms, rfl, P2, q, dy, _, rfl, hq, q, dy, u, rfl, hq, ?_⟩
    refine ⟨_, rfl, p, C, dx, _, _, rfl, hp, U.cl, U.nN, pf_at _, t, _, rfl, .inr (SqT.of ht), _, rfl, u, _, rfl, SqT.of hu, fun hw => ?_, fun hw r hr2 => ?_⟩
    · have e : ms.take ns.length = ms := by
        have h2 := hw.2
        rw [List.length_map, List.length_map, HT.sIx_nat] at h2
        exact List.take_of_length_le (by omega)
      refine ⟨_, rfl, p, C, dx, _, _, rfl, hp, U.cl, U.nN, pf_at _, _, _, .tup (SqT.of hu) (dp_strs _), .tup (SqT.of ht) (dp_strs _), shaped_strs _ fun n hn => ok_str (N2.2 n hn), shaped_strs _ fun n hn => ok_str (N1.2 n hn), ?_⟩
      rw [eqv_strs]
      have z := k H (Same.refl H)
      rw [e] at z
      exact z
    · have e : cutV (ms.map V.str) none (some (((ns.map V.str).length : Nat) : Int)) = (ms.take ns.length).map V.str := by
        by_cases h : ns.length ≤ ms.length
        · rw [cut_to (by omega) (by simp; omega), List.map_take]
          simp
        · refine absurd ⟨rfl, ?_⟩ hw
          rw [HT.sIx_nat, List.length_map, List.length_map]
          omega
      have s1 : Same H (upd H r (.tup (cutV (ms.map V.str) none (some (((ns.map V.str).length : Nat) : Int))))) := fun b o hb => by
        rw [upd_ne (ne_of_none hb hr2)]
        exact hb
      have hR : (upd H r (.tup (cutV (ms.map V.str) none (some (((ns.map V.str).length : Nat) : Int))))) r = some (.tup ((ms.take ns.length).map V.str)) := by rw [upd_same, e]
      refine ⟨_, rfl, p, C, dx, _, _, rfl, s1 _ _ hp, U.cl, U.nN, pf_at _, _, _, .tup (SqT.of hR) (dp_strs _), .tup (SqT.of (s1 _ _ ht)) (dp_strs _), shaped_strs _ fun n hn => ok_str (N2.2 n (List.mem_of_mem_take hn)), shaped_strs _ fun n hn => ok_str (N1.2 n hn), ?_⟩
      rw [eqv_strs]
      exact k _ s1
end
end Pl

namespace Pl
open PySem L2 Own TL RZ
abbrev sPen : Stmt := top 35
abbrev sDraw : Stmt := top 36
abbrev sPick : Stmt := top 37
/-- all but the object at l is as it was -/
def But (l : Addr) (H H' : Hp) : Prop := ∀ b o, H b = some o → b ≠ l → H' b = some o
theorem But.refl (l : Addr) (H : Hp) : But l H H := fun _ _ h _ => h
theorem But.trans {l : Addr} {H H1 H2 : Hp} (a : But l H H1) (b : But l H1 H2) : But l H H2 := fun c o h n => b c o (a c o h n) n
theorem But.same {l : Addr} {H H1 : Hp} (a : Same H H1) : But l H H1 := fun c o h _ => a c o h
/-- what is left of the pen: the cells at c, the index, what is left of a great one -/
structure PenAt (H : Hp) (l c : Addr) (k : Nat) : Prop where
  ex : ∃ (cells : List Int) (idx g : Int), H l = some (.lst [.ref c, .int idx, .int g]) ∧ H c = some (.lst (cells.map V.int)) ∧ cells.length ≤ 63 ∧ 0 ≤ idx ∧ idx ≤ (k : Nat)
theorem PenAt.mono {H H' : Hp} {l c : Addr} {k k' : Nat} (p : PenAt H l c k) (s : Same H H') (h : k ≤ k') : PenAt H' l c k' := by
  obtain ⟨cells, idx, g, h1, h2, h3, h4, h5⟩ := p.ex
  exact ⟨cells, idx, g, s _ _ h1, s _ _ h2, h3, h4, by omega⟩
def spPen (K : PySem.W.Frag) : Sp := fun vs H Q _ => ∃ (a : Addr) (ns : List Int), vs = [.ref a] ∧ SqL K H a (ns.map V.int) ∧ ns.length ≤ 63 ∧ ∀ l c H', Same H H' → H l = none → PenAt H' l c 0 → Q (.ref l) H'
def spDraw : Sp := fun vs H Q _ => ∃ (l c : Addr) (many : Int) (k : Nat), vs = [.ref l, .int many] ∧ PenAt H l c k ∧ k ≤ 100000 ∧ 0 < many ∧ many < 1000000 ∧ ∀ (r : Int) H', 0 ≤ r → r < many → But l H H' → PenAt H' l c (k + 1) → Q (.int r) H'
def spPick : Sp := fun vs H Q _ => ∃ (l c m : Addr) (xs : List V) (k : Nat), vs = [.ref l, .ref m] ∧ PenAt H l c k ∧ k ≤ 100000 ∧ H m = some (.lst xs) ∧ m ≠ l ∧ 0 < xs.length ∧ xs.length < 1000000 ∧ ∀ (j : Nat) x H', xs[j]? = some x → But l H H' → PenAt H' l c (k + 1) → Q x H'
theorem dp_ints {K : PySem.W.Frag} {H : Hp} : ∀ ns : List Int, DpAll K H (ns.map V.int) (ns.map PyData.int)
  | [] => .nil
  | n :: ns => .cons (.int n) (dp_ints ns)
theorem eqv_nil (ns : List Int) : PyData.eqv (.list (ns.map PyData.int)) (.list []) = ns.isEmpty := by
  show PyData.eqvAll _ _ = _
  cases ns <;> simp [PyData.eqvAll]
theorem shaped_nil : SeqAt.shaped (.list []) = true := by decide +kernel
theorem stir_bound {s i c d e : Int} (s0 : 0 ≤ s) (s1 : s < 2147483629) (i0 : 0 ≤ i) (i1 : i ≤ 100000) (c0 : 0 ≤ c) (c1 : c ≤ 1000000) (d0 : 0 ≤ d) (d1 : d ≤ 1000000) (e0 : 0 ≤ e) (e1 : e ≤ 1000000) :
    (s * (2 * i + c) + d * i * i + e).natAbs < 2 ^ 64 := by
  have a0 : 0 ≤ s * (2 * i + c) := Int.mul_nonneg s0 (by omega)
  have a1 : s * (2 * i + c) ≤ 2147483629 * 1200000 := Int.mul_le_mul (by omega) (by omega) (by omega) (by omega)
  have b0 : 0 ≤ d * i := Int.mul_nonneg d0 i0
  have b1 : d * i ≤ 1000000 * 100000 := Int.mul_le_mul d1 i1 i0 (by omega)
  have b2 : 0 ≤ d * i * i := Int.mul_nonneg b0 i0
  have b3 : d * i * i ≤ (1000000 * 100000) * 100000 := Int.mul_le_mul b1 i1 i0 (by omega)
  omega
section
variable {P : Program} {w : World} {K : PySem.W.Frag} {mg : Str → Option Value} {base : Heap} {f : Addr} {fd : FuncData}
theorem scPen : FnScope ["_law_script"] ["_law_script"] (defScope sPen) := ⟨rfl, rfl, rfl, by decide +kernel, rfl, by decide +kernel, by decide +kernel⟩
theorem ok_pen (F : Fun K "_law_pen" "_law_pen" sPen f fd) (T : BT mg) : FnOk P w K mg base CX0 1 f fd ["_law_script"] (spPen K) := by
  refine F.ok scPen (fun vs H Q E h => ?_) (fun cdv A outer s H vs Q E hr h => ?_)
  · obtain ⟨a, ns, rfl, _⟩ := h
    rfl
  · obtain ⟨a, ns, rfl, hs, hl, k⟩ := h
    refine ⟨_, pss_one (ps_ret (pe_lst (pa_cons (pe_callTy call_list_of (by rfl) T.list (by decide +kernel) (pa_cons (pe_slice sl_list (pv 0) po_none (po_some pe_int)) pa_nil)) (pa_cons pe_int (pa_cons pe_int pa_nil))))), ?_⟩
    refine ⟨_, rfl, 63, rfl, a, _, rfl, hs, fun p hp => ⟨p, _, rfl, .inl (SqL.of upd_same), fun c hc => ⟨by show 3 ≤ sizeLine; decide, fun l hl2 => ?_⟩⟩⟩
    have n1 : p ≠ c := fun e => by
      rw [← e, upd_same] at hc
      cases hc
    have n2 : c ≠ l := fun e => by
      rw [← e, upd_same] at hl2
      cases hl2
    have hl3 : H l = none := by
      rw [upd_ne n2.symm] at hl2
      by_cases e : l = p
      · rw [e]
        exact hp
      · rw [upd_ne e] at hl2
        exact hl2
    have ec : cutV (ns.map V.int) none (some 63) = ns.map V.int := by
      unfold cutV
      rw [HT.sIx_none, show (63 : Int) = ((63 : Nat) : Int) from rfl, HT.sIx_nat, List.drop_zero, Nat.sub_zero, List.length_map]
      exact List.take_of_length_le (by rw [List.length_map]; omega)
    rw [ec]
    have hc0 : H c = none := by
      rw [upd_ne n1.symm] at hc
      exact hc
    refine k l c _ (fun b o hb => ?_) hl3 ⟨ns, 0, 0, upd_same, by rw [upd_ne n2, upd_same], hl, Int.le_refl _, Int.le_refl _⟩
    rw [upd_ne (ne_of_none hb hl3), upd_ne (ne_of_none hb hc0), upd_ne (ne_of_none hb hp)]
    exact hb
theorem scDraw : FnScope ["_law_pen_here", "_law_many", "_law_digit", "_law_begun", "_law_cell", "_law_great", "_law_stirred"] ["_law_pen_here", "_law_many"] (defScope sDraw) := ⟨rfl, rfl, rfl, by decide +kernel, rfl, by decide +kernel, by decide +kernel⟩
theorem ok_draw (F : Fun K "_law_draw" "_law_draw" sDraw f fd) (T : BT mg) : FnOk P w K mg base CX0 1 f fd ["_law_pen_here", "_law_many"] spDraw := by
  refine F.ok scDraw (fun vs H Q E h => ?_) (fun cdv A outer s H vs Q E hr h => ?_)
  · obtain ⟨l, c, many, k, rfl, _⟩ := h
    rfl
  · obtain ⟨l, c, many, k, rfl, PN, hk, m0, m1, q⟩ := h
    obtain ⟨cells, idx, g, hl, hc, h63, i0, i1⟩ := PN.ex
    have ncl : c ≠ l := ne_of hc hl (by
      intro z
      injection z with z
      cases cells with
      | nil => cases z
      | cons x r =>
        injection z with z _
        cases z)
    refine ⟨_, pss_cons (ps_if (pt_cmpR op_gt (pe_ix ix_list (pv 0) pe_int (fun _ _ => rfl)) pe_int (nomark _))
        (pss_cons (ps_set (i := 2) scDraw.nd rfl (Or.inl rfl) (pe_op op_mod (pe_callTy call_int1 (by rfl) T.int (by decide +kernel) (pa_cons (pe_ix ix_list (pv 0) pe_int (fun _ _ => rfl)) pa_nil)) (pv 1)))
        (pss_cons (ps_asg (pe_op op_fdiv (pe_callTy call_int1 (by rfl) T.int (by decide +kernel) (pa_cons (pe_ix ix_list (pv 0) pe_int (fun _ _ => rfl)) pa_nil)) (pv 1)) (pg_sub (pv 0) pe_int set_list))
        (pss_one (ps_ret (pv 2))))) pss_nil)
      (pss_cons (ps_set (i := 3) scDraw.nd rfl (Or.inl rfl) (pe_ix ix_list (pv 0) pe_int (fun _ _ => rfl)))
      (pss_cons (ps_asg (pe_op op_add (pv 3) pe_int) (pg_sub (pv 0) pe_int set_list))
      (pss_cons (ps_set (i := 4) scDraw.nd rfl (Or.inl rfl) (pe_op op_add (pe_op op_mul pe_int (pv 3)) pe_int))
      (C8.pss_cut (ps_if (pt_cmpR (op_neD hr.units) (pe_ix ix_list (pv 0) pe_int (fun _ _ => rfl)) (pe_lst pa_nil) (nomark _))
        (pss_one (ps_set (i := 4) scDraw.nd rfl (Or.inl rfl) (pe_ix ix_list (pe_ix ix_list (pv 0) pe_int (fun _ _ => rfl)) (pe_op op_mod (pe_callTy call_int1 (by rfl) T.int (by decide +kernel) (pa_cons (pv 3) pa_nil))
          (pe_callB call_len_seq (by rfl) T.len PySem.boot_len (pa_cons (pe_ix ix_list (pv 0) pe_int (fun _ _ => rfl)) pa_nil))) (fun _ _ => rfl)))) pss_nil)
      (C8.pss_cut (ps_if (PW.pt (pw_and (pt_cmpR op_lt (pv 3) (pe_callB call_len_seq (by rfl) T.len PySem.boot_len (pa_cons (pe_ix ix_list (pv 0) pe_int (fun _ _ => rfl)) pa_nil)) (nomark _))
          (pw_and1 (pt_cmpR op_ge (pe_callB call_abs (by rfl) T.abs (by decide +kernel) (pa_cons (pv 4) pa_nil)) (pe_op op_pow pe_int pe_int) (nomark _)))))
        (pss_cons (ps_set (i := 5) scDraw.nd rfl (Or.inl rfl) (pe_op op_add (pe_op op_mul pe_int (pe_op op_sub (pe_callB call_abs (by rfl) T.abs (by decide +kernel) (pa_cons (pv 4) pa_nil)) (pe_op op_pow pe_int pe_int)))
            (pe_callTy call_int1 (by rfl) T.int (by decide +kernel) (pa_cons (pe_cmpR op_lt (pv 4) pe_int (nomark _)) pa_nil))))
        (pss_cons (ps_asg (pe_op op_fdiv (pe_callTy call_int1 (by rfl) T.int (by decide +kernel) (pa_cons (pv 5) pa_nil)) (pv 1)) (pg_sub (pv 0) pe_int set_list))
        (pss_one (ps_ret (pe_op op_mod (pe_callTy call_int1 (by rfl) T.int (by decide +kernel) (pa_cons (pv 5) pa_nil)) (pv 1)))))) pss_nil)
      (pss_cons (ps_set (i := 6) scDraw.nd rfl (Or.inl rfl) (pe_op op_mod (pe_callTy call_int1 (by rfl) T.int (by decide +kernel) (pa_cons (pe_op op_pow (pe_op op_add (pe_op op_add (pe_op op_mod (pe_callTy call_int1 (by rfl) T.int (by decide +kernel) (pa_cons (pv 4) pa_nil)) pe_int)
          (pe_op op_mul pe_int (pv 3))) pe_int) pe_int) pa_nil)) pe_int))
      (pss_cons (ps_set (i := 6) scDraw.nd rfl (Or.inl rfl) (pe_op op_mod (pe_callTy call_int1 (by rfl) T.int (by decide +kernel) (pa_cons (pe_op op_pow (pe_op op_add (pe_op op_add (pe_op op_mul (pv 6) (pe_op op_add (pe_op op_mul pe_int (pv 3)) pe_int))
          (pe_op op_mul (pe_op op_mul pe_int (pv 3)) (pv 3))) pe_int) pe_int) pa_nil)) pe_int))
      (pss_one (ps_ret (pe_op op_mod (pe_callTy call_int1 (by rfl) T.int (by decide +kernel) (pa_cons (pe_op op_fdiv (pv 6) pe_int) pa_nil)) (pv 1))))))))))), ?_⟩
    have il0 : atI [V.ref c, V.int idx, V.int g] 0 = some (.ref c) := atI_nat (j := 0) rfl
    have fin : ∀ (r g' : Int) (H1 : Hp), 0 ≤ r → r < many → But l H H1 → H1 l = some (.lst [.ref c, .int idx, .int g']) → Q (.int r) H1 := fun r g' H1 r0 r1 b1 e =>
      q r H1 r0 r1 b1 ⟨cells, idx, g', e, b1 _ _ hc ncl, h63, i0, by omega⟩
    have fin2 : ∀ (r g' : Int) (H1 : Hp), 0 ≤ r → r < many → But l H H1 → H1 l = some (.lst [.ref c, .int (idx + 1), .int g']) → Q (.int r) H1 := fun r g' H1 r0 r1 b1 e =>
      q r H1 r0 r1 b1 ⟨cells, idx + 1, g', e, b1 _ _ hc ncl, h63, by omega, by omega⟩
    refine ⟨_, rfl, l, _, 2, _, rfl, rfl, SqL.of hl, atI_nat (j := 2) rfl, _, _, rfl, rfl, _, rfl, ite2 (fun hg => ?_) (fun hg => ?_)⟩
    · refine ⟨_, rfl, l, _, 2, _, rfl, rfl, SqL.of hl, atI_nat (j := 2) rfl, .inl ⟨_, rfl, _, rfl, _, _, rfl, rfl, m0, ?_⟩⟩
      refine ⟨_, rfl, l, _, 2, _, rfl, rfl, SqL.of hl, atI_nat (j := 2) rfl, .inl ⟨_, rfl, _, rfl, _, _, rfl, rfl, ⟨m0, by omega⟩, _, rfl, l, _, 2, 2, rfl, rfl, hl, rfl, _, rfl, ?_⟩⟩
      exact fin _ _ _ (Int.emod_nonneg _ (by omega)) (Int.emod_lt_of_pos _ m0) (fun b o hb hn => by rw [upd_ne hn]; exact hb) upd_same
    · refine ⟨_, rfl, l, _, 1, _, rfl, rfl, SqL.of hl, atI_nat (j := 1) rfl, ?_⟩
      refine ⟨_, rfl, _, _, rfl, rfl, _, rfl, l, _, 1, 1, rfl, rfl, hl, rfl, ?_⟩
      refine ⟨_, rfl, _, _, rfl, rfl, .inl ⟨by decide, by decide⟩, _, _, rfl, rfl, ?_⟩
      have hl1 : (upd H l (.lst [V.ref c, V.int (idx + 1), V.int g])) l = some (.lst [V.ref c, V.int (idx + 1), V.int g]) := upd_same
      have b0 : But l H (upd H l (.lst [V.ref c, V.int (idx + 1), V.int g])) := fun b o hb hn => by
        rw [upd_ne hn]
        exact hb
      refine ⟨fun σ H' => ∃ cell : Int, σ = [some (.ref l), some (.int many), none, some (.int idx), some (.int cell), none, none] ∧ But l H H' ∧ H' l = some (.lst [.ref c, .int (idx + 1), .int g]), ?_, ?_⟩
      · refine ⟨_, rfl, l, _, 0, _, rfl, rfl, SqL.of hl1, atI_nat (j := 0) rfl, by show 0 ≤ sizeLine; decide, fun p hp => ?_⟩
        have npl : l ≠ p := fun e => by
          rw [← e, upd_same] at hp
          cases hp
        have hl2 : (upd (upd H l (.lst [V.ref c, V.int (idx + 1), V.int g])) p (.lst [])) l = some (.lst [V.ref c, V.int (idx + 1), V.int g]) := by rw [upd_ne npl, upd_same]
        have b2 : But l H (upd (upd H l (.lst [V.ref c, V.int (idx + 1), V.int g])) p (.lst [])) := fun b o hb hn => by
          have e := b0 b o hb hn
          rw [upd_ne (ne_of_none e hp)]
          exact e
        have hc2 := b2 _ _ hc ncl
        have hp2 : (upd (upd H l (.lst [V.ref c, V.int (idx + 1), V.int g])) p (.lst [])) p = some (.lst []) := upd_same
        refine ⟨_, _, .lst (SqL.of hc2) (dp_ints cells), .lst (SqL.of hp2) .nil, ?_, shaped_nil, _, rfl, ?_⟩
        · exact PySem.W.shaped_ints cells
        · rw [eqv_nil]
          cases cells with
          | nil => exact ⟨_, rfl, b2, hl2⟩
          | cons x r =>
            have hn : (0 : Int) < ((List.map V.int (x :: r)).length : Nat) := by simp
            have e0 := Int.emod_nonneg idx (show ((List.map V.int (x :: r)).length : Int) ≠ 0 by omega)
            have e1 := Int.emod_lt_of_pos idx hn
            obtain ⟨j, ej⟩ : ∃ j : Nat, idx % ((List.map V.int (x :: r)).length : Nat) = (j : Int) := ⟨(idx % ((List.map V.int (x :: r)).length : Nat)).toNat, by omega⟩
            have hj : j < (x :: r).length := by
              rw [List.length_map] at e1 ej
              omega
            refine ⟨_, rfl, l, _, 0, _, rfl, rfl, SqL.of hl2, atI_nat (j := 0) rfl, _, rfl, .inl ⟨_, rfl, _, rfl, l, _, 0, _, rfl, rfl, SqL.of hl2, atI_nat (j := 0) rfl, c, _, rfl, .inl (SqL.of hc2), _, _, rfl, rfl, hn, c, _, _, V.int ((x :: r)[j]), rfl, rfl, SqL.of hc2, ?_, _, rfl, b2, hl2⟩⟩
            exact at_of (j := j) ej (by rw [List.getElem?_map, List.getElem?_eq_getElem hj]; rfl)
      · rintro σ H' ⟨cell, rfl, b3, hl3⟩
        have hc3 := b3 _ _ hc ncl
        refine ⟨fun σ H' => ∃ cell : Int, σ = [some (.ref l), some (.int many), none, some (.int idx), some (.int cell), none, none] ∧ But l H H' ∧ H' l = some (.lst [.ref c, .int (idx + 1), .int g]), ?_, ?_⟩
        · refine ⟨_, rfl, _, rfl, l, _, 0, _, rfl, rfl, SqL.of hl3, atI_nat (j := 0) rfl, c, _, rfl, .inl (SqL.of hc3), _, _, rfl, rfl, _, rfl, ite2 (fun ha => ?_) (fun ha => ?_)⟩
          · refine ⟨_, rfl, _, rfl, _, _, rfl, rfl, ⟨by decide, by decide, by decide⟩, _, _, rfl, rfl, _, rfl, ite2 (fun hb => ?_) (fun hb => ?_)⟩
            · have m2 : ∀ (gr : Int), _root_.True := fun _ => trivial
              refine ⟨_, rfl, _, rfl, _, _, rfl, rfl, ⟨by decide, by decide, by decide⟩, _, _, rfl, rfl, _, _, rfl, rfl, .inl ⟨by decide, by decide⟩, _, rfl, _, _, rfl, rfl, .inr ⟨_, rfl, _, _, rfl, rfl, ?_⟩⟩
              refine ⟨_, rfl, .inl ⟨_, rfl, _, rfl, _, _, rfl, rfl, ⟨m0, by omega⟩, _, rfl, l, _, 2, 2, rfl, rfl, hl3, rfl, _, rfl, .inl ⟨_, rfl, _, rfl, _, _, rfl, rfl, m0, ?_⟩⟩⟩
              refine fin2 _ _ _ (Int.emod_nonneg _ (by omega)) (Int.emod_lt_of_pos _ m0) (fun b o hb hn => ?_) upd_same
              rw [upd_ne hn]
              exact b3 _ _ hb hn
            · exact ⟨_, rfl, b3, hl3⟩
          · exact ⟨_, rfl, b3, hl3⟩
        · rintro σ H' ⟨cell, rfl, b3, hl3⟩
          refine ⟨_, rfl, .inl ⟨_, rfl, _, _, rfl, rfl, (by show (0 : Int) < _; decide), _, rfl, _, _, rfl, rfl, .inl ⟨by decide, by decide⟩, _, _, rfl, rfl, _, _, rfl, rfl, _, _, rfl, rfl, ⟨by decide, by decide, by omega⟩, .inl ⟨_, rfl, _, _, rfl, rfl, (by show (0 : Int) < _; decide), ?_⟩⟩⟩
          refine ⟨_, rfl, _, rfl, _, _, rfl, rfl, .inl ⟨by decide, by decide⟩, _, _, rfl, rfl, _, _, rfl, rfl, .inl ⟨by omega, by omega⟩, _, rfl, _, _, rfl, rfl, .inl ⟨by decide, by decide⟩, _, rfl, _, _, rfl, rfl, .inl ⟨by omega, by omega⟩, _, _, rfl, rfl, _, _, rfl, rfl, _, _, rfl, rfl, ⟨by decide, by decide, ?_⟩,
            .inl ⟨_, rfl, _, _, rfl, rfl, (by show (0 : Int) < _; decide), ?_⟩⟩
          · exact stir_bound (Int.emod_nonneg _ (by decide)) (Int.emod_lt_of_pos _ (by decide)) i0 (by omega) (by decide) (by decide) (by decide) (by decide) (by decide) (by decide)
          · refine ⟨_, rfl, _, _, rfl, rfl, ⟨by decide, by decide⟩, .inl ⟨_, rfl, _, rfl, _, _, rfl, rfl, m0, ?_⟩⟩
            exact fin2 _ _ _ (Int.emod_nonneg _ (by omega)) (Int.emod_lt_of_pos _ m0) b3 hl3
theorem scPick : FnScope ["_law_pen_here", "_law_some"] ["_law_pen_here", "_law_some"] (defScope sPick) := ⟨rfl, rfl, rfl, by decide +kernel, rfl, by decide +kernel, by decide +kernel⟩
theorem ok_pick {fD : Addr} {fdD : FuncData} (F : Fun K "_law_pick" "_law_pick" sPick f fd) (T : BT mg) (FD : Fun K "_law_draw" "_law_draw" sDraw fD fdD) (bD : Binds K fdD ["_law_pen_here", "_law_many"] []) (mD : mg "_law_draw" = some (.ref fD)) :
    FnOk P w K mg base CX0 2 f fd ["_law_pen_here", "_law_some"] spPick := by
  have GD : FnOk P w K mg base CX0 1 fD fdD ["_law_pen_here", "_law_many"] spDraw := ok_draw FD T
  refine F.ok scPick (fun vs H Q E h => ?_) (fun cdv A outer s H vs Q E hr h => ?_)
  · obtain ⟨l, c, m, xs, k, rfl, _⟩ := h
    rfl
  · obtain ⟨l, c, m, xs, k, rfl, PN, hk, hm, nml, x0, x1, q⟩ := h
    refine ⟨_, pss_one (ps_ret (pe_ix ix_list (pv 1) (pe_call GD hr (by rfl) mD FD.kp bD .nil pass0 (pa_cons (pv 0) (pa_cons (pe_callB call_len_seq (by rfl) T.len PySem.boot_len (pa_cons (pv 1) pa_nil)) pa_nil))) (fun _ _ => rfl))), ?_⟩
    refine ⟨_, rfl, _, rfl, _, rfl, m, _, rfl, .inl (SqL.of hm), l, c, _, k, rfl, PN, hk, by omega, by omega, fun r H' r0 r1 b1 p1 => ?_⟩
    obtain ⟨j, rfl⟩ : ∃ j : Nat, r = (j : Int) := ⟨r.toNat, by omega⟩
    have hj : j < xs.length := by omega
    exact ⟨m, xs, j, xs[j], rfl, rfl, SqL.of (b1 _ _ hm nml), atI_nat (List.getElem?_eq_getElem hj), q j _ H' (List.getElem?_eq_getElem hj) b1 p1⟩
end
end Pl

namespace Pl
open PySem L2 Own TL RZ
/-! ### str, repr -/
abbrev sStr : Stmt := inClass sPlace 13
abbrev sRepr : Stmt := inClass sPlace 14
theorem mem_joinL : ∀ (ps : List (List Nat)) (c : Nat), c ∈ joinL [47] ps → c = 47 ∨ ∃ p ∈ ps, c ∈ p
  | [], c, h => by cases h
  | [p], c, h => .inr ⟨p, List.mem_cons_self, h⟩
  | p :: q :: r, c, h => by
    have h : c ∈ p ++ ([47] ++ joinL [47] (q :: r)) := h
    rcases List.mem_append.mp h with h | h
    · exact .inr ⟨p, List.mem_cons_self, h⟩
    rcases List.mem_append.mp h with h | h
    · exact .inl (List.mem_singleton.mp h)
    · rcases mem_joinL (q :: r) c h with z | ⟨x, hx, hc⟩
      · exact .inl z
      · exact .inr ⟨x, List.mem_cons_of_mem _ hx, hc⟩
theorem okN_signs {s : Str} (h : okN s = true) : ∀ c ∈ tl s, c ∈ tl SIGNS := by
  unfold okN at h
  simp only [Bool.and_eq_true, decide_eq_true_eq, List.all_eq_true] at h
  intro c hc
  have z := h.2 c (by simpa [tl] using hc)
  simpa [tl] using z
theorem txt_signs {ns : List Str} (hn : Nms ns) : ∀ c ∈ tl (txt ns), c = 47 ∨ c ∈ tl SIGNS := by
  intro c hc
  rw [tl_txt] at hc
  rcases List.mem_cons.mp hc with h | h
  · exact .inl h
  · rcases mem_joinL _ _ h with z | ⟨p, hp, hc⟩
    · exact .inl z
    · obtain ⟨n, hm, rfl⟩ := List.mem_map.mp hp
      exact .inr (okN_signs (hn.2 n hm) c hc)
theorem txt_low {ns : List Str} (hn : Nms ns) : ∀ c ∈ (txt ns).cps.toList, c < 16 ^ 8 := by
  intro c hc
  have a : ∀ c ∈ tl SIGNS, c < 16 ^ 8 := by decide +kernel
  rcases txt_signs hn c (by simpa [tl] using hc) with z | z
  · rw [z]
    decide
  · exact a c z
def rtx (ns : List Str) : Str := reprText (txt ns)
theorem rtx_len {ns : List Str} (hn : Nms ns) : (rtx ns).length ≤ 1002 := by
  have a := StrLaws.reprText_len (txt ns) (txt_low hn)
  have b := txt_len hn
  show (reprText (txt ns)).length ≤ 1002
  omega
def shown (ns : List Str) : Str := Str.empty ++ ("Place(" : Str) ++ rtx ns ++ (")" : Str)
theorem shown_len {ns : List Str} (hn : Nms ns) : (shown ns).length ≤ 1100 := by
  have a := rtx_len hn
  unfold shown
  rw [strLen_append, strLen_append, strLen_append]
  have e1 : (Str.empty).length = 0 := rfl
  have e2 : ("Place(" : Str).length = 6 := by decide +kernel
  have e3 : (")" : Str).length = 1 := by decide +kernel
  omega
def spStr (C : Addr) : Sp := fun vs H Q _ => ∃ p ns, vs = [.ref p] ∧ PlA C H p ns ∧ Nms ns ∧ Q (.str (txt ns)) H
def spRepr (C : Addr) : Sp := fun vs H Q _ => ∃ p ns, vs = [.ref p] ∧ PlA C H p ns ∧ Nms ns ∧ Q (.str (shown ns)) H
section
variable {P : Program} {w : World} {K : PySem.W.Frag} {mg : Str → Option Value} {base : Heap} {f C : Addr} {mc : Value} {fd : FuncData}
theorem scStr : FnScope ["self"] ["self"] (defScope sStr) := ⟨rfl, rfl, rfl, by decide +kernel, rfl, by decide +kernel, by decide +kernel⟩
theorem ok_strP {gT pT : Addr} {fdT : FuncData} (F : Fun K "__str__" "Place.__str__" sStr f fd) (U : CT K mg C mc) (GT_ : FnOk P w K mg base CX0 1 gT fdT ["self"] (spText C)) (bT : Binds K fdT ["self"] []) (hp : PropOf K C "text" pT gT) :
    FnOk P w K mg base CX0 3 f fd ["self"] (spStr C) := by
  refine F.ok scStr (fun vs H Q E h => ?_) (fun cdv A outer s H vs Q E hr h => ?_)
  · obtain ⟨p, ns, rfl, _⟩ := h
    rfl
  · obtain ⟨p, ns, rfl, Pa, hn, q⟩ := h
    obtain ⟨dx, t, h1, h2⟩ := id Pa
    refine ⟨_, pss_one (ps_ret (pe_fs1 (pe_fmt (pe_prop (pv 0) U.cl hp GT_ hr bT .nil pass0 rfl)))), ?_⟩
    exact ⟨_, rfl, p, dx, _, rfl, h1, p, ns, rfl, Pa, hn, .inl ⟨_, rfl, Nat.le_trans (txt_len hn) (by decide), q⟩⟩
theorem scRepr : FnScope ["self"] ["self"] (defScope sRepr) := ⟨rfl, rfl, rfl, by decide +kernel, rfl, by decide +kernel, by decide +kernel⟩
theorem ok_reprP {gT pT : Addr} {fdT : FuncData} (F : Fun K "__repr__" "Place.__repr__" sRepr f fd) (U : CT K mg C mc) (GT_ : FnOk P w K mg base CX0 1 gT fdT ["self"] (spText C)) (bT : Binds K fdT ["self"] []) (hp : PropOf K C "text" pT gT) :
    FnOk P w K mg base CX0 3 f fd ["self"] (spRepr C) := by
  refine F.ok scRepr (fun vs H Q E h => ?_) (fun cdv A outer s H vs Q E hr h => ?_)
  · obtain ⟨p, ns, rfl, _⟩ := h
    rfl
  · obtain ⟨p, ns, rfl, Pa, hn, q⟩ := h
    obtain ⟨dx, t, h1, h2⟩ := id Pa
    have a := rtx_len hn
    have b := shown_len hn
    refine ⟨_, pss_one (ps_ret (pe_joined (.cons pe_str (.cons (pe_fmtR (pe_prop (pv 0) U.cl hp GT_ hr bT .nil pass0 rfl)) (.cons pe_str .nil))))), ?_⟩
    refine ⟨_, rfl, by decide +kernel, _, rfl, p, dx, _, rfl, h1, p, ns, rfl, Pa, hn, .inl ⟨_, rfl, Nat.le_trans a (by decide), _, rfl, ?_, _, rfl, Nat.le_trans b (by decide), q⟩⟩
    have e1 : (Str.empty ++ ("Place(" : Str)).length = 6 := by decide +kernel
    rw [strLen_append, e1]
    have : (2000 : Nat) ≤ sizeLine := by decide
    show 6 + (rtx ns).length ≤ sizeLine
    omega
end
end Pl

namespace Pl
open PySem L2 Own TL RZ
/-! ### what is no name, no place -/
abbrev sIniN : Stmt := inClass (top 3) 0
abbrev sIniP : Stmt := inClass (top 4) 0
abbrev sIniM : Stmt := inClass (top 9) 0
/-- a thing of another kind -/
def Fo (K : PySem.W.Frag) (C : Addr) (H : Hp) (x : V) : Prop := ∃ t, TyX K H x t ∧ PySem.W.kitOne K t (.ref C) = some false
/-- its kind is known, also later -/
def Kd (K : PySem.W.Frag) (H : Hp) (x : V) (t : Value) : Prop := ∀ H', Same H H' → TyX K H' x t
def NoNm (K : PySem.W.Frag) (H : Hp) (x : V) : Prop := isNm x = false ∧ ((∃ s, x = .str s ∧ s.length ≤ 1000000) ∨ ∃ t, Kd K H x t ∧ PySem.W.kitOne K t (.type "str") = some false)
def NoPT (K : PySem.W.Frag) (C : Addr) (H : Hp) (x : V) : Prop := isPTv x = false ∧ ((∃ s, x = .str s ∧ s.length ≤ 1000000) ∨ ∃ t, Kd K H x t ∧ PySem.W.kitOne K t (.type "str") = some false ∧ PySem.W.kitOne K t (.ref C) = some false)
theorem Kd.mono {K : PySem.W.Frag} {H H' : Hp} {x : V} {t : Value} (k : Kd K H x t) (s : Same H H') : Kd K H' x t := fun H2 s2 => k H2 (s.trans s2)
theorem NoNm.mono {K : PySem.W.Frag} {H H' : Hp} {x : V} (k : NoNm K H x) (s : Same H H') : NoNm K H' x := by
  obtain ⟨a, b | ⟨t, c, d⟩⟩ := k
  · exact ⟨a, .inl b⟩
  · exact ⟨a, .inr ⟨t, c.mono s, d⟩⟩
theorem NoPT.mono {K : PySem.W.Frag} {C : Addr} {H H' : Hp} {x : V} (k : NoPT K C H x) (s : Same H H') : NoPT K C H' x := by
  obtain ⟨a, b | ⟨t, c, d⟩⟩ := k
  · exact ⟨a, .inl b⟩
  · exact ⟨a, .inr ⟨t, c.mono s, d⟩⟩
theorem m_size {n : Nat} (h : n ≤ 1000000) : n ≤ sizeLine := Nat.le_trans h (by decide)
/-! ### promises -/
def spInitN (K : PySem.W.Frag) (C CN : Addr) : Sp := fun vs H _ E => ∃ (p dx t : Addr) (ns : List Str) (x : V), vs = [.ref p, .ref t] ∧ H p = some (.ins C dx []) ∧ H t = some (.tup (ns.map V.str ++ [x])) ∧ ns.length ≤ 8 ∧ (∀ n ∈ ns, okN n = true) ∧ NoNm K H x ∧
  ∀ d H', Same H H' → H' d = some (.xd [("value", x)]) → E (.ref CN) (some d) H'
def spMkN (K : PySem.W.Frag) (C CN : Addr) : Sp := fun vs H Q E => ∃ v rest, vs = v :: rest ∧ rest.length ≤ 10 ∧ ∀ p, H p = none → spInitN K C CN [v, .ref p] (upd H p (.tup rest)) Q E
def spInitM (C CM : Addr) : Sp := fun vs H _ E => ∃ (p dx t : Addr) (ns : List Str), vs = [.ref p, .ref t] ∧ H p = some (.ins C dx []) ∧ H t = some (.tup (ns.map V.str)) ∧ 8 < ns.length ∧ (∀ n ∈ ns, okN n = true) ∧
  ∀ d H', Same H H' → H' d = some (.xd [("most", .int 8)]) → E (.ref CM) (some d) H'
def spMkM (C CM : Addr) : Sp := fun vs H Q E => ∃ v rest, vs = v :: rest ∧ rest.length ≤ 10 ∧ ∀ p, H p = none → spInitM C CM [v, .ref p] (upd H p (.tup rest)) Q E
def spAddN (K : PySem.W.Frag) (C CN : Addr) : Sp := fun vs H _ E => ∃ p ns x, vs = [.ref p, x] ∧ PlA C H p ns ∧ Nms ns ∧ NoNm K H x ∧ ∀ d H', Same H H' → H' d = some (.xd [("value", x)]) → E (.ref CN) (some d) H'
def spAddM (C CM : Addr) : Sp := fun vs H _ E => ∃ p ns s, vs = [.ref p, .str s] ∧ PlA C H p ns ∧ Nms ns ∧ ns.length = 8 ∧ okN s = true ∧ ∀ d H', Same H H' → H' d = some (.xd [("most", .int 8)]) → E (.ref CM) (some d) H'
def spAndF (K : PySem.W.Frag) (C CB : Addr) : Sp := fun vs H _ E => ∃ p x, vs = [.ref p, x] ∧ Fo K C H x ∧ ∀ d, H d = none → E (.ref CB) (some d) (upd H d (.xd [("value", x)]))
def spIsPlaceT : Sp := fun vs H Q _ => ∃ ms, vs = [.str (txt ms)] ∧ Nms ms ∧ ∀ H', Same H H' → Q (.bl true) H'
def spIsPlaceN (K : PySem.W.Frag) (C : Addr) : Sp := fun vs H Q _ => ∃ x, vs = [x] ∧ NoPT K C H x ∧ ∀ H', Same H H' → Q (.bl false) H'
def spOfT (C : Addr) : Sp := fun vs H Q _ => ∃ ms, vs = [.str (txt ms)] ∧ Nms ms ∧ ∀ q H', Same H H' → PlA C H' q ms → Q (.ref q) H'
def spContT (C : Addr) : Sp := fun vs H Q _ => ∃ p ns ms, vs = [.ref p, .str (txt ms)] ∧ PlA C H p ns ∧ Nms ns ∧ Nms ms ∧ ∀ H', Same H H' → Q (.bl (decide (ms.take ns.length = ns))) H'
def spContN (K : PySem.W.Frag) (C : Addr) : Sp := fun vs H Q _ => ∃ p x, vs = [.ref p, x] ∧ NoPT K C H x ∧ ∀ H', Same H H' → Q (.bl false) H'
section
variable {P : Program} {w : World} {K : PySem.W.Frag} {mg : Str → Option Value} {base : Heap} {f C : Addr} {mc : Value} {fd : FuncData}
theorem scIniN : FnScope ["self", "value"] ["self", "value"] (defScope sIniN) := ⟨rfl, rfl, rfl, by decide +kernel, rfl, by decide +kernel, by decide +kernel⟩
theorem scIniP : FnScope ["self", "value"] ["self", "value"] (defScope sIniP) := ⟨rfl, rfl, rfl, by decide +kernel, rfl, by decide +kernel, by decide +kernel⟩
theorem scIniM : FnScope ["self", "most"] ["self", "most"] (defScope sIniM) := ⟨rfl, rfl, rfl, by decide +kernel, rfl, by decide +kernel, by decide +kernel⟩
/-- three new things beside what was there -/
theorem same3 {H : Hp} {x dx t : Addr} {o1 o2 o3 : HO} (hx : H x = none) (hdx : H dx = none) (ht : upd (upd H dx o1) x o2 t = none) : Same H (upd (upd (upd H dx o1) x o2) t o3) := fun b o hb => by
  have n1 := ne_of_none hb hx
  have n2 := ne_of_none hb hdx
  have e : upd (upd H dx o1) x o2 b = some o := by rw [upd_ne n1, upd_ne n2]; exact hb
  rw [upd_ne (ne_of_none e ht)]
  exact e
theorem make_okN {CN : Addr} {H1 : Hp} {Q : VK} {E : XK} {ns : List Str} {z : V} (hn : Nms ns) (hz : NoNm K H1 z) (k : ∀ d H', Same H1 H' → H' d = some (.xd [("value", z)]) → E (.ref CN) (some d) H') :
    ∀ x dx, H1 x = none → H1 dx = none → dx ≠ x → spMkN K C CN (V.ref x :: (ns.map V.str ++ [z])) (upd (upd H1 dx (.own x)) x (.ins C dx [])) (fun v H2 => v = .non ∧ Q (.ref x) H2) E := by
  intro x dx hx hdx hne
  refine ⟨_, _, rfl, by rw [List.length_append, List.length_map, List.length_singleton]; have := hn.1; omega, fun t ht => ?_⟩
  have s := same3 (o3 := .tup (ns.map V.str ++ [z])) hx hdx ht
  have ntx : x ≠ t := fun e => by
    rw [← e, upd_same] at ht
    cases ht
  exact ⟨x, dx, t, ns, z, rfl, by rw [upd_ne ntx]; exact upd_same, upd_same, hn.1, hn.2, hz.mono s, fun d H' s' e => k d H' (s.trans s') e⟩
theorem make_okM {CM : Addr} {H1 : Hp} {Q : VK} {E : XK} {ns : List Str} (h8 : 8 < ns.length) (h9 : ns.length ≤ 10) (hn : ∀ n ∈ ns, okN n = true) (k : ∀ d H', Same H1 H' → H' d = some (.xd [("most", .int 8)]) → E (.ref CM) (some d) H') :
    ∀ x dx, H1 x = none → H1 dx = none → dx ≠ x → spMkM C CM (V.ref x :: ns.map V.str) (upd (upd H1 dx (.own x)) x (.ins C dx [])) (fun v H2 => v = .non ∧ Q (.ref x) H2) E := by
  intro x dx hx hdx hne
  refine ⟨_, _, rfl, by rw [List.length_map]; exact h9, fun t ht => ?_⟩
  have s := same3 (o3 := .tup (ns.map V.str)) hx hdx ht
  have ntx : x ≠ t := fun e => by
    rw [← e, upd_same] at ht
    cases ht
  exact ⟨x, dx, t, ns, rfl, by rw [upd_ne ntx]; exact upd_same, upd_same, h8, hn, fun d H' s' e => k d H' (s.trans s') e⟩
theorem init_binds {kV doc pm cdv ct : Value} {an : Option Addr} (u : Value) (rest : List Value) (hl : rest.length ≤ 10) : bindArgs (PySem.W.fnOf "__init__" "Place.__init__" (defArgs sInit) (defBody sInit) (defScope sInit) .none kV doc pm an cdv ct) ⟨u :: rest, []⟩ = (newTuple rest >>= fun t => pure [(("self" : Str), u), (("names" : Str), t)]) :=
  match rest, hl with
  | [], _ => rfl
  | [_], _ => rfl
  | [_, _], _ => rfl
  | [_, _, _], _ => rfl
  | [_, _, _, _], _ => rfl
  | [_, _, _, _, _], _ => rfl
  | [_, _, _, _, _, _], _ => rfl
  | [_, _, _, _, _, _, _], _ => rfl
  | [_, _, _, _, _, _, _, _], _ => rfl
  | [_, _, _, _, _, _, _, _, _], _ => rfl
  | [_, _, _, _, _, _, _, _, _, _], _ => rfl
  | _ :: _ :: _ :: _ :: _ :: _ :: _ :: _ :: _ :: _ :: _ :: r, h => absurd h (by simp only [List.length_cons]; omega)
theorem ok_initN {fN CN fI : Addr} {fdN fdI : FuncData} (F : Fun K "__init__" "Place.__init__" sInit f fd) (T : GT mg) (FN : Fun K "is_name" "is_name" sIsName fN fdN) (bN : Binds K fdN ["value"] []) (mN : mg "is_name" = some (.ref fN))
    (EN : Er K mg "BadName" "BadName.__init__" "value" sIniN CN fI fdI) : FnR P w K mg base (L2.CX P w) 3 f (spMkN K C CN) := by
  have GN : FnOk P w K mg base CX0 1 fN fdN ["value"] (spIsName K) := ok_isName FN T
  have GI : FnOk P w K mg base CX0 1 fI fdI ["self", "value"] (spErr CN "value") := ok_err EN scIniN rfl (by decide +kernel) (by decide +kernel)
  obtain ⟨oc, od, kV, doc, pm, an, cdv, ct, osl, rfl, lk, hcd⟩ := F.ex
  refine fn_ofV (nmax := 10) (sp := spInitN K C CN) lk hcd scInit (by decide) init_binds (cxnew P w) (fun A outer s H vs Q E hr h => ?_)
  obtain ⟨p, dx, t, ns, x, rfl, hp, ht, hl, hn, ⟨nx, kx⟩, k⟩ := h
  refine ⟨_, pss_cons (ps_for (passes_of rfl) rfl (pi_tup (pv 1)) (pg_name (i := 2) scInit.nd rfl (Or.inl rfl))
      (pss_one (ps_if (pt_not (pt_val (pe_call GN (hr.mono (by decide)) (by rfl) mN FN.kp bN .nil pass0 (pa_cons (pv 2) pa_nil)))) (pss_one (ps_raise1 rfl EN GI hr (takes_of rfl rfl rfl rfl) (by rfl) (pa_cons (pv 2) pa_nil))) pss_nil)))
    pss_never, ?_⟩
  refine ⟨_, rfl, t, rfl, ⟨_, SqT.of ht⟩, for_it walk_tup (fun i σ H' => Same H H' ∧ i ≤ ns.length ∧ ∃ v, σ = [some (.ref p), some (.ref t), v]) ⟨Same.refl H, Nat.zero_le _, none, rfl⟩ (fun i σ H' _ e => SqT.of (e.1 _ _ ht)) (fun i x' σ H1 H2 hi e y => ?_) (fun σ H1 e => ?_)⟩
  · obtain ⟨s1, hle, v, rfl⟩ := e
    obtain ⟨rfl, hx⟩ := y
    rcases Nat.lt_or_eq_of_le hle with hlt | rfl
    · rw [List.getElem?_append_left (by rw [List.length_map]; exact hlt), List.getElem?_map] at hx
      obtain ⟨n, hn1, rfl⟩ := Option.map_eq_some_iff.mp hx
      have on := hn n (List.mem_of_getElem? hn1)
      refine ⟨_, rfl, _, rfl, .inl ⟨n, rfl, Nat.le_trans (okN_len on).2 (by decide)⟩, fun H' s2 => ⟨_, rfl, ?_⟩⟩
      rw [show isNm (V.str n) = true from on]
      exact ⟨s1.trans s2, hlt, _, rfl⟩
    · have e : x' = x := by
        rw [List.getElem?_append_right (by rw [List.length_map]; exact Nat.le_refl _), List.length_map, Nat.sub_self] at hx
        exact (Option.some.inj hx).symm
      subst e
      refine ⟨_, rfl, _, rfl, ?_, fun H' s2 => ⟨_, rfl, ?_⟩⟩
      · rcases kx with ⟨y, e, h⟩ | ⟨ty, h, kt⟩
        · exact .inl ⟨y, e, m_size h⟩
        · exact .inr ⟨ty, h _ s1, kt, nx⟩
      · rw [nx]
        refine iteT ⟨_, rfl, mk1 fun d hd => k d _ (fun b o hb => ?_) upd_same⟩
        have z := s2 _ _ (s1 _ _ hb)
        rw [upd_ne (ne_of_none z hd)]
        exact z
  · obtain ⟨_, hle, _⟩ := e
    rw [List.length_append, List.length_map, List.length_singleton] at hle
    exact absurd hle (by omega)
theorem ok_initM {fN CM fI : Addr} {fdN fdI : FuncData} (F : Fun K "__init__" "Place.__init__" sInit f fd) (T : GT mg) (U : CT K mg C mc) (FN : Fun K "is_name" "is_name" sIsName fN fdN) (bN : Binds K fdN ["value"] []) (mN : mg "is_name" = some (.ref fN))
    (EM : Er K mg "TooMany" "TooMany.__init__" "most" sIniM CM fI fdI) : FnR P w K mg base (L2.CX P w) 3 f (spMkM C CM) := by
  have GN : FnOk P w K mg base CX0 1 fN fdN ["value"] (spIsName K) := ok_isName FN T
  have GI : FnOk P w K mg base CX0 1 fI fdI ["self", "most"] (spErr CM "most") := ok_err EM scIniM rfl (by decide +kernel) (by decide +kernel)
  obtain ⟨oc, od, kV, doc, pm, an, cdv, ct, osl, rfl, lk, hcd⟩ := F.ex
  refine fn_ofV (nmax := 10) (sp := spInitM C CM) lk hcd scInit (by decide) init_binds (cxnew P w) (fun A outer s H vs Q E hr h => ?_)
  obtain ⟨p, dx, t, ns, rfl, hp, ht, h8, hn, k⟩ := h
  obtain ⟨um, cm⟩ := U.most2
  refine ⟨_, pss_cons (ps_for (passes_of rfl) rfl (pi_tup (pv 1)) (pg_name (i := 2) scInit.nd rfl (Or.inl rfl))
      (pss_one (ps_if (pt_not (pt_val (pe_call GN (hr.mono (by decide)) (by rfl) mN FN.kp bN .nil pass0 (pa_cons (pv 2) pa_nil)))) (pss_one ps_never) pss_nil)))
    (pss_cons (ps_if (pt_cmpR op_gt (pe_callB call_len_seq (by rfl) T.b.len PySem.boot_len (pa_cons (pv 1) pa_nil)) (pe_con (pv 0) rfl) (nomark _))
      (pss_one (ps_raise1 rfl EM GI hr (takes_of rfl rfl rfl rfl) (by rfl) (pa_cons (pe_con (pv 0) rfl) pa_nil))) pss_nil) pss_never), ?_⟩
  refine ⟨_, rfl, t, rfl, ⟨_, SqT.of ht⟩, for_it walk_tup (fun i σ H' => Same H H' ∧ ∃ v, σ = [some (.ref p), some (.ref t), v]) ⟨Same.refl H, none, rfl⟩ (fun i σ H' _ e => SqT.of (e.1 _ _ ht)) (fun i x σ H1 H2 hi e y => ?_) (fun σ H1 e => ?_)⟩
  · obtain ⟨s1, v, rfl⟩ := e
    obtain ⟨rfl, hx⟩ := y
    rw [List.getElem?_map] at hx
    obtain ⟨n, hn1, rfl⟩ := Option.map_eq_some_iff.mp hx
    have on := hn n (List.mem_of_getElem? hn1)
    refine ⟨_, rfl, _, rfl, .inl ⟨n, rfl, Nat.le_trans (okN_len on).2 (by decide)⟩, fun H' s2 => ⟨_, rfl, ?_⟩⟩
    rw [show isNm (V.str n) = true from on]
    exact ⟨s1.trans s2, _, rfl⟩
  · obtain ⟨s1, v, rfl⟩ := e
    refine ⟨_, rfl, t, _, rfl, .inr (SqT.of (s1 _ _ ht)), _, rfl, p, C, dx, [], .int 8, um, rfl, s1 _ _ hp, U.cl, cm, rfl, _, _, rfl, rfl, _, rfl, ?_⟩
    refine ite2 (fun _ => ?_) (fun h => ?_)
    · refine ⟨_, rfl, p, C, dx, [], .int 8, um, rfl, s1 _ _ hp, U.cl, cm, rfl, mk1 fun d hd => k d _ (fun b o hb => ?_) upd_same⟩
      have z := s1 _ _ hb
      rw [upd_ne (ne_of_none z hd)]
      exact z
    · simp only [decide_eq_true_eq, List.length_map] at h
      exact absurd h (by omega)
theorem ok_addN {fP CN : Addr} (F : Fun K "__add__" "Place.__add__" sAdd f fd) (U : CT K mg C mc) (M : Mk K C fP) (GM : FnR P w K mg base (L2.CX P w) 3 fP (spMkN K C CN)) : FnOk P w K mg base (L2.CX P w) 5 f fd ["self", "other"] (spAddN K C CN) := by
  refine F.okX scAdd (fun vs H Q E h => ?_) (fun cdv A outer s H vs Q E hr h => ?_)
  · obtain ⟨p, ns, x, rfl, _⟩ := h
    rfl
  · obtain ⟨p, ns, x, rfl, ⟨dx, t, hp, ht⟩, hn, hx, k⟩ := h
    refine ⟨_, pss_one (ps_ret (pe_makeS1 M GM hr (by rfl) U.mgC (passes_call (takes_of rfl rfl rfl rfl) fun _ _ _ _ h => h) (StX.pa_star (pe_fld (pv 0) rfl) (pa_cons (pv 1) pa_nil)))), ?_⟩
    exact ⟨_, rfl, p, C, dx, _, _, rfl, hp, U.cl, U.nN, pf_at _, t, _, rfl, .inl (SqT.of ht), _, rfl, make_okN hn hx k⟩
theorem ok_addM {fP CM : Addr} (F : Fun K "__add__" "Place.__add__" sAdd f fd) (U : CT K mg C mc) (M : Mk K C fP) (GM : FnR P w K mg base (L2.CX P w) 3 fP (spMkM C CM)) : FnOk P w K mg base (L2.CX P w) 5 f fd ["self", "other"] (spAddM C CM) := by
  refine F.okX scAdd (fun vs H Q E h => ?_) (fun cdv A outer s H vs Q E hr h => ?_)
  · obtain ⟨p, ns, x, rfl, _⟩ := h
    rfl
  · obtain ⟨p, ns, x, rfl, ⟨dx, t, hp, ht⟩, hn, h8, ox, k⟩ := h
    refine ⟨_, pss_one (ps_ret (pe_makeS1 M GM hr (by rfl) U.mgC (passes_call (takes_of rfl rfl rfl rfl) fun _ _ _ _ h => h) (StX.pa_star (pe_fld (pv 0) rfl) (pa_cons (pv 1) pa_nil)))), ?_⟩
    refine ⟨_, rfl, p, C, dx, _, _, rfl, hp, U.cl, U.nN, pf_at _, t, _, rfl, .inl (SqT.of ht), _, rfl, ?_⟩
    have e : ns.map V.str ++ [V.str x] = (ns ++ [x]).map V.str := by rw [List.map_append]; rfl
    have hl : (ns ++ [x]).length = 9 := by rw [List.length_append, List.length_singleton, h8]
    have z := make_okM (C := C) (H1 := H) (Q := Q) (E := E) (ns := ns ++ [x]) (by omega) (by omega) (fun n hm => by
      rcases List.mem_append.mp hm with h | h
      · exact hn.2 n h
      · rw [List.mem_singleton.mp h]
        exact ox) k
    rw [← e] at z
    exact z
theorem ok_andF {CB fI : Addr} {fdI : FuncData} (F : Fun K "__and__" "Place.__and__" sAnd f fd) (T : BT mg) (U : CT K mg C mc) (TB : Er K mg "BadPlace" "BadPlace.__init__" "value" sIniP CB fI fdI) :
    FnOk P w K mg base (L2.CX P w) 3 f fd ["self", "other"] (spAndF K C CB) := by
  have GI : FnOk P w K mg base CX0 1 fI fdI ["self", "value"] (spErr CB "value") := ok_err TB scIniP rfl (by decide +kernel) (by decide +kernel)
  refine F.okX scAnd (fun vs H Q E h => ?_) (fun cdv A outer s H vs Q E hr h => ?_)
  · obtain ⟨p, x, rfl, _⟩ := h
    rfl
  · obtain ⟨p, x, rfl, ⟨t, ty, kt⟩, k⟩ := h
    refine ⟨_, pss_cons (ps_if (pt_not (pt_val (pe_callB call_isi (by rfl) T.isi (by decide +kernel) (pa_cons (pv 1) (pa_cons (pe_glob (v := .ref C) (by rfl) U.mgC rfl) pa_nil)))))
        (pss_one (ps_raise1 rfl TB GI hr (takes_of rfl rfl rfl rfl) (by rfl) (pa_cons (pv 1) pa_nil))) pss_nil)
      pss_never, ?_⟩
    refine ⟨_, rfl, _, _, _, _, false, rfl, .own C, ty, kt, false, rfl, ?_⟩
    refine iteT ?_
    exact ⟨_, rfl, mk1 k⟩
theorem ok_isPlaceT {fT : Addr} {fdT : FuncData} (F : Fun K "is_place" "is_place" sIsPlace f fd) (T : GT mg) (U : CT K mg C mc) (GT_ : FnOk P w K mg base CX0 2 fT fdT ["value"] (spPText K)) (kT : PySem.W.keepIn K (.ref fT) = true) (bT : Binds K fdT ["value"] []) (mT : mg "is_place_text" = some (.ref fT)) :
    FnOk P w K mg base CX0 3 f fd ["value"] spIsPlaceT := by
  refine F.ok scIsPlace (fun vs H Q E h => ?_) (fun cdv A outer s H vs Q E hr h => ?_)
  · obtain ⟨ms, rfl, _⟩ := h
    rfl
  · obtain ⟨ms, rfl, hn, q⟩ := h
    refine ⟨_, pss_one (ps_ret (pe_or (pe_callB call_isi (by rfl) T.b.isi (by decide +kernel) (pa_cons (pv 0) (pa_cons (pe_glob (v := .ref C) (by rfl) U.mgC rfl) pa_nil)))
      (pe_one (pe_call GT_ hr (by rfl) mT kT bT .nil pass0 (pa_cons (pv 0) pa_nil))))), ?_⟩
    refine ⟨_, rfl, _, _, _, _, false, rfl, .own C, .base (.str _), U.kS, false, rfl, ?_⟩
    refine iteF ⟨_, rfl, _, rfl, .inl ⟨_, rfl, Nat.le_trans (txt_len hn) (by decide)⟩, fun H' s1 => ?_⟩
    rw [show isPTv (.str (txt ms)) = true from isPT_txt hn]
    exact q H' s1
theorem ok_isPlaceN {fT : Addr} {fdT : FuncData} (F : Fun K "is_place" "is_place" sIsPlace f fd) (T : GT mg) (U : CT K mg C mc) (GT_ : FnOk P w K mg base CX0 2 fT fdT ["value"] (spPText K)) (kT : PySem.W.keepIn K (.ref fT) = true) (bT : Binds K fdT ["value"] []) (mT : mg "is_place_text" = some (.ref fT)) :
    FnOk P w K mg base CX0 3 f fd ["value"] (spIsPlaceN K C) := by
  refine F.ok scIsPlace (fun vs H Q E h => ?_) (fun cdv A outer s H vs Q E hr h => ?_)
  · obtain ⟨x, rfl, _⟩ := h
    rfl
  · obtain ⟨x, rfl, ⟨nx, kx⟩, q⟩ := h
    refine ⟨_, pss_one (ps_ret (pe_or (pe_callB call_isi (by rfl) T.b.isi (by decide +kernel) (pa_cons (pv 0) (pa_cons (pe_glob (v := .ref C) (by rfl) U.mgC rfl) pa_nil)))
      (pe_one (pe_call GT_ hr (by rfl) mT kT bT .nil pass0 (pa_cons (pv 0) pa_nil))))), ?_⟩
    have fin : ∀ H', Same H H' → Q (.bl (isPTv x)) H' := fun H' s1 => by
      rw [nx]
      exact q H' s1
    rcases kx with ⟨y, rfl, h⟩ | ⟨t, ty, k1, k2⟩
    · exact ⟨_, rfl, _, _, _, _, false, rfl, .own C, .base (.str _), U.kS, false, rfl, iteF ⟨_, rfl, _, rfl, .inl ⟨_, rfl, h⟩, fin⟩⟩
    · exact ⟨_, rfl, _, _, _, _, false, rfl, .own C, ty H (Same.refl H), k2, false, rfl, iteF ⟨_, rfl, _, rfl, .inr ⟨t, ty H (Same.refl H), k1, nx⟩, fin⟩⟩
theorem ok_ofT {fR pR : Addr} (F : Fun K "of" "Place.of" sOf f fd) (T : GT mg) (U : CT K mg C mc) (MR : ClX.CMet K C mc "read" pR fR) (GR : FnR P w K mg base CX0 4 fR (spRead C)) : FnOk P w K mg base CX0 5 f fd ["value"] (spOfT C) := by
  refine F.ok scOf (fun vs H Q E h => ?_) (fun cdv A outer s H vs Q E hr h => ?_)
  · obtain ⟨ms, rfl, _⟩ := h
    rfl
  · obtain ⟨ms, rfl, hn, q⟩ := h
    refine ⟨_, pss_cons (ps_if (pt_val (pe_callB call_isi (by rfl) T.b.isi (by decide +kernel) (pa_cons (pv 0) (pa_cons (pe_glob (v := .ref C) (by rfl) U.mgC rfl) pa_nil)))) (pss_one (ps_ret (pv 0))) pss_nil)
      (pss_one (ps_ret (ClX.pe_cmeth (pe_glob (v := .ref C) (by rfl) U.mgC rfl) U.rd MR GR hr pass0 (pa_cons (pv 0) pa_nil)))), ?_⟩
    refine ⟨_, rfl, _, _, _, _, false, rfl, .own C, .base (.str _), U.kS, false, rfl, ?_⟩
    exact iteF ⟨rfl, _, rfl, ms, rfl, hn, q⟩
/-- the names of a place, cut and compared -/
theorem ok_contT {fI fO pO fn pn : Addr} {fdI fdn : FuncData} (F : Fun K "__contains__" "Place.__contains__" sCont f fd) (T : GT mg) (U : CT K mg C mc)
    (GI : FnOk P w K mg base CX0 3 fI fdI ["value"] spIsPlaceT) (kI : PySem.W.keepIn K (.ref fI) = true) (bI : Binds K fdI ["value"] []) (mI : mg "is_place" = some (.ref fI))
    (GO : FnR P w K mg base CX0 5 fO (spOfT C)) (mO : SMet K C mc "of" pO fO)
    (GN : FnOk P w K mg base CX0 1 fn fdn ["self"] (spNames C)) (bn : Binds K fdn ["self"] []) (hpn : PropOf K C "names" pn fn) : FnOk P w K mg base CX0 6 f fd ["self", "x"] (spContT C) := by
  refine F.ok scCont (fun vs H Q E h => ?_) (fun cdv A outer s H vs Q E hr h => ?_)
  · obtain ⟨p, ns, ms, rfl, _⟩ := h
    rfl
  · obtain ⟨p, ns, ms, rfl, P1, N1, N2, k⟩ := h
    refine ⟨_, pss_cons (ps_if (pt_not (pt_val (pe_call GI (hr.mono (by decide)) (by rfl) mI kI bI .nil pass0 (pa_cons (pv 1) pa_nil)))) (pss_one (ps_ret pe_bl)) pss_nil)
      (pss_one (ps_ret (pe_cmpR (op_eqD hr.units) (pe_slice sl_tupA (pe_prop (pe_smeth (pe_glob (v := .ref C) (by rfl) U.mgC rfl) U.rd mO GO hr pass0 (pa_cons (pv 1) pa_nil)) U.cl hpn GN (hr.mono (by decide)) bn .nil pass0 rfl) po_none
          (po_some (pe_callB call_len_seq (by rfl) T.b.len PySem.boot_len (pa_cons (pe_fld (pv 0) rfl) pa_nil)))) (pe_fld (pv 0) rfl) (nomark _)))), ?_⟩
    refine ⟨_, rfl, ms, rfl, N2, fun H1 s1 => ⟨_, rfl, ?_⟩⟩
    refine iteF ⟨rfl, _, rfl, ms, rfl, N2, fun q H2 s2 P2 => ?_⟩
    have s12 := s1.trans s2
    obtain ⟨dx, t, hp, ht⟩ := P1.mono s12
    obtain ⟨dy, u, hq, hu⟩ := id P2
    refine ⟨q, dy, _, rfl, hq, q, dy, u, rfl, hq, ?_⟩
    refine ⟨_, rfl, p, C, dx, _, _, rfl, hp, U.cl, U.nN, pf_at _, t, _, rfl, .inr (SqT.of ht), _, rfl, u, _, rfl, SqT.of hu, fun hw => ?_, fun hw r hr2 => ?_⟩
    · have e : ms.take ns.length = ms := by
        have h2 := hw.2
        rw [List.length_map, List.length_map, HT.sIx_nat] at h2
        exact List.take_of_length_le (by omega)
      refine ⟨_, rfl, p, C, dx, _, _, rfl, hp, U.cl, U.nN, pf_at _, _, _, .tup (SqT.of hu) (dp_strs _), .tup (SqT.of ht) (dp_strs _), shaped_strs _ fun n hn => ok_str (N2.2 n hn), shaped_strs _ fun n hn => ok_str (N1.2 n hn), ?_⟩
      rw [eqv_strs]
      have z := k H2 s12
      rw [e] at z
      exact z
    · have e : cutV (ms.map V.str) none (some (((ns.map V.str).length : Nat) : Int)) = (ms.take ns.length).map V.str := by
        by_cases h : ns.length ≤ ms.length
        · rw [cut_to (by omega) (by simp; omega), List.map_take]
          simp
        · refine absurd ⟨rfl, ?_⟩ hw
          rw [HT.sIx_nat, List.length_map, List.length_map]
          omega
      have s3 : Same H2 (upd H2 r (.tup (cutV (ms.map V.str) none (some (((ns.map V.str).length : Nat) : Int))))) := fun b o hb => by
        rw [upd_ne (ne_of_none hb hr2)]
        exact hb
      have hR : (upd H2 r (.tup (cutV (ms.map V.str) none (some (((ns.map V.str).length : Nat) : Int))))) r = some (.tup ((ms.take ns.length).map V.str)) := by rw [upd_same, e]
      refine ⟨_, rfl, p, C, dx, _, _, rfl, s3 _ _ hp, U.cl, U.nN, pf_at _, _, _, .tup (SqT.of hR) (dp_strs _), .tup (SqT.of (s3 _ _ ht)) (dp_strs _), shaped_strs _ fun n hn => ok_str (N2.2 n (List.mem_of_mem_take hn)), shaped_strs _ fun n hn => ok_str (N1.2 n hn), ?_⟩
      rw [eqv_strs]
      exact k _ (s12.trans s3)
theorem ok_contN {fI : Addr} {fdI : FuncData} (F : Fun K "__contains__" "Place.__contains__" sCont f fd) (GI : FnOk P w K mg base CX0 3 fI fdI ["value"] (spIsPlaceN K C)) (kI : PySem.W.keepIn K (.ref fI) = true) (bI : Binds K fdI ["value"] []) (mI : mg "is_place" = some (.ref fI)) :
    FnOk P w K mg base CX0 4 f fd ["self", "x"] (spContN K C) := by
  refine F.ok scCont (fun vs H Q E h => ?_) (fun cdv A outer s H vs Q E hr h => ?_)
  · obtain ⟨p, x, rfl, _⟩ := h
    rfl
  · obtain ⟨p, x, rfl, hx, k⟩ := h
    refine ⟨_, pss_cons (ps_if (pt_not (pt_val (pe_call GI hr (by rfl) mI kI bI .nil pass0 (pa_cons (pv 1) pa_nil)))) (pss_one (ps_ret pe_bl)) pss_nil) pss_never, ?_⟩
    exact ⟨_, rfl, x, rfl, hx, fun H1 s1 => ⟨_, rfl, iteT (k H1 s1)⟩⟩
end
end Pl

namespace Pl
open PySem L2 Own TL RZ
/-! ### what is refused at any spot -/
def spInitB (K : PySem.W.Frag) (C CN : Addr) : Sp := fun vs H _ E => ∃ (p dx t : Addr) (ns : List Str) (x : V) (rest : List V), vs = [.ref p, .ref t] ∧ H p = some (.ins C dx []) ∧ H t = some (.tup (ns.map V.str ++ x :: rest)) ∧ (∀ n ∈ ns, okN n = true) ∧ NoNm K H x ∧
  ∀ d H', Same H H' → H' d = some (.xd [("value", x)]) → E (.ref CN) (some d) H'
def spMkB (K : PySem.W.Frag) (C CN : Addr) : Sp := fun vs H Q E => ∃ v rest, vs = v :: rest ∧ rest.length ≤ 10 ∧ ∀ p, H p = none → spInitB K C CN [v, .ref p] (upd H p (.tup rest)) Q E
def spMkA (K : PySem.W.Frag) (C CN CM : Addr) : Sp := fun vs H Q E => spMk C vs H Q E ∨ (spMkB K C CN vs H Q E ∨ spMkM C CM vs H Q E)
/-- a value that is no number of names to keep -/
def BadK (K : PySem.W.Frag) (H : Hp) (ns : List Str) (x : V) : Prop := (∃ k : Int, x = .int k ∧ ¬ (0 ≤ k ∧ k ≤ (ns.length : Nat))) ∨ ∃ t b1 b2, TyX K H x t ∧ PySem.W.kitOne K t (.type "int") = some b1 ∧ PySem.W.kitOne K t (.type "bool") = some b2 ∧ (b1 && !b2) = false
def spHeadB (K : PySem.W.Frag) (C CB : Addr) : Sp := fun vs H _ E => ∃ p ns x, vs = [.ref p, x] ∧ PlA C H p ns ∧ BadK K H ns x ∧ ∀ d H', Same H H' → H' d = some (.xd [("value", x)]) → E (.ref CB) (some d) H'
/-- what making a place of some values gives -/
def MkOut (K : PySem.W.Frag) (C CN CM : Addr) (xs : List V) (H : Hp) (Q : VK) (E : XK) : Prop :=
  (∃ ns : List Str, xs = ns.map V.str ∧ Nms ns ∧ ∀ p H', Same H H' → PlA C H' p ns → Q (.ref p) H') ∨
  ((∃ (ns : List Str) (x : V) (rest : List V), xs = ns.map V.str ++ x :: rest ∧ xs.length ≤ 10 ∧ (∀ n ∈ ns, okN n = true) ∧ NoNm K H x ∧ ∀ d H', Same H H' → H' d = some (.xd [("value", x)]) → E (.ref CN) (some d) H') ∨
  (∃ ns : List Str, xs = ns.map V.str ∧ 8 < ns.length ∧ ns.length ≤ 10 ∧ (∀ n ∈ ns, okN n = true) ∧ ∀ d H', Same H H' → H' d = some (.xd [("most", .int 8)]) → E (.ref CM) (some d) H'))
section
variable {P : Program} {w : World} {K : PySem.W.Frag} {mg : Str → Option Value} {base : Heap} {f C CN CM : Addr} {mc : Value} {fd : FuncData}
theorem mkA_ok {xs : List V} {H1 : Hp} {Q : VK} {E : XK} (h : MkOut K C CN CM xs H1 Q E) :
    ∀ x dx, H1 x = none → H1 dx = none → dx ≠ x → spMkA K C CN CM (V.ref x :: xs) (upd (upd H1 dx (.own x)) x (.ins C dx [])) (fun v H2 => v = .non ∧ Q (.ref x) H2) E := by
  intro x dx hx hdx hne
  rcases h with ⟨ns, rfl, hn, k⟩ | ⟨ns, z, rest, rfl, hl, hn, hz, k⟩ | ⟨ns, rfl, h8, h9, hn, k⟩
  · exact .inl (make_ok hn k x dx hx hdx hne)
  · refine .inr (.inl ⟨_, _, rfl, hl, fun t ht => ?_⟩)
    have s := same3 (o3 := .tup (ns.map V.str ++ z :: rest)) hx hdx ht
    have ntx : x ≠ t := fun e => by
      rw [← e, upd_same] at ht
      cases ht
    exact ⟨x, dx, t, ns, z, rest, rfl, by rw [upd_ne ntx]; exact upd_same, upd_same, hn, hz.mono s, fun d H' s' e => k d H' (s.trans s') e⟩
  · exact .inr (.inr (make_okM h8 h9 hn k x dx hx hdx hne))
theorem ok_initB {fN fI : Addr} {fdN fdI : FuncData} (F : Fun K "__init__" "Place.__init__" sInit f fd) (T : GT mg) (FN : Fun K "is_name" "is_name" sIsName fN fdN) (bN : Binds K fdN ["value"] []) (mN : mg "is_name" = some (.ref fN))
    (EN : Er K mg "BadName" "BadName.__init__" "value" sIniN CN fI fdI) : FnR P w K mg base (L2.CX P w) 3 f (spMkB K C CN) := by
  have GN : FnOk P w K mg base CX0 1 fN fdN ["value"] (spIsName K) := ok_isName FN T
  have GI : FnOk P w K mg base CX0 1 fI fdI ["self", "value"] (spErr CN "value") := ok_err EN scIniN rfl (by decide +kernel) (by decide +kernel)
  obtain ⟨oc, od, kV, doc, pm, an, cdv, ct, osl, rfl, lk, hcd⟩ := F.ex
  refine fn_ofV (nmax := 10) (sp := spInitB K C CN) lk hcd scInit (by decide) init_binds (cxnew P w) (fun A outer s H vs Q E hr h => ?_)
  obtain ⟨p, dx, t, ns, x, rest, rfl, hp, ht, hn, ⟨nx, kx⟩, k⟩ := h
  refine ⟨_, pss_cons (ps_for (passes_of rfl) rfl (pi_tup (pv 1)) (pg_name (i := 2) scInit.nd rfl (Or.inl rfl))
      (pss_one (ps_if (pt_not (pt_val (pe_call GN (hr.mono (by decide)) (by rfl) mN FN.kp bN .nil pass0 (pa_cons (pv 2) pa_nil)))) (pss_one (ps_raise1 rfl EN GI hr (takes_of rfl rfl rfl rfl) (by rfl) (pa_cons (pv 2) pa_nil))) pss_nil)))
    pss_never, ?_⟩
  refine ⟨_, rfl, t, rfl, ⟨_, SqT.of ht⟩, for_it walk_tup (fun i σ H' => Same H H' ∧ i ≤ ns.length ∧ ∃ v, σ = [some (.ref p), some (.ref t), v]) ⟨Same.refl H, Nat.zero_le _, none, rfl⟩ (fun i σ H' _ e => SqT.of (e.1 _ _ ht)) (fun i x' σ H1 H2 hi e y => ?_) (fun σ H1 e => ?_)⟩
  · obtain ⟨s1, hle, v, rfl⟩ := e
    obtain ⟨rfl, hx⟩ := y
    rcases Nat.lt_or_eq_of_le hle with hlt | rfl
    · rw [List.getElem?_append_left (by rw [List.length_map]; exact hlt), List.getElem?_map] at hx
      obtain ⟨n, hn1, rfl⟩ := Option.map_eq_some_iff.mp hx
      have on := hn n (List.mem_of_getElem? hn1)
      refine ⟨_, rfl, _, rfl, .inl ⟨n, rfl, Nat.le_trans (okN_len on).2 (by decide)⟩, fun H' s2 => ⟨_, rfl, ?_⟩⟩
      rw [show isNm (V.str n) = true from on]
      exact ⟨s1.trans s2, hlt, _, rfl⟩
    · have e : x' = x := by
        rw [List.getElem?_append_right (by rw [List.length_map]; exact Nat.le_refl _), List.length_map, Nat.sub_self] at hx
        exact (Option.some.inj hx).symm
      subst e
      refine ⟨_, rfl, _, rfl, ?_, fun H' s2 => ⟨_, rfl, ?_⟩⟩
      · rcases kx with ⟨y, e, h⟩ | ⟨ty, h, kt⟩
        · exact .inl ⟨y, e, m_size h⟩
        · exact .inr ⟨ty, h _ s1, kt, nx⟩
      · rw [nx]
        refine iteT ⟨_, rfl, mk1 fun d hd => k d _ (fun b o hb => ?_) upd_same⟩
        have z := s2 _ _ (s1 _ _ hb)
        rw [upd_ne (ne_of_none z hd)]
        exact z
  · obtain ⟨_, hle, _⟩ := e
    rw [List.length_append, List.length_map, List.length_cons] at hle
    exact absurd hle (by omega)
theorem ok_initA {fN fI fIM : Addr} {fdN fdI fdIM : FuncData} (F : Fun K "__init__" "Place.__init__" sInit f fd) (T : GT mg) (U : CT K mg C mc) (FN : Fun K "is_name" "is_name" sIsName fN fdN) (bN : Binds K fdN ["value"] []) (mN : mg "is_name" = some (.ref fN))
    (EN : Er K mg "BadName" "BadName.__init__" "value" sIniN CN fI fdI) (EM : Er K mg "TooMany" "TooMany.__init__" "most" sIniM CM fIM fdIM) : FnR P w K mg base (L2.CX P w) 3 f (spMkA K C CN CM) :=
  fnR_or (fnR_calm (ok_init F T U FN bN mN) (by decide)) (fnR_or (ok_initB F T FN bN mN EN) (ok_initM F T U FN bN mN EM))
theorem ok_headB {CB fI fB : Addr} {fdI fdB : FuncData} (F : Fun K "head" "Place.head" sHead f fd) (T : BT mg) (U : CT K mg C mc) (FI : Fun K "is_integer" "is_integer" sIsInt fI fdI) (bI : Binds K fdI ["value"] []) (mI : mg "is_integer" = some (.ref fI))
    (EB : Er K mg "BadPlace" "BadPlace.__init__" "value" sIniP CB fB fdB) : FnOk P w K mg base (L2.CX P w) 3 f fd ["self", "k"] (spHeadB K C CB) := by
  have GI : FnOk P w K mg base CX0 1 fI fdI ["value"] (spIsInt K) := ok_isInt FI T
  have GB : FnOk P w K mg base CX0 1 fB fdB ["self", "value"] (spErr CB "value") := ok_err EB scIniP rfl (by decide +kernel) (by decide +kernel)
  refine F.okX scHead (fun vs H Q E h => ?_) (fun cdv A outer s H vs Q E hr h => ?_)
  · obtain ⟨p, ns, x, rfl, _⟩ := h
    rfl
  · obtain ⟨p, ns, x, rfl, ⟨dx, t, hp, ht⟩, hx, k⟩ := h
    refine ⟨_, pss_cons (ps_if (PW.pt (pw_or (pt_not (pt_val (pe_call GI (hr.mono (by decide)) (by rfl) mI FI.kp bI .nil pass0 (pa_cons (pv 1) pa_nil))))
        (pw_or1 (pt_not (pt_chain op_le op_le pe_int (pv 1) (pe_callB call_len_seq (by rfl) T.len PySem.boot_len (pa_cons (pe_fld (pv 0) rfl) pa_nil))))))) (pss_one (ps_raise1 rfl EB GB hr (takes_of rfl rfl rfl rfl) (by rfl) (pa_cons (pv 1) pa_nil))) pss_nil)
      pss_never, ?_⟩
    have fin := mk1 (C := CB) (f := "value") (v := x) (H1 := H) (Q := E) fun d hd => k d _ (fun b o hb => by
      rw [upd_ne (ne_of_none hb hd)]
      exact hb) upd_same
    rcases hx with ⟨i, rfl, ho⟩ | ⟨t2, b1, b2, ty, k1, k2, e⟩
    · refine ⟨_, rfl, _, _, true, false, rfl, .base (.int i), kit_ty (by decide +kernel), kit_ty (by decide +kernel), _, rfl, ?_⟩
      refine iteF ⟨_, rfl, _, _, rfl, rfl, _, rfl, ?_⟩
      by_cases k0 : 0 ≤ i
      · rw [decide_eq_true k0]
        refine iteT ⟨_, rfl, p, C, dx, _, _, rfl, hp, U.cl, U.nN, pf_at _, t, _, rfl, .inr (SqT.of ht), _, _, rfl, rfl, _, rfl, ?_⟩
        rw [List.length_map, decide_eq_false (fun z => ho ⟨k0, z⟩)]
        exact iteT ⟨_, rfl, fin⟩
      · rw [decide_eq_false k0]
        exact iteF ⟨_, rfl, iteT ⟨_, rfl, fin⟩⟩
    · refine ⟨_, rfl, _, _, b1, b2, rfl, ty, k1, k2, _, rfl, ?_⟩
      rw [e]
      exact iteT (iteT ⟨_, rfl, fin⟩)
end
end Pl

namespace Pl
open PySem L2 Own TL RZ LamX
/-- the errors' classes -/
structure ErF (K : PySem.W.Frag) (mg : Str → Option Value) (CN CM CB CT : Addr) : Prop where
  mgT : mg "TableError" = some (.ref CT)
  mgN : mg "BadName" = some (.ref CN)
  mgM : mg "TooMany" = some (.ref CM)
  mgB : mg "BadPlace" = some (.ref CB)
  exN : PySem.W.exmOne K (.ref CN) (.ref CT) = some true
  exM : PySem.W.exmOne K (.ref CM) (.ref CT) = some true
  exB : PySem.W.exmOne K (.ref CB) (.ref CT) = some true
  NN : PySem.W.kitOne K (.ref CN) (.ref CN) = some true
  NM : PySem.W.kitOne K (.ref CN) (.ref CM) = some false
  NB : PySem.W.kitOne K (.ref CN) (.ref CB) = some false
  MN : PySem.W.kitOne K (.ref CM) (.ref CN) = some false
  MM : PySem.W.kitOne K (.ref CM) (.ref CM) = some true
  MB : PySem.W.kitOne K (.ref CM) (.ref CB) = some false
  BN : PySem.W.kitOne K (.ref CB) (.ref CN) = some false
  BM : PySem.W.kitOne K (.ref CB) (.ref CM) = some false
  BB : PySem.W.kitOne K (.ref CB) (.ref CB) = some true
  NV : PySem.W.kitOne K (.ref CN) (.type "ValueError") = some true
  MV : PySem.W.kitOne K (.ref CM) (.type "ValueError") = some true
  BV : PySem.W.kitOne K (.ref CB) (.type "ValueError") = some true
  xN : ExcC K CN
  xM : ExcC K CM
  xB : ExcC K CB
  fN : XfC K CN
  fM : XfC K CM
  fB : XfC K CB
  nN : PySem.W.findIn K (.ref CN) "value" = some none
  nM : PySem.W.findIn K (.ref CM) "most" = some none
  nB : PySem.W.findIn K (.ref CB) "value" = some none
structure Ad where
  (C CN CM CB CT gHead gLen gBoo gStr gRepr gNames pNames gText pText gUp pUp fMk fDraw fPick fPen : Addr)
  mc : Value
  (fdHead fdNames fdText fdUp fdDraw fdPick fdPen : FuncData)
/-- a sign of a text, drawn -/
def spPickS : Sp := fun vs H Q _ => ∃ (l c : Addr) (y : Str) (k : Nat), vs = [.ref l, .str y] ∧ PenAt H l c k ∧ k ≤ 100000 ∧ 0 < y.length ∧ y.length < 1000000 ∧ ∀ cc H', cc ∈ tl y → But l H H' → PenAt H' l c (k + 1) → Q (.str ⟨#[cc]⟩) H'
/-- what the program's methods do -/
structure Wo (P : Program) (w : World) (K : PySem.W.Frag) (mg : Str → Option Value) (base : Heap) (a : Ad) : Prop where
  T : GT mg
  repr : mg "repr" = none
  tuple : mg "tuple" = none
  VE : mg "ValueError" = none
  U : CT K mg a.C a.mc
  R : ErF K mg a.CN a.CM a.CB a.CT
  sf : PySem.W.selfFirst K a.C = true
  mHead : Meth K a.C "head" a.gHead
  cHead : FnOk P w K mg base CX0 4 a.gHead a.fdHead ["self", "k"] (spHead a.C)
  bHead : L2.Binds K a.fdHead ["self", "k"] []
  pUp : PropOf K a.C "up" a.pUp a.gUp
  cUp : FnOk P w K mg base CX0 5 a.gUp a.fdUp ["self"] (spUp a.C)
  bUp : L2.Binds K a.fdUp ["self"] []
  mLen : Meth K a.C "__len__" a.gLen
  cLen : FnR P w K mg base CX0 1 a.gLen (spLen a.C)
  mBoo : Meth K a.C "__bool__" a.gBoo
  cBoo : FnR P w K mg base CX0 1 a.gBoo (spBool a.C)
  mStr : Meth K a.C "__str__" a.gStr
  cStr : FnR P w K mg base CX0 3 a.gStr (spStr a.C)
  mRepr : Meth K a.C "__repr__" a.gRepr
  cRepr : FnR P w K mg base CX0 3 a.gRepr (spRepr a.C)
  pNames : PropOf K a.C "names" a.pNames a.gNames
  cNames : FnOk P w K mg base CX0 1 a.gNames a.fdNames ["self"] (spNames a.C)
  bNames : L2.Binds K a.fdNames ["self"] []
  pText : PropOf K a.C "text" a.pText a.gText
  cText : FnOk P w K mg base CX0 1 a.gText a.fdText ["self"] (spText a.C)
  bText : L2.Binds K a.fdText ["self"] []
  mMk : Mk K a.C a.fMk
  cMk : FnR P w K mg base CX0 2 a.fMk (spMk a.C)
  cMkA : FnR P w K mg base (L2.CX P w) 3 a.fMk (spMkA K a.C a.CN a.CM)
  cHeadB : FnOk P w K mg base (L2.CX P w) 3 a.gHead a.fdHead ["self", "k"] (spHeadB K a.C a.CB)
  mDraw : mg "_law_draw" = some (.ref a.fDraw)
  kDraw : PySem.W.keepIn K (.ref a.fDraw) = true
  cDraw : FnOk P w K mg base CX0 1 a.fDraw a.fdDraw ["_law_pen_here", "_law_many"] spDraw
  bDraw : L2.Binds K a.fdDraw ["_law_pen_here", "_law_many"] []
  mPick : mg "_law_pick" = some (.ref a.fPick)
  kPick : PySem.W.keepIn K (.ref a.fPick) = true
  cPick : FnOk P w K mg base CX0 2 a.fPick a.fdPick ["_law_pen_here", "_law_some"] spPick
  cPickS : FnOk P w K mg base CX0 2 a.fPick a.fdPick ["_law_pen_here", "_law_some"] spPickS
  bPick : L2.Binds K a.fdPick ["_law_pen_here", "_law_some"] []
  mPen : mg "_law_pen" = some (.ref a.fPen)
  kPen : PySem.W.keepIn K (.ref a.fPen) = true
  cPen : FnOk P w K mg base CX0 1 a.fPen a.fdPen ["_law_script"] (spPen K)
  bPen : L2.Binds K a.fdPen ["_law_script"] []
/-! ### what is heard of a call -/
abbrev sHeard : Stmt := top 41
abbrev Ngh : List Str := ["_law_ask", "_law_caught", "_law_found", "_law_error", "_law_kinds"]
theorem scHeard : FnScope Ngh ["_law_ask"] (defScope sHeard) := ⟨rfl, rfl, rfl, by decide +kernel, rfl, by decide +kernel, by decide +kernel⟩
abbrev tWhy (K : PySem.W.Frag) (C : Addr) : TE := tCB (rIsK K) (tCons (tVar 1) (tCons (tC (V.ref C)) tNil))
/-- what an error is told as -/
structure Told (CN CM CB : Addr) (cls : Value) (d : Option Addr) (H' : Hp) (tag : Str) (v : V) : Prop where
  ex : (∃ dd, cls = .ref CN ∧ d = some dd ∧ H' dd = some (.xd [("value", v)]) ∧ tag = "name") ∨ (∃ dd, cls = .ref CM ∧ d = some dd ∧ H' dd = some (.xd [("most", v)]) ∧ tag = "many") ∨
    (∃ dd, cls = .ref CB ∧ d = some dd ∧ H' dd = some (.xd [("value", v)]) ∧ tag = "place")
theorem none_of {H H' : Hp} {p : Addr} (s : Same H H') (h : H' p = none) : H p = none := by
  cases e : H p with
  | none => rfl
  | some o => rw [s _ _ e] at h; cases h
theorem same1 {H : Hp} {p : Addr} {o : HO} (h : H p = none) : Same H (upd H p o) := fun b u hb => by
  rw [upd_ne (ne_of_none hb h)]
  exact hb
section
variable {X : Cx} {a : Ad} {g : Addr} {cdg : Value} {q : Str}
def TTh (a : Ad) (tl : XK → Hp → VK → Prop) : Hp → VK → Prop := fun H Q => ∀ K1 : VK, (∀ v H1, (∀ L H2, Same H1 H2 → H1 L = none → H2 L = some (.lst [v]) → Q (.ref L) H2) → K1 v H1) →
  tl (fun cls d H' => ∃ (tag : Str) (v : V), Told a.CN a.CM a.CB cls d H' tag v ∧ ∀ p H2, Same H' H2 → H' p = none → H2 p = some (.tup [.str tag, v]) → Q (.ref p) H2) H K1
theorem heard_gives (W : Wo X.prog X.w X.K X.mg X.base a) : GivesTo X Ngh "_law_heard" (defScope sHeard) g cdg (defBody sHeard) "_law_ask" q (TTh a) := by
  intro f c' s H Q tl act hc h
  refine ⟨_, pss_cons (ps_set (i := 1) scHeard.nd rfl (Or.inl rfl) pe_non) (pss_cons (ps_set (i := 2) scHeard.nd rfl (Or.inl rfl) pe_non) (pss_cons (ps_ask (X := X) (Ng := Ngh) (x := "_law_heard") (sg := defScope sHeard) (g := g) (cdg := cdg) (s := s) (H := H) (a := "_law_ask") (q := q) (CS := a.CT) (f := f) (c' := c') (tl := tl) (i := 3) (j := 1) (m := 2)
      act (by decide +kernel) rfl rfl rfl rfl rfl rfl (by decide) rfl rfl W.R.mgT)
    (pss_cons (ps_if (pt_cmpR op_isN (pv 1) pe_non (nomark _)) (pss_one (ps_ret (pe_lst (pa_cons (pv 2) pa_nil)))) pss_nil)
    (pss_cons (ps_set (i := 4) scHeard.nd rfl (Or.inl rfl) (pe_lst (pa_cons (pe_callB call_isK (by rfl) W.T.b.isi (by decide +kernel) (pa_cons (pv 1) (pa_cons (pe_glob (v := .ref a.CN) (by rfl) W.R.mgN rfl) pa_nil)))
        (pa_cons (pe_callB call_isK (by rfl) W.T.b.isi (by decide +kernel) (pa_cons (pv 1) (pa_cons (pe_glob (v := .ref a.CM) (by rfl) W.R.mgM rfl) pa_nil)))
        (pa_cons (pe_callB call_isK (by rfl) W.T.b.isi (by decide +kernel) (pa_cons (pv 1) (pa_cons (pe_glob (v := .ref a.CB) (by rfl) W.R.mgB rfl) pa_nil))) pa_nil)))))
    (pss_cons (ps_if (PW.pt (pw_or (pt_cmpR op_ne (pe_bm PySem.F.plainAttrs_list PySem.F.slot_list_count PySem.F.type_list_count mt_countB (pv 4) (pa_cons pe_bl pa_nil)) pe_int (nomark _))
        (pw_or1 (pt_not (pt_val (pe_callB call_isK (by rfl) W.T.b.isi (by decide +kernel) (pa_cons (pv 1) (pa_cons (pe_bltn (v := .ty "ValueError") (by rfl) W.VE (by decide +kernel) rfl) pa_nil)))))))) (pss_one (ps_ret (pe_tup (pa_cons pe_str pa_nil)))) pss_nil)
    (pss_cons (ps_if (pt_val (pe_ix ix_list (pv 4) pe_int (fun _ _ => rfl))) (pss_one (ps_ret (pe_tup (pa_cons pe_str (pa_cons (pe_kxf W.R.fN W.R.nN (pv 1)) pa_nil))))) pss_nil)
    (pss_one (ps_ret (pe_ifExp (pt_val (pe_ix ix_list (pv 4) pe_int (fun _ _ => rfl))) (pe_tup (pa_cons pe_str (pa_cons (pe_kxf W.R.fM W.R.nM (pv 1)) pa_nil))) (pe_tup (pa_cons pe_str (pa_cons (pe_kxf W.R.fB W.R.nB (pv 1)) pa_nil)))))))))))), ?_⟩
  refine ⟨_, rfl, hc, h _ fun v H1 hv => ?_, fun cls d σ' H' hl hE => ?_⟩
  · exact ⟨_, rfl, rfl, _, rfl, iteT ⟨_, rfl, by show 1 ≤ sizeLine; decide, fun L hL => hv L _ (same1 hL) hL upd_same⟩⟩
  · obtain ⟨tag, v, ⟨ex⟩, k⟩ := hE
    match σ', hl with
    | [x0, x1, x2, x3, x4], _ =>
      rcases ex with ⟨dd, rfl, rfl, hd, rfl⟩ | ⟨dd, rfl, rfl, hd, rfl⟩ | ⟨dd, rfl, rfl, hd, rfl⟩
      · refine ⟨true, W.R.exN, fun _ e na => ?_, fun z => by cases z⟩
        have nad : dd ≠ e := ne_of_none hd na
        have hfs : ∀ dd', some dd = some dd' → ∃ fs, upd H' e (kex e (.ref a.CN) (some dd)) dd' = some (.xd fs) := fun dd' z => by
          cases z
          exact ⟨_, by rw [upd_ne nad]; exact hd⟩
        refine ⟨_, rfl, rfl, _, rfl, iteF ?_⟩
        refine ⟨_, rfl, e, a.CN, some dd, _, _, true, rfl, upd_same, hfs, W.R.xN, .own a.CN, W.R.NN, _, rfl, e, a.CN, some dd, _, _, false, rfl, upd_same, hfs, W.R.xN, .own a.CM, W.R.NM,
          _, rfl, e, a.CN, some dd, _, _, false, rfl, upd_same, hfs, W.R.xN, .own a.CB, W.R.NB, by show 3 ≤ sizeLine; decide, fun l hl' => ?_⟩
        have nel : e ≠ l := fun z => by
          rw [← z, upd_same] at hl'
          cases hl'
        have sl : Same H' (upd (upd H' e (kex e (.ref a.CN) (some dd))) l (.lst [V.bl true, V.bl false, V.bl false])) := fun b o hb => by
          have e2 : upd H' e (kex e (.ref a.CN) (some dd)) b = some o := by rw [upd_ne (ne_of_none hb na)]; exact hb
          rw [upd_ne (ne_of_none e2 hl')]
          exact e2
        have al : upd (upd H' e (kex e (.ref a.CN) (some dd))) l (.lst [V.bl true, V.bl false, V.bl false]) l = some (.lst [V.bl true, V.bl false, V.bl false]) := upd_same
        have ae : upd (upd H' e (kex e (.ref a.CN) (some dd))) l (.lst [V.bl true, V.bl false, V.bl false]) e = some (kex e (.ref a.CN) (some dd)) := by rw [upd_ne nel, upd_same]
        generalize upd (upd H' e (kex e (.ref a.CN) (some dd))) l (.lst [V.bl true, V.bl false, V.bl false]) = HZ at sl al ae ⊢
        have hz : ∀ dd', some dd = some dd' → ∃ fs, HZ dd' = some (.xd fs) := fun dd' z => by
          cases z
          exact ⟨_, sl _ _ hd⟩
        refine ⟨_, rfl, .inl ⟨rfl, _, SqL.of al⟩, l, [true, false, false], true, rfl, rfl, SqL.of al, rfl, _, rfl, iteNS (by decide +kernel) ⟨_, rfl, e, a.CN, some dd, _, _, true, rfl, ae, hz, W.R.xN, .ty "ValueError", W.R.NV, true, rfl, iteF ?_⟩⟩
        refine ⟨_, rfl, l, _, _, _, rfl, rfl, SqL.of al, rfl, _, rfl, iteT ?_⟩
        refine ⟨_, rfl, e, dd, _, v, rfl, ae, sl _ _ hd, by simp [List.lookup], by show 2 ≤ sizeLine; decide, fun p hp => k p _ (sl.trans fun b o hb => ?_) (none_of sl hp) upd_same⟩
        rw [upd_ne (ne_of_none hb hp)]
        exact hb
      · refine ⟨true, W.R.exM, fun _ e na => ?_, fun z => by cases z⟩
        have nad : dd ≠ e := ne_of_none hd na
        have hfs : ∀ dd', some dd = some dd' → ∃ fs, upd H' e (kex e (.ref a.CM) (some dd)) dd' = some (.xd fs) := fun dd' z => by
          cases z
          exact ⟨_, by rw [upd_ne nad]; exact hd⟩
        refine ⟨_, rfl, rfl, _, rfl, iteF ?_⟩
        refine ⟨_, rfl, e, a.CM, some dd, _, _, false, rfl, upd_same, hfs, W.R.xM, .own a.CN, W.R.MN, _, rfl, e, a.CM, some dd, _, _, true, rfl, upd_same, hfs, W.R.xM, .own a.CM, W.R.MM,
          _, rfl, e, a.CM, some dd, _, _, false, rfl, upd_same, hfs, W.R.xM, .own a.CB, W.R.MB, by show 3 ≤ sizeLine; decide, fun l hl' => ?_⟩
        have nel : e ≠ l := fun z => by
          rw [← z, upd_same] at hl'
          cases hl'
        have sl : Same H' (upd (upd H' e (kex e (.ref a.CM) (some dd))) l (.lst [V.bl false, V.bl true, V.bl false])) := fun b o hb => by
          have e2 : upd H' e (kex e (.ref a.CM) (some dd)) b = some o := by rw [upd_ne (ne_of_none hb na)]; exact hb
          rw [upd_ne (ne_of_none e2 hl')]
          exact e2
        have al : upd (upd H' e (kex e (.ref a.CM) (some dd))) l (.lst [V.bl false, V.bl true, V.bl false]) l = some (.lst [V.bl false, V.bl true, V.bl false]) := upd_same
        have ae : upd (upd H' e (kex e (.ref a.CM) (some dd))) l (.lst [V.bl false, V.bl true, V.bl false]) e = some (kex e (.ref a.CM) (some dd)) := by rw [upd_ne nel, upd_same]
        generalize upd (upd H' e (kex e (.ref a.CM) (some dd))) l (.lst [V.bl false, V.bl true, V.bl false]) = HZ at sl al ae ⊢
        have hz : ∀ dd', some dd = some dd' → ∃ fs, HZ dd' = some (.xd fs) := fun dd' z => by
          cases z
          exact ⟨_, sl _ _ hd⟩
        refine ⟨_, rfl, .inl ⟨rfl, _, SqL.of al⟩, l, [false, true, false], true, rfl, rfl, SqL.of al, rfl, _, rfl, iteNS (by decide +kernel) ⟨_, rfl, e, a.CM, some dd, _, _, true, rfl, ae, hz, W.R.xM, .ty "ValueError", W.R.MV, true, rfl, iteF ?_⟩⟩
        refine ⟨_, rfl, l, _, _, _, rfl, rfl, SqL.of al, rfl, _, rfl, iteF ?_⟩
        refine ⟨_, rfl, l, _, _, _, rfl, rfl, SqL.of al, rfl, _, rfl, iteT ?_⟩
        refine ⟨_, rfl, e, dd, _, v, rfl, ae, sl _ _ hd, by simp [List.lookup], by show 2 ≤ sizeLine; decide, fun p hp => k p _ (sl.trans fun b o hb => ?_) (none_of sl hp) upd_same⟩
        rw [upd_ne (ne_of_none hb hp)]
        exact hb
      · refine ⟨true, W.R.exB, fun _ e na => ?_, fun z => by cases z⟩
        have nad : dd ≠ e := ne_of_none hd na
        have hfs : ∀ dd', some dd = some dd' → ∃ fs, upd H' e (kex e (.ref a.CB) (some dd)) dd' = some (.xd fs) := fun dd' z => by
          cases z
          exact ⟨_, by rw [upd_ne nad]; exact hd⟩
        refine ⟨_, rfl, rfl, _, rfl, iteF ?_⟩
        refine ⟨_, rfl, e, a.CB, some dd, _, _, false, rfl, upd_same, hfs, W.R.xB, .own a.CN, W.R.BN, _, rfl, e, a.CB, some dd, _, _, false, rfl, upd_same, hfs, W.R.xB, .own a.CM, W.R.BM,
          _, rfl, e, a.CB, some dd, _, _, true, rfl, upd_same, hfs, W.R.xB, .own a.CB, W.R.BB, by show 3 ≤ sizeLine; decide, fun l hl' => ?_⟩
        have nel : e ≠ l := fun z => by
          rw [← z, upd_same] at hl'
          cases hl'
        have sl : Same H' (upd (upd H' e (kex e (.ref a.CB) (some dd))) l (.lst [V.bl false, V.bl false, V.bl true])) := fun b o hb => by
          have e2 : upd H' e (kex e (.ref a.CB) (some dd)) b = some o := by rw [upd_ne (ne_of_none hb na)]; exact hb
          rw [upd_ne (ne_of_none e2 hl')]
          exact e2
        have al : upd (upd H' e (kex e (.ref a.CB) (some dd))) l (.lst [V.bl false, V.bl false, V.bl true]) l = some (.lst [V.bl false, V.bl false, V.bl true]) := upd_same
        have ae : upd (upd H' e (kex e (.ref a.CB) (some dd))) l (.lst [V.bl false, V.bl false, V.bl true]) e = some (kex e (.ref a.CB) (some dd)) := by rw [upd_ne nel, upd_same]
        generalize upd (upd H' e (kex e (.ref a.CB) (some dd))) l (.lst [V.bl false, V.bl false, V.bl true]) = HZ at sl al ae ⊢
        have hz : ∀ dd', some dd = some dd' → ∃ fs, HZ dd' = some (.xd fs) := fun dd' z => by
          cases z
          exact ⟨_, sl _ _ hd⟩
        refine ⟨_, rfl, .inl ⟨rfl, _, SqL.of al⟩, l, [false, false, true], true, rfl, rfl, SqL.of al, rfl, _, rfl, iteNS (by decide +kernel) ⟨_, rfl, e, a.CB, some dd, _, _, true, rfl, ae, hz, W.R.xB, .ty "ValueError", W.R.BV, true, rfl, iteF ?_⟩⟩
        refine ⟨_, rfl, l, _, _, _, rfl, rfl, SqL.of al, rfl, _, rfl, iteF ?_⟩
        refine ⟨_, rfl, l, _, _, _, rfl, rfl, SqL.of al, rfl, _, rfl, iteF ?_⟩
        refine ⟨_, rfl, e, dd, _, v, rfl, ae, sl _ _ hd, by simp [List.lookup], by show 2 ≤ sizeLine; decide, fun p hp => k p _ (sl.trans fun b o hb => ?_) (none_of sl hp) upd_same⟩
        rw [upd_ne (ne_of_none hb hp)]
        exact hb
end
end Pl

namespace Pl
open PySem L2 Own TL RZ LamX
theorem PenAt.lst {H : Hp} {l c : Addr} {k : Nat} (p : PenAt H l c k) : ∃ xs, H l = some (.lst xs) := by
  obtain ⟨cells, idx, g, h1, _⟩ := p.ex
  exact ⟨_, h1⟩
theorem PenAt.put {H : Hp} {l c D : Addr} {k : Nat} {o : HO} (p : PenAt H l c k) (h1 : D ≠ l) (h2 : D ≠ c) : PenAt (upd H D o) l c k := by
  obtain ⟨cells, idx, g, a1, a2, a3⟩ := p.ex
  exact ⟨cells, idx, g, by rw [upd_ne h1.symm]; exact a1, by rw [upd_ne h2.symm]; exact a2, a3⟩
theorem PenAt.cell {H : Hp} {l c : Addr} {k : Nat} (p : PenAt H l c k) : ∃ xs, H c = some (.lst xs) := by
  obtain ⟨cells, idx, g, a1, a2, a3⟩ := p.ex
  exact ⟨_, a2⟩
theorem PenAt.extN {H H' : Hp} {l c : Addr} {k k' : Nat} (p : PenAt H l c k) (e : ExtN H H') (h : k ≤ k') : PenAt H' l c k' := by
  obtain ⟨cells, idx, g, x1, x2, x3, x4, x5⟩ := p.ex
  exact ⟨cells, idx, g, e _ _ x1 (by intro ps z; cases z), e _ _ x2 (by intro ps z; cases z), x3, x4, by omega⟩
section
variable {P : Program} {w : World} {K : PySem.W.Frag} {mg : Str → Option Value} {base : Heap} {f : Addr} {fd : FuncData}
theorem ok_pickS {fD : Addr} {fdD : FuncData} (F : Fun K "_law_pick" "_law_pick" sPick f fd) (T : BT mg) (FD : Fun K "_law_draw" "_law_draw" sDraw fD fdD) (bD : L2.Binds K fdD ["_law_pen_here", "_law_many"] []) (mD : mg "_law_draw" = some (.ref fD)) :
    FnOk P w K mg base CX0 2 f fd ["_law_pen_here", "_law_some"] spPickS := by
  have GD : FnOk P w K mg base CX0 1 fD fdD ["_law_pen_here", "_law_many"] spDraw := ok_draw FD T
  refine F.ok scPick (fun vs H Q E h => ?_) (fun cdv A outer s H vs Q E hr h => ?_)
  · obtain ⟨l, c, y, k, rfl, _⟩ := h
    rfl
  · obtain ⟨l, c, y, k, rfl, PN, hk, x0, x1, q⟩ := h
    refine ⟨_, pss_one (ps_ret (pe_ix ix_str (pv 1) (pe_call GD hr (by rfl) mD FD.kp bD .nil pass0 (pa_cons (pv 0) (pa_cons (pe_callB call_len_str (by rfl) T.len PySem.boot_len (pa_cons (pv 1) pa_nil)) pa_nil))) (fun _ _ => rfl))), ?_⟩
    have big : (1000000 : Nat) ≤ sizeLine := by decide
    refine ⟨_, rfl, _, rfl, _, rfl, y, rfl, by omega, l, c, _, k, rfl, PN, hk, by omega, by omega, fun r H' r0 r1 b1 p1 => ?_⟩
    obtain ⟨j, rfl⟩ : ∃ j : Nat, r = (j : Int) := ⟨r.toNat, by omega⟩
    have hj : j < (tl y).length := by
      have e : y.length = (tl y).length := len_tl y
      omega
    have e2 : y.cps.toList[j]? = some ((tl y)[j]) := by
      show (tl y)[j]? = _
      exact List.getElem?_eq_getElem hj
    exact ⟨y, j, (tl y)[j], rfl, rfl, by omega, atI_nat e2, q _ H' (List.getElem_mem hj) b1 p1⟩
end
theorem tl_joinE (ps : List Str) : tl (Txt.join ("" : Str) ps) = (ps.map tl).flatten := by
  rw [join_eq, tl_join]
  have e : tl ("" : Str) = [] := by decide +kernel
  rw [e]
  induction ps with
  | nil => rfl
  | cons p r ih =>
    cases r with
    | nil => simp [joinL]
    | cons q r =>
      show tl p ++ ([] ++ joinL [] ((q :: r).map tl)) = _
      rw [ih]
      rfl
/-! ### names, drawn -/
def sgn (c : Nat) : Str := ⟨#[c]⟩
theorem tl_sgn (c : Nat) : tl (sgn c) = [c] := rfl
def wrd (cs : List Nat) : Str := Txt.join ("" : Str) (cs.map sgn)
theorem tl_wrd (cs : List Nat) : tl (wrd cs) = cs := by
  unfold wrd
  rw [tl_joinE, List.map_map]
  have e : (tl ∘ sgn) = fun c => [c] := funext fun c => tl_sgn c
  rw [e]
  induction cs with
  | nil => rfl
  | cons c r ih => simp [ih]
theorem okN_wrd {cs : List Nat} (h1 : 1 ≤ cs.length) (h2 : cs.length ≤ 8) (h : ∀ c ∈ cs, c ∈ tl SIGNS) : okN (wrd cs) = true := by
  unfold okN
  have e : (wrd cs).length = cs.length := by rw [len_tl, tl_wrd]
  rw [e, tl_wrd, decide_eq_true (show 0 < cs.length by omega), decide_eq_true h2]
  simp only [Bool.true_and, List.all_eq_true, decide_eq_true_eq]
  exact h
abbrev sWord : Stmt := top 38
abbrev Nwd : List Str := ["_law_pen_here", "_law_signs", "_law_step"]
theorem scWord : FnScope Nwd ["_law_pen_here"] (defScope sWord) := ⟨rfl, rfl, rfl, by decide +kernel, rfl, by decide +kernel, by decide +kernel⟩
def spWord : Sp := fun vs H Q _ => ∃ (l c : Addr) (k : Nat), vs = [.ref l] ∧ PenAt H l c k ∧ k ≤ 80000 ∧ ∀ s H', But l H H' → okN s = true → PenAt H' l c (k + 9) → Q (.str s) H'
section
variable {P : Program} {w : World} {K : PySem.W.Frag} {mg : Str → Option Value} {base : Heap} {a : Ad} {f : Addr} {fd : FuncData}
theorem ok_word (W : Wo P w K mg base a) (F : Fun K "_law_word" "_law_word" sWord f fd) : FnOk P w K mg base CX0 3 f fd ["_law_pen_here"] spWord := by
  refine F.ok scWord (fun vs H Q E h => ?_) (fun cdv A outer s H vs Q E hr h => ?_)
  · obtain ⟨l, c, k, rfl, _⟩ := h
    rfl
  · obtain ⟨l, c, k, rfl, PN, hk, q⟩ := h
    obtain ⟨lx, hlx⟩ := PN.lst
    refine ⟨_, pss_cons (ps_set (i := 1) scWord.nd rfl (by first | exact Or.inl rfl | exact Or.inr rfl) pe_str)
      (pss_one (ps_ret (pe_join pe_str (pe_lc (own := [("_law_step", 2)]) (g := gName 2) (tt := tYes) rfl scWord.nd
            (pi_range1 (by rfl) W.T.b.range (pa_cons (pe_call W.cPick hr (by rfl) W.mPick W.kPick W.bPick .nil pass0 (pa_cons (pv 0) (pa_cons (pe_lst (pa_cons pe_int (pa_cons pe_int (pa_cons pe_int (pa_cons pe_int (pa_cons pe_int (pa_cons pe_int (pa_cons pe_int pa_nil)))))))) pa_nil))) pa_nil))
            (blkOk_by (own := [("_law_step", 2)]) (N := Nwd) (sc := defScope sWord) (by decide +kernel)) (fun _ _ _ _ _ => pg_name (i := 2) scWord.nd rfl (by first | exact Or.inl rfl | exact Or.inr rfl)) (fun _ _ _ _ _ => pts_nil)
            (fun _ _ _ _ _ => pe_call W.cPickS hr (by rfl) W.mPick W.kPick W.bPick .nil pass0 (pa_cons (pv 0) (pa_cons (pv 1) pa_nil))))))), ?_⟩
    refine ⟨⟨_, rfl⟩, _, rfl, by show 7 ≤ sizeLine; decide, fun m5 hm5 => ⟨l, c, m5, _, k, rfl, PN.mono (same1 hm5) (Nat.le_refl _), by omega, upd_same, fun e => ?_, by show 0 < 7; decide, by show 7 < 1000000; decide, fun j5 x5 H5 hj5 b5 p5 => ?_⟩⟩
    · rw [e, hlx] at hm5
      cases hm5
    obtain ⟨m, rfl, hm1, hm8⟩ : ∃ m : Nat, x5 = .int m ∧ 1 ≤ m ∧ m ≤ 8 := by
      have hx := List.mem_of_getElem? hj5
      simp only [List.mem_cons, List.not_mem_nil, or_false] at hx
      rcases hx with h | h | h | h | h | h | h
      · exact ⟨1, h, by omega, by omega⟩
      · exact ⟨1, h, by omega, by omega⟩
      · exact ⟨1, h, by omega, by omega⟩
      · exact ⟨2, h, by omega, by omega⟩
      · exact ⟨3, h, by omega, by omega⟩
      · exact ⟨7, h, by omega, by omega⟩
      · exact ⟨8, h, by omega, by omega⟩
    have k5 : ∀ b o, H b = some o → b ≠ l → H5 b = some o := fun b o hb hn => b5 _ _ (same1 hm5 _ _ hb) hn
    obtain ⟨lx5, hlx5⟩ := p5.lst
    obtain ⟨lc5, hlc5⟩ := p5.cell
    refine ⟨m, rfl, by omega, by omega, fun E1 hE1 => lc_it (walk_range (lo := 0) (n := (m : Int).toNat)) (fun i' H' => (∀ b o, H5 b = some o → b ≠ l → H' b = some o) ∧ (∃ cs : List Nat, H' E1 = some (.lst ((cs.map sgn).map V.str)) ∧ cs.length = i' ∧ ∀ c ∈ cs, c ∈ tl SIGNS) ∧ PenAt H' l c (k + 1 + i'))
      ⟨fun b o hb _ => same1 hE1 _ _ hb, ⟨[], upd_same, rfl, by simp⟩, p5.mono (same1 hE1) (Nat.le_refl _)⟩ (fun _ _ _ _ => trivial) (fun i' x6 H6 H7 hi' e y => ?_) (fun H6 e => ?_)⟩
    · obtain ⟨k6, ⟨zs, z1, z2, z3⟩, p6⟩ := e
      obtain ⟨rfl, rfl⟩ := y
      have hi8 : i' < 8 := by omega
      have nE1 : E1 ≠ l := (ne_of_none hlx5 hE1).symm
      have nE2 : E1 ≠ c := (ne_of_none hlc5 hE1).symm
      refine ⟨rfl, _, rfl, _, rfl, l, c, "abcxyz019", _, rfl, p6, by omega, by decide +kernel, by decide +kernel, fun cc H8 hcc b8 p8 => ?_⟩
      have zE := b8 _ _ z1 nE1
      refine ⟨_, zE, by rw [List.length_map, List.length_map, z2]; exact Nat.lt_trans hi8 (by decide), fun b o hb hn => ?_, ⟨zs ++ [cc], by rw [upd_same, List.map_append, List.map_append]; rfl, by rw [List.length_append, List.length_singleton, z2], fun z hz => ?_⟩, ?_⟩
      · rw [upd_ne (ne_of_none hb hE1)]
        exact b8 _ _ (k6 _ _ hb hn) hn
      · rcases List.mem_append.mp hz with h | h
        · exact z3 z h
        · rw [List.mem_singleton.mp h]
          have small : ∀ d ∈ tl ("abcxyz019" : Str), d ∈ tl SIGNS := by decide +kernel
          exact small cc hcc
      · exact (p8.mono (Same.refl _) (by omega)).put nE1 nE2
    · obtain ⟨k6, ⟨zs, z1, z2, z3⟩, p6⟩ := e
      have zl : zs.length ≤ 8 := by omega
      have z1' : 1 ≤ zs.length := by omega
      refine ⟨_, E1, zs.map sgn, rfl, rfl, .inl (SqL.of z1), ?_, ?_⟩
      · rw [show ("" : Str).length = 0 from by decide +kernel, List.map_map]
        have e : ((fun x : Str => x.length) ∘ sgn) = fun _ => 1 := funext fun c => rfl
        rw [e]
        have sm : ∀ cs : List Nat, (cs.map fun _ => 1).sum = cs.length := fun cs => by
          induction cs with
          | nil => rfl
          | cons c r ih => simp [ih]; omega
        rw [sm]
        omega
      · exact q (wrd zs) H6 (fun b o hb hn => k6 _ _ (k5 _ _ hb hn) hn) (okN_wrd z1' zl z3) (p6.mono (Same.refl _) (by omega))
end
end Pl

namespace Pl
open PySem L2 Own TL RZ LamX
theorem PlA.extN {C : Addr} {H H' : Hp} {p : Addr} {ns : List Str} (h : PlA C H p ns) (e : ExtN H H') : PlA C H' p ns := by
  obtain ⟨dx, t, h1, h2⟩ := h
  exact ⟨dx, t, e _ _ h1 (by intro ps z; cases z), e _ _ h2 (by intro ps z; cases z)⟩
theorem extn_lst {H H' : Hp} {t : Addr} {xs : List V} (e : ExtN H H') (h : H t = some (.lst xs)) : H' t = some (.lst xs) := e _ _ h (by intro ps z; cases z)
theorem extn_tup {H H' : Hp} {t : Addr} {xs : List V} (e : ExtN H H') (h : H t = some (.tup xs)) : H' t = some (.tup xs) := e _ _ h (by intro ps z; cases z)
theorem tabs_but {Tb : List (Addr × Str)} {l : Addr} {H H' : Hp} {xs : List V} (T : Tabs Tb H) (b : But l H H') (hl : H l = some (.lst xs)) : Tabs Tb H' := fun pr hpr => by
  obtain ⟨ps, x1, x2, x3⟩ := T pr hpr
  refine ⟨ps, b _ _ x1 (ne_of x1 hl (by intro z; cases z)), x2, fun po cv hc => ?_⟩
  obtain ⟨cc, e1, e2⟩ := x3 po cv hc
  exact ⟨cc, e1, b _ _ e2 (ne_of e2 hl (by intro z; cases z))⟩
/-! ### odd things -/
/-- a builtin thing as the law takes them -/
inductive Sh (H : Hp) : V → Prop where
  | non : Sh H .non
  | int (i : Int) (h : i = 0 ∨ i = 7) : Sh H (.int i)
  | bl (b : Bool) : Sh H (.bl b)
  | str (y : Str) (h : (reprText y).length ≤ 5000) (h2 : y.length ≤ 1000000) : Sh H (.str y)
  | lst (t : Addr) (ys : List Str) (e : H t = some (.lst (ys.map V.str))) (h : ∀ y ∈ ys, (reprText y).length ≤ 5000) (hl : ys.length ≤ 1) : Sh H (.ref t)
  | tup (t : Addr) (ys : List Str) (e : H t = some (.tup (ys.map V.str))) (h : ∀ y ∈ ys, (reprText y).length ≤ 5000) (hl : ys.length ≤ 1) : Sh H (.ref t)
  | dct (t : Addr) (e : H t = some (.dK [])) : Sh H (.ref t)
  | dct1 (t : Addr) (y : Str) (e : H t = some (.dK [(.inr y, .str y)])) (h : (reprText y).length ≤ 4000) : Sh H (.ref t)
theorem Sh.map {H H' : Hp} {x : V} (s : Sh H x) (k : ∀ b o, H b = some o → (∃ xs, o = .lst xs) ∨ (∃ xs, o = .tup xs) ∨ (∃ kvs, o = .dK kvs) → H' b = some o) : Sh H' x := by
  cases s with
  | non => exact .non
  | int i h => exact .int i h
  | bl b => exact .bl b
  | str y h h2 => exact .str y h h2
  | lst t ys e h hl => exact .lst t ys (k _ _ e (.inl ⟨_, rfl⟩)) h hl
  | tup t ys e h hl => exact .tup t ys (k _ _ e (.inr (.inl ⟨_, rfl⟩))) h hl
  | dct t e => exact .dct t (k _ _ e (.inr (.inr ⟨_, rfl⟩)))
  | dct1 t y e h => exact .dct1 t y (k _ _ e (.inr (.inr ⟨_, rfl⟩))) h
theorem Sh.extN {H H' : Hp} {x : V} (s : Sh H x) (e : ExtN H H') : Sh H' x := s.map fun b o hb ho => e b o hb fun ps z => by
  rcases ho with ⟨_, h⟩ | ⟨_, h⟩ | ⟨_, h⟩ <;> (rw [z] at h; cases h)
theorem Sh.same {H H' : Hp} {x : V} (s : Sh H x) (e : Same H H') : Sh H' x := s.map fun b o hb _ => e b o hb
theorem Sh.bi {H : Hp} {x : V} (s : Sh H x) : Bi H x := by
  cases s with
  | non => exact .inl rfl
  | int i h => exact .inr (.inl ⟨_, rfl⟩)
  | bl b => exact .inr (.inr (.inl ⟨_, rfl⟩))
  | str y h h2 => exact .inr (.inr (.inr (.inl ⟨_, rfl⟩)))
  | lst t ys e h hl => exact .inr (.inr (.inr (.inr (.inl ⟨_, _, rfl, e⟩))))
  | tup t ys e h hl => exact .inr (.inr (.inr (.inr (.inr (.inl ⟨_, _, rfl, e⟩)))))
  | dct t e => exact .inr (.inr (.inr (.inr (.inr (.inr ⟨_, _, rfl, e⟩)))))
  | dct1 t y e h => exact .inr (.inr (.inr (.inr (.inr (.inr ⟨_, _, rfl, e⟩)))))
section
variable {X : Cx} {a : Ad} {K : PySem.W.Frag} {C : Addr} {H : Hp} {x : V}
/-- its kind: no place; and no text, or a text -/
theorem Sh.kind (s : Sh H x) (ty : PySem.W.typeIn K (.ref C) = some (.type "type")) (hm : PySem.W.mroIn K C (.type "object") = some true) :
    ∃ t, Kd K H x t ∧ PySem.W.kitOne K t (.ref C) = some false ∧ ((∃ y, x = .str y ∧ y.length ≤ 1000000) ∨ PySem.W.kitOne K t (.type "str") = some false) := by
  cases s with
  | non => exact ⟨_, fun _ _ => .base .non, kit_tyC ty hm rfl, .inr (by rfl)⟩
  | int i h => exact ⟨_, fun _ _ => .base (.int i), kit_tyC ty hm rfl, .inr (by rfl)⟩
  | bl b => exact ⟨_, fun _ _ => .base (.bl b), kit_tyC ty hm rfl, .inr (by rfl)⟩
  | str y h h2 => exact ⟨_, fun _ _ => .base (.str y), kit_tyC ty hm rfl, .inl ⟨y, rfl, h2⟩⟩
  | lst t ys e h hl => exact ⟨_, fun _ s => .base (.lst (s _ _ e)), kit_tyC ty hm rfl, .inr (by rfl)⟩
  | tup t ys e h hl => exact ⟨_, fun _ s => .base (.tup (s _ _ e)), kit_tyC ty hm rfl, .inr (by rfl)⟩
  | dct t e => exact ⟨_, fun _ s => .base (.dK (s _ _ e)), kit_tyC ty hm rfl, .inr (by rfl)⟩
  | dct1 t y e h => exact ⟨_, fun _ s => .base (.dK (s _ _ e)), kit_tyC ty hm rfl, .inr (by rfl)⟩
theorem Sh.fo (s : Sh H x) (ty : PySem.W.typeIn K (.ref C) = some (.type "type")) (hm : PySem.W.mroIn K C (.type "object") = some true) : Fo K C H x := by
  obtain ⟨t, k, n, _⟩ := s.kind ty hm
  exact ⟨t, k H (Same.refl H), n⟩
theorem Sh.noNm (s : Sh H x) (ty : PySem.W.typeIn K (.ref C) = some (.type "type")) (hm : PySem.W.mroIn K C (.type "object") = some true) (h : isNm x = false) : NoNm K H x := by
  obtain ⟨t, k, n, y | n2⟩ := s.kind ty hm
  · exact ⟨h, .inl y⟩
  · exact ⟨h, .inr ⟨t, k, n2⟩⟩
theorem Sh.noPT (s : Sh H x) (ty : PySem.W.typeIn K (.ref C) = some (.type "type")) (hm : PySem.W.mroIn K C (.type "object") = some true) (h : isPTv x = false) : NoPT K C H x := by
  obtain ⟨t, k, n, y | n2⟩ := s.kind ty hm
  · exact ⟨h, .inl y⟩
  · exact ⟨h, .inr ⟨t, k, n2, n⟩⟩
theorem strs_ru {k : Nat} : ∀ (ys : List Str), (∀ y ∈ ys, (reprText y).length ≤ 5000) → RUs X [] k H (ys.map V.str) (ys.map reprText)
  | [], _ => .nil
  | n :: ns, h => .cons (RU.str n (Nat.le_trans (h n List.mem_cons_self) (by decide))) (strs_ru ns fun m hm => h m (List.mem_cons_of_mem _ hm))
theorem one_sum {ys : List Str} (h : ∀ y ∈ ys, (reprText y).length ≤ 5000) (hl : ys.length ≤ 1) : ((ys.map reprText).map (·.length)).sum ≤ 5000 := by
  match ys, hl with
  | [], _ => simp
  | [y], _ =>
    have := h y List.mem_cons_self
    simpa using this
theorem Sh.ru (s : Sh H x) : ∃ as t, RU X as 4 H x t ∧ t.length ≤ 10000 ∧ ∀ b ∈ as, x = .ref b := by
  cases s with
  | non => exact ⟨[], _, RU.non, by decide, by simp⟩
  | int i h =>
    refine ⟨[], _, RU.int i ?_, ?_, by simp⟩
    · rcases h with rfl | rfl <;> decide +kernel
    · rcases h with rfl | rfl <;> decide +kernel
  | bl b => exact ⟨[], _, RU.bl b, by cases b <;> decide +kernel, by simp⟩
  | str y h h2 => exact ⟨[], _, RU.str y (Nat.le_trans h (by decide)), by omega, by simp⟩
  | lst t ys e h hl =>
    cases ys with
    | nil => exact ⟨[], _, RU.list0 e, by decide +kernel, by simp⟩
    | cons n ns =>
      refine ⟨[t], _, RU.list e (by simp) (strs_ru (n :: ns) h), ?_, fun b hb => by rw [List.mem_singleton.mp hb]⟩
      have a := listText_len_le ((n :: ns).map reprText)
      have b := one_sum h hl
      rw [List.length_map] at a
      omega
  | tup t ys e h hl =>
    refine ⟨[t], _, RU.tuple e (by simp) (strs_ru ys h), ?_, fun b hb => by rw [List.mem_singleton.mp hb]⟩
    have a := tupleText_len_le (ys.map reprText)
    have b := one_sum h hl
    rw [List.length_map] at a
    omega
  | dct t e =>
    refine ⟨[t], dictText [], ?_, by decide +kernel, fun b hb => by rw [List.mem_singleton.mp hb]⟩
    refine RU.of_K (d := 1) (by decide) fun pins σ H1 s u s1 I rx => ?_
    cases (show u = Value.ref t from rx)
    obtain ⟨_, hm, vs, kv, o, es, ep, ho, hc, hd, _, hp, _⟩ := I.hok t _ (s1 _ _ e)
    cases kv
    refine ReprK.dict ho hc.1 hd hm (by simp) ?_
    have e : es.toList = [] := List.length_eq_zero_iff.mp hp.length
    rw [e]
    exact .nil
  | dct1 t y e h =>
    refine ⟨[t], dictText [reprText y ++ ": " ++ reprText y], ?_, ?_, fun b hb => by rw [List.mem_singleton.mp hb]⟩
    · refine RU.of_K (d := 1) (by omega) fun pins σ H1 s u s1 I rx => ?_
      cases (show u = Value.ref t from rx)
      obtain ⟨_, hm, vs, kv, o, es, ep, ho, hc, hd, _, hp, _⟩ := I.hok t _ (s1 _ _ e)
      cases kv with
      | @cons a1 b1 as1 bs1 q1 q2 =>
        cases q2
        obtain ⟨k1, v1⟩ := b1
        obtain ⟨q3, q4⟩ := q1
        obtain ⟨tk, q5⟩ := (show ∃ tk, v1 = Value.str y tk from q4)
        subst q5
        cases (show Sum.inr y = k1 from q3)
        refine ReprK.dict ho hc.1 hd hm (by simp) ?_
        generalize es.toList = es' at hp
        cases hp with
        | cons r1 r2 r3 =>
          cases r3
          obtain ⟨x, t2, e1, e2⟩ := (keyIs_shape (show keyIs (.inr y) _ = true from r1)).resolve_left (by rintro ⟨_, _, z, _⟩; cases z)
          cases e1
          refine .cons ?_ ?_ .nil
          · rw [e2]
            exact ReprK.of_is (ReprIs.str y t2 (Nat.le_trans h (by decide))) _ _ _
          · rw [r2]
            exact ReprK.of_is (ReprIs.str y tk (Nat.le_trans h (by decide))) _ _ _
    · have z := dictText_len_le [reprText y ++ ": " ++ reprText y]
      simp only [List.map_cons, List.map_nil, List.sum_cons, List.sum_nil, List.length_cons, List.length_nil, strLen_append] at z
      have : (": " : Str).length = 2 := by decide +kernel
      omega
/-- a thing or a place -/
def Th (a : Ad) (H : Hp) (x : V) : Prop := Sh H x ∨ ∃ p ns, x = .ref p ∧ PlA a.C H p ns ∧ Nms ns
theorem Th.ru (W : Wo X.prog X.w X.K X.mg X.base a) (h : Th a H x) : ∃ as t, RU X as 4 H x t ∧ t.length ≤ 10000 ∧ ∀ b ∈ as, x = .ref b := by
  rcases h with h | ⟨p, ns, rfl, hp, hn⟩
  · exact h.ru
  · obtain ⟨dx, u, h1, h2⟩ := id hp
    refine ⟨[], shown ns, RU.own (E0 := fun _ _ _ => False) h1 W.mRepr.at_ W.mRepr.fn W.cRepr (by decide) (fun _ _ _ _ h => h) fun H1 s1 => ⟨p, ns, rfl, hp.mono s1, hn, rfl, Same.refl _⟩, ?_, by simp⟩
    have := shown_len hn
    omega
theorem Sh.nn (s : Sh H x) {b : Addr} (e : x = .ref b) : H b ≠ none := by
  cases s with
  | non => cases e
  | int i h => cases e
  | bl b => cases e
  | str y h h2 => cases e
  | lst t ys e1 h hl => cases e; rw [e1]; simp
  | tup t ys e1 h hl => cases e; rw [e1]; simp
  | dct t e1 => cases e; rw [e1]; simp
  | dct1 t y e1 h => cases e; rw [e1]; simp
theorem Th.nn (h : Th a H x) {b : Addr} (e : x = .ref b) : H b ≠ none := by
  rcases h with h | ⟨p, ns, rfl, hp, hn⟩
  · exact h.nn e
  · cases e
    obtain ⟨dx, u, h1, h2⟩ := id hp
    rw [h1]
    simp
theorem Th.extN {H' : Hp} (h : Th a H x) (e : ExtN H H') : Th a H' x := by
  rcases h with h | ⟨p, ns, rfl, hp, hn⟩
  · exact .inl (h.extN e)
  · exact .inr ⟨p, ns, rfl, hp.extN e, hn⟩
/-- repr of (tag, thing), read twice -/
theorem rep_len {t : Str} (h : t.length ≤ 10000) {tag : Str} (ht : (reprText tag).length ≤ 100) : (tupleText [reprText tag, t]).length ≤ sizeLine := by
  have z := tupleText_len_le [reprText tag, t]
  simp only [List.map_cons, List.map_nil, List.sum_cons, List.sum_nil, List.length_cons, List.length_nil] at z
  exact Nat.le_trans z (Nat.le_trans (show (reprText tag).length + (t.length + 0) + 2 * (0 + 1 + 1) + 3 ≤ 20000 by omega) (by decide))
theorem rep_at (W : Wo X.prog X.w X.K X.mg X.base a) {tag : Str} (htag : (reprText tag).length ≤ 100) {H0 : Hp} (th : Th a H0 x) : ∃ T : Str, ∀ (p : Addr) (H1 : Hp) (Q : VK), Same H0 H1 → H0 p = none → H1 p = some (.tup [.str tag, x]) →
    (∀ H2, Same H1 H2 → Q (.str T) H2) → rRepr X 4 [.ref p] H1 Q := by
  obtain ⟨as, t, ru, hl, nz⟩ := th.ru (X := X) W
  refine ⟨tupleText [reprText tag, t], fun p H1 Q s h0 hp k => ?_⟩
  exact ⟨p, _, [reprText tag, t], as, _, rfl, fun hm => th.nn (nz p hm) h0, .cons (RU.str _ (Nat.le_trans htag (by decide))) (.cons (ru.mono s) .nil), .inl ⟨hp, rfl⟩, rep_len hl htag, k⟩
/-- repr of two pairs in a list -/
theorem rep_two (W : Wo X.prog X.w X.K X.mg X.base a) {tag : Str} (htag : (reprText tag).length ≤ 100) {H0 : Hp} (th : Th a H0 x) : ∃ T : Str, ∀ (L p1 p2 : Addr) (H1 : Hp) (Q : VK), Same H0 H1 → x ≠ .ref L → x ≠ .ref p1 → x ≠ .ref p2 → H1 L = some (.lst [.ref p1, .ref p2]) → H1 p1 = some (.tup [.str tag, x]) → H1 p2 = some (.tup [.str tag, x]) →
    (∀ H2, Same H1 H2 → Q (.str T) H2) → rRepr X 5 [.ref L] H1 Q := by
  obtain ⟨as, t, ru, hl, nz⟩ := th.ru (X := X) W
  refine ⟨listText [tupleText [reprText tag, t], tupleText [reprText tag, t]], fun L p1 p2 H1 Q s h0 h1 h2 hL hp1 hp2 k => ?_⟩
  have n1 : p1 ∉ as := fun hm => h1 (nz p1 hm)
  have n2 : p2 ∉ as := fun hm => h2 (nz p2 hm)
  have n0 : L ∉ as := fun hm => h0 (nz L hm)
  have tl1 := rep_len hl htag
  have el : RUs X as 4 H1 [.str tag, x] [reprText tag, t] := .cons (RU.str _ (Nat.le_trans htag (by decide))) (.cons (ru.mono s) .nil)
  refine ⟨L, _, [tupleText [reprText tag, t], tupleText [reprText tag, t]], p1 :: p2 :: as, _, rfl, fun hm => ?_, .cons ((RU.tuple hp1 n1 el).more (fun b hb => ?_) (Nat.le_refl _)) (.cons ((RU.tuple hp2 n2 el).more (fun b hb => ?_) (Nat.le_refl _)) .nil), .inr ⟨hL, by simp, rfl⟩, ?_, k⟩
  · rcases List.mem_cons.mp hm with e | hm
    · rw [e, hp1] at hL
      cases hL
    · rcases List.mem_cons.mp hm with e | hm
      · rw [e, hp2] at hL
        cases hL
      · exact n0 hm
  · rcases List.mem_cons.mp hb with e | hb
    · rw [e]; exact List.mem_cons_self
    · exact List.mem_cons_of_mem _ (List.mem_cons_of_mem _ hb)
  · exact List.mem_cons_of_mem _ hb
  · have z := tupleText_len_le [reprText tag, t]
    have z2 := listText_len_le [tupleText [reprText tag, t], tupleText [reprText tag, t]]
    simp only [List.map_cons, List.map_nil, List.sum_cons, List.sum_nil, List.length_cons, List.length_nil] at z z2
    exact Nat.le_trans z2 (Nat.le_trans (show _ ≤ 40000 by omega) (by decide))
end
end Pl

namespace Pl
open PySem L2 Own TL RZ LamX
/-- a short text of plain signs -/
def Pt (n : Nat) (s : Str) : Prop := s.length ≤ n ∧ ∀ c ∈ tl s, c < 128
theorem Pt.mono {n m : Nat} {s : Str} (h : Pt n s) (hm : n ≤ m) : Pt m s := ⟨Nat.le_trans h.1 hm, h.2⟩
theorem Pt.app {n m : Nat} {s t : Str} (h : Pt n s) (h2 : Pt m t) : Pt (n + m) (s ++ t) := by
  refine ⟨by rw [strLen_append]; have := h.1; have := h2.1; omega, fun c hc => ?_⟩
  rw [tl_append] at hc
  rcases List.mem_append.mp hc with h' | h'
  · exact h.2 c h'
  · exact h2.2 c h'
theorem ascii_rep {s : Str} {n : Nat} (h : Pt n s) : (reprText s).length ≤ 10 * n + 2 := by
  have a := StrLaws.reprText_len s (fun c hc => by have := h.2 c (by simpa [tl] using hc); omega)
  have b := h.1
  omega
theorem pt_nm {s : Str} (h : okN s = true) : Pt 8 s := by
  refine ⟨(okN_len h).2, fun c hc => ?_⟩
  have a : ∀ c ∈ tl SIGNS, c < 128 := by decide +kernel
  exact a c (okN_signs h c hc)
theorem okN_bad {x : Str} {c : Nat} (h : c ∈ tl x) (hn : c ∉ tl SIGNS) : okN x = false := by
  cases e : okN x with
  | false => rfl
  | true => exact absurd (okN_signs e c h) hn
theorem Sh.pt {H : Hp} {s : Str} (h : Pt 20 s) : Sh H (.str s) := .str s (Nat.le_trans (ascii_rep h) (by decide)) (Nat.le_trans h.1 (by decide))
/-! ### values that are no names -/
abbrev sOdd : Stmt := top 39
abbrev Nod : List Str := ["_law_pen_here", "_law_label", "_law_some"]
theorem scOdd : FnScope Nod ["_law_pen_here", "_law_label"] (defScope sOdd) := ⟨rfl, rfl, rfl, by decide +kernel, rfl, by decide +kernel, by decide +kernel⟩
/-- a value that is no name -/
def Odd (a : Ad) (H : Hp) (x : V) : Prop := Th a H x ∧ isNm x = false
def spOdd (a : Ad) : Sp := fun vs H Q _ => ∃ (l c : Addr) (s : Str) (k : Nat), vs = [.ref l, .str s] ∧ PenAt H l c k ∧ k ≤ 80000 ∧ okN s = true ∧ ∀ x H', (∀ b o, H b = some o → b ≠ l → H' b = some o) → Odd a H' x → (∀ b xs, x = .ref b → H' b = some (.lst xs) → H b = none) → PenAt H' l c (k + 1) → Q x H'
theorem mk1L {C : Addr} {i : Nat} {y : Str} {σ : L2.St} {H : Hp} {Q : VK} {E : XK} (hi : σ[i]? = some (some (V.str y))) (hy : okN y = true) (k : ∀ p H', Same H H' → PlA C H' p [y] → Q (.ref p) H') : StX.tMakeR C (spMk C) E (tCons (tVar i) tNil) σ H Q :=
  ⟨_, hi, make_ok (ns := [y]) ⟨by simp, by simpa using hy⟩ k⟩
section
variable {P : Program} {w : World} {K : PySem.W.Frag} {mg : Str → Option Value} {base : Heap} {a : Ad} {f : Addr} {fd : FuncData}
theorem ok_odd (W : Wo P w K mg base a) (F : Fun K "_law_odd" "_law_odd" sOdd f fd) : FnOk P w K mg base CX0 4 f fd ["_law_pen_here", "_law_label"] (spOdd a) := by
  refine F.ok scOdd (fun vs H Q E h => ?_) (fun cdv A outer s H vs Q E hr h => ?_)
  · obtain ⟨l, c, y, k, rfl, _⟩ := h
    rfl
  · obtain ⟨l, c, y, k, rfl, PN, hk, hy, q⟩ := h
    obtain ⟨lx, hlx⟩ := PN.lst
    have hr2 : Room 2 _ := hr.mono (by decide)
    refine ⟨_, pss_cons (ps_set (i := 2) scOdd.nd rfl (by first | exact Or.inl rfl | exact Or.inr rfl) (pe_lst (pa_cons pe_str (pa_cons pe_str (pa_cons (pe_op op_add_str (pv 1) pe_str) (pa_cons (pe_op op_add_str pe_str (pv 1)) (pa_cons (pe_op op_add_str (pv 1) pe_str) (pa_cons (pe_op op_add_str pe_str (pv 1))
        (pa_cons pe_str (pa_cons pe_str (pa_cons pe_str (pa_cons pe_str (pa_cons pe_str (pa_cons pe_str pa_nil))))))))))))))
      (pss_cons (ps_set (i := 2) scOdd.nd rfl (by first | exact Or.inl rfl | exact Or.inr rfl) (pe_op op_cat (pv 2) (pe_lst (pa_cons pe_non (pa_cons pe_bl (pa_cons pe_bl (pa_cons pe_int (pa_cons pe_int (pa_cons (pe_lst (pa_cons (pv 1) pa_nil)) (pa_cons (pe_tup (pa_cons (pv 1) pa_nil))
          (pa_cons (pe_disp (pps_cons (pv 1) (pv 1) pps_nil) (by rfl) (by rfl) (by simp) (by decide)) (pa_cons pe_dnewK (pa_cons (pe_lst pa_nil) (pa_cons (StX.pe_makeR W.mMk W.cMk hr (by rfl) W.U.mgC pass0 (pa_cons (pv 1) pa_nil)) (pa_cons pe_str (pa_cons pe_str pa_nil))))))))))))))))
      (pss_one (ps_ret (pe_call W.cPick hr2 (by rfl) W.mPick W.kPick W.bPick .nil pass0 (pa_cons (pv 0) (pa_cons (pv 2) pa_nil)))))), ?_⟩
    have yl := okN_len hy
    have sl : (2000 : Nat) ≤ sizeLine := by decide
    have l1 : (" " : Str).length = 1 := by decide +kernel
    have l2 : ("/" : Str).length = 1 := by decide +kernel
    refine ⟨_, rfl, _, _, rfl, rfl, by rw [l1]; omega, _, rfl, _, _, rfl, rfl, by rw [l1]; omega, _, rfl, _, _, rfl, rfl, by rw [l2]; omega, _, rfl, _, _, rfl, rfl, by rw [l2]; omega, by show 12 ≤ sizeLine; decide, fun L1 hL1 => ?_⟩
    have c0 := same1 (o := .lst [V.str "", .str "A", .str (y ++ (" " : Str)), .str ((" " : Str) ++ y), .str (y ++ ("/" : Str)), .str (("/" : Str) ++ y), .str "abcdefgh1", .str "a_b", .str "a-b", .str "a\n", .str "~", .str "a.b"]) hL1
    have k0 : upd H L1 (.lst [V.str "", .str "A", .str (y ++ (" " : Str)), .str ((" " : Str) ++ y), .str (y ++ ("/" : Str)), .str (("/" : Str) ++ y), .str "abcdefgh1", .str "a_b", .str "a-b", .str "a\n", .str "~", .str "a.b"]) L1 = some (.lst [V.str "", .str "A", .str (y ++ (" " : Str)), .str ((" " : Str) ++ y), .str (y ++ ("/" : Str)), .str (("/" : Str) ++ y), .str "abcdefgh1", .str "a_b", .str "a-b", .str "a\n", .str "~", .str "a.b"]) := upd_same
    generalize upd H L1 (.lst [V.str "", .str "A", .str (y ++ (" " : Str)), .str ((" " : Str) ++ y), .str (y ++ ("/" : Str)), .str (("/" : Str) ++ y), .str "abcdefgh1", .str "a_b", .str "a-b", .str "a\n", .str "~", .str "a.b"]) = H0 at c0 k0 ⊢
    refine ⟨_, rfl, _, rfl, by show 1 ≤ sizeLine; decide, fun La hLa => ?_⟩
    have c1 := same1 (o := .lst [V.str y]) hLa
    have kLa : upd H0 La (.lst [V.str y]) La = some (.lst [V.str y]) := upd_same
    generalize upd H0 La (.lst [V.str y]) = HA at c1 kLa ⊢
    refine ⟨_, rfl, by show 1 ≤ sizeLine; decide, fun Ta hTa => ?_⟩
    have c2 := same1 (o := .tup [V.str y]) hTa
    have kTa : upd HA Ta (.tup [V.str y]) Ta = some (.tup [V.str y]) := upd_same
    generalize upd HA Ta (.tup [V.str y]) = HB at c2 kTa ⊢
    refine fun Dj hDj => ?_
    refine ⟨_, rfl, _, rfl, upd_same, [(.inr y, .str y)], rfl, by simp, ?_⟩
    have eM : upd (upd HB Dj (.dK [])) Dj (.dK (mergeK [] [((.inr y : Key), V.str y)])) = upd HB Dj (.dK [(.inr y, .str y)]) := by rw [upd_upd]; rfl
    rw [eM]
    have c3 := same1 (o := .dK [(.inr y, .str y)]) hDj
    have kDj : upd HB Dj (.dK [(.inr y, .str y)]) Dj = some (.dK [(.inr y, .str y)]) := upd_same
    generalize upd HB Dj (.dK [(.inr y, .str y)]) = HC at c3 kDj ⊢
    refine fun Di hDi => ?_
    have c4 := same1 (o := .dK []) hDi
    have kDi : upd HC Di (.dK []) Di = some (.dK []) := upd_same
    generalize upd HC Di (.dK []) = HD at c4 kDi ⊢
    refine ⟨Nat.zero_le _, fun Le hLe => ?_⟩
    have c5 := same1 (o := .lst []) hLe
    have kLe : upd HD Le (.lst []) Le = some (.lst []) := upd_same
    generalize upd HD Le (.lst []) = HE at c5 kLe ⊢
    refine mk1L rfl hy fun p HF c6 Pp => ?_
    refine ⟨by show 13 ≤ sizeLine; decide, fun M2 hM2 => ?_⟩
    have c7 := same1 (o := .lst [V.non, .bl true, .bl false, .int 0, .int 7, .ref La, .ref Ta, .ref Dj, .ref Di, .ref Le, .ref p, .str "aB", .str "123456789"]) hM2
    have k7 : upd HF M2 (.lst [V.non, .bl true, .bl false, .int 0, .int 7, .ref La, .ref Ta, .ref Dj, .ref Di, .ref Le, .ref p, .str "aB", .str "123456789"]) M2 = some (.lst [V.non, .bl true, .bl false, .int 0, .int 7, .ref La, .ref Ta, .ref Dj, .ref Di, .ref Le, .ref p, .str "aB", .str "123456789"]) := upd_same
    generalize upd HF M2 (.lst [V.non, .bl true, .bl false, .int 0, .int 7, .ref La, .ref Ta, .ref Dj, .ref Di, .ref Le, .ref p, .str "aB", .str "123456789"]) = HG at c7 k7 ⊢
    have c17 := (((((c1.trans c2).trans c3).trans c4).trans c5).trans c6).trans c7
    have k0G := c17 _ _ k0
    refine ⟨L1, M2, _, _, rfl, rfl, k0G, k7, by show 12 + 13 ≤ sizeLine; decide, fun LL hLL => ?_⟩
    have c07 := c0.trans c17
    have nLL : LL ≠ l := fun z => by
      rw [z, c07 _ _ hlx] at hLL
      cases hLL
    refine ⟨_, rfl, _, rfl, l, c, LL, _, k, rfl, PN.mono (c07.trans (same1 hLL)) (Nat.le_refl _), by omega, upd_same, nLL, by show 0 < 25; decide, by show 25 < 1000000; decide, fun j x H8 hj b8 p8 => ?_⟩
    have k8 : ∀ b o, HG b = some o → b ≠ l → H8 b = some o := fun b o hb hn => b8 _ _ (same1 hLL _ _ hb) hn
    have nl : ∀ {b : Addr} {o : HO}, HG b = some o → (∀ xs, o ≠ .lst xs) → b ≠ l := fun hb ho => ne_of hb (c07 _ _ hlx) (fun z => ho _ z)
    have nLa : La ≠ l := fun z => by
      rw [z, c0 _ _ hlx] at hLa
      cases hLa
    have nLe : Le ≠ l := fun z => by
      rw [z, ((((c0.trans c1).trans c2).trans c3).trans c4) _ _ hlx] at hLe
      cases hLe
    have py := pt_nm hy
    have rs := Nat.le_trans (ascii_rep py) (show 10 * 8 + 2 ≤ 4000 by decide)
    have xLa := c7 _ _ (c6 _ _ (c5 _ _ (c4 _ _ (c3 _ _ (c2 _ _ kLa)))))
    have xTa := c7 _ _ (c6 _ _ (c5 _ _ (c4 _ _ (c3 _ _ kTa))))
    have xDj := c7 _ _ (c6 _ _ (c5 _ _ (c4 _ _ kDj)))
    have xDi := c7 _ _ (c6 _ _ (c5 _ _ kDi))
    have xLe := c7 _ _ (c6 _ _ kLe)
    have PG := Pp.mono c7
    have P8 : PlA a.C H8 p [y] := by
      obtain ⟨d, u, h1, h2⟩ := PG
      exact ⟨d, u, k8 _ _ h1 (nl h1 (by intro xs z; cases z)), k8 _ _ h2 (nl h2 (by intro xs z; cases z))⟩
    have sp1 : Pt 1 (" " : Str) := ⟨by decide +kernel, by decide +kernel⟩
    have sl1 : Pt 1 ("/" : Str) := ⟨by decide +kernel, by decide +kernel⟩
    have b32 : (32 : Nat) ∉ tl SIGNS := by decide +kernel
    have b47 : (47 : Nat) ∉ tl SIGNS := by decide +kernel
    have t32 : tl (" " : Str) = [32] := by decide +kernel
    refine q x H8 (fun b o hb hn => k8 _ _ (c07 _ _ hb) hn) ?_ ?_ p8
    rotate_left
    · intro b xs e hb
      have hx := List.mem_of_getElem? hj
      simp only [List.mem_append, List.mem_cons, List.not_mem_nil, or_false] at hx
      rcases hx with (h | h | h | h | h | h | h | h | h | h | h | h) | (h | h | h | h | h | h | h | h | h | h | h | h | h) <;> rw [h] at e <;> first | (cases e; done) | skip
      · cases e
        exact none_of c0 hLa
      · cases e
        rw [k8 _ _ xTa (nl xTa (by intro xs z; cases z))] at hb
        cases hb
      · cases e
        rw [k8 _ _ xDj (nl xDj (by intro xs z; cases z))] at hb
        cases hb
      · cases e
        rw [k8 _ _ xDi (nl xDi (by intro xs z; cases z))] at hb
        cases hb
      · cases e
        exact none_of ((((c0.trans c1).trans c2).trans c3).trans c4) hLe
      · cases e
        obtain ⟨d, u, h1, h2⟩ := P8
        rw [h1] at hb
        cases hb
    have hx := List.mem_of_getElem? hj
    simp only [List.mem_append, List.mem_cons, List.not_mem_nil, or_false] at hx
    rcases hx with (h | h | h | h | h | h | h | h | h | h | h | h) | (h | h | h | h | h | h | h | h | h | h | h | h | h)
    · rw [h]; exact ⟨.inl (Sh.pt ⟨by decide +kernel, by decide +kernel⟩), by decide +kernel⟩
    · rw [h]; exact ⟨.inl (Sh.pt ⟨by decide +kernel, by decide +kernel⟩), by decide +kernel⟩
    · rw [h]; exact ⟨.inl (Sh.pt ((py.app sp1).mono (by decide))), okN_bad (c := 32) (by rw [tl_append, t32]; simp) b32⟩
    · rw [h]; exact ⟨.inl (Sh.pt ((sp1.app py).mono (by decide))), okN_bad (c := 32) (by rw [tl_append, t32]; simp) b32⟩
    · rw [h]; exact ⟨.inl (Sh.pt ((py.app sl1).mono (by decide))), okN_bad (c := 47) (by rw [tl_append, tl_slash]; simp) b47⟩
    · rw [h]; exact ⟨.inl (Sh.pt ((sl1.app py).mono (by decide))), okN_bad (c := 47) (by rw [tl_append, tl_slash]; simp) b47⟩
    · rw [h]; exact ⟨.inl (Sh.pt ⟨by decide +kernel, by decide +kernel⟩), by decide +kernel⟩
    · rw [h]; exact ⟨.inl (Sh.pt ⟨by decide +kernel, by decide +kernel⟩), by decide +kernel⟩
    · rw [h]; exact ⟨.inl (Sh.pt ⟨by decide +kernel, by decide +kernel⟩), by decide +kernel⟩
    · rw [h]; exact ⟨.inl (Sh.pt ⟨by decide +kernel, by decide +kernel⟩), by decide +kernel⟩
    · rw [h]; exact ⟨.inl (Sh.pt ⟨by decide +kernel, by decide +kernel⟩), by decide +kernel⟩
    · rw [h]; exact ⟨.inl (Sh.pt ⟨by decide +kernel, by decide +kernel⟩), by decide +kernel⟩
    · rw [h]; exact ⟨.inl .non, rfl⟩
    · rw [h]; exact ⟨.inl (.bl true), rfl⟩
    · rw [h]; exact ⟨.inl (.bl false), rfl⟩
    · rw [h]; exact ⟨.inl (.int 0 (.inl rfl)), rfl⟩
    · rw [h]; exact ⟨.inl (.int 7 (.inr rfl)), rfl⟩
    · rw [h]; exact ⟨.inl (.lst La [y] (k8 _ _ xLa nLa) (fun z hz => by rw [List.mem_singleton.mp hz]; omega) (by simp)), rfl⟩
    · rw [h]; exact ⟨.inl (.tup Ta [y] (k8 _ _ xTa (nl xTa (by intro xs z; cases z))) (fun z hz => by rw [List.mem_singleton.mp hz]; omega) (by simp)), rfl⟩
    · rw [h]; exact ⟨.inl (.dct1 Dj y (k8 _ _ xDj (nl xDj (by intro xs z; cases z))) rs), rfl⟩
    · rw [h]; exact ⟨.inl (.dct Di (k8 _ _ xDi (nl xDi (by intro xs z; cases z)))), rfl⟩
    · rw [h]; exact ⟨.inl (.lst Le [] (k8 _ _ xLe nLe) (by simp) (by simp)), rfl⟩
    · rw [h]; exact ⟨.inr ⟨p, [y], rfl, P8, ⟨by simp, by simpa using hy⟩⟩, rfl⟩
    · rw [h]; exact ⟨.inl (Sh.pt ⟨by decide +kernel, by decide +kernel⟩), by decide +kernel⟩
    · rw [h]; exact ⟨.inl (Sh.pt ⟨by decide +kernel, by decide +kernel⟩), by decide +kernel⟩
end
end Pl

namespace Pl
open PySem L2 Own TL RZ LamX
theorem PE.both {X : Cx} {e : Expr} {t1 t2 : TE} (h1 : PE X e t1) (h2 : PE X e t2) : PE X e (fun σ H Q => t1 σ H Q ∨ t2 σ H Q) :=
  ⟨fun pins s σ H Q I h => h.elim (fun z => h1.run pins s σ H Q I z) fun z => h2.run pins s σ H Q I z⟩
theorem pe_lamE {X : Cx} {T : List (Addr × Str)} {c P : Addr} {L : LamW} {pr : Arguments} {bd : Expr} {sc : Scope} {pos : Pos} (e : L = ⟨pr, bd, sc⟩) (TB : TabB X.base X.mg c P) (hcode : X.env.code = .ref c) (hm : (P, X.env.qual ++ "<lambda>") ∈ T)
    (hu : ∀ p ∈ T, p.1 = P → p.2 = X.env.qual ++ "<lambda>") (LS : LamS X.env.scope sc) (hdef : defaultsOf pr X.env = ([], [])) : PE X (.Lambda pr bd sc pos) (tLamV X T L) := by
  subst e
  exact pe_lamV (L := ⟨pr, bd, sc⟩) TB hcode hm hu LS hdef
/-! ### a place of up to ten values -/
abbrev sPlc : Stmt := top 40
abbrev Npl : List Str := ["_law_some", "_law_whole", "_law_a", "_law_b", "_law_c", "_law_d", "_law_e", "_law_f", "_law_g", "_law_h", "_law_i", "_law_j", "_law_ways", "_law_way"]
theorem scPlc : FnScope Npl ["_law_some"] (defScope sPlc) := ⟨rfl, rfl, rfl, by decide +kernel, rfl, by decide +kernel, by decide +kernel⟩
def qPlc : Str := (PyProof.Rows.envOfC "_law_placed" (defScope sPlc) 0 0 .none).qual ++ "<lambda>"
def wayAt (i : Nat) : Expr := match (defBody sPlc).getD 3 (.Pass ⟨0, 0, 0, 0⟩) with
  | .Assign _ (.List es _) _ => es.getD i (.Name "" ⟨0, 0, 0, 0⟩)
  | _ => .Name "" ⟨0, 0, 0, 0⟩
def lamW (i : Nat) : LamW := match wayAt i with
  | .Lambda p b s _ => ⟨p, b, s⟩
  | e => ⟨defArgs sPlc, e, defScope sPlc⟩
/-- what making a place of some values gives, behind what was done ahead -/
def spPlc (K : PySem.W.Frag) (a : Ad) (Tb : List (Addr × Str)) : Sp := fun vs H Q E => ∃ m xs, vs = [.ref m] ∧ H m = some (.lst xs) ∧ xs.length ≤ 10 ∧ Tabs Tb H ∧ ∀ H', ExtN H H' → Tabs Tb H' → MkOut K a.C a.CN a.CM xs H' Q E
theorem lamO_ne {X : Cx} {L : LamW} {f c' : Addr} : ∀ ps, LamO X L f c' ≠ .tbl ps := fun ps z => by
  have z' : HO.ext _ = HO.tbl ps := z
  cases z'
theorem rep_one (n : Nat) : (List.replicate n [V.str ""]).flatten = List.replicate n (V.str "") := by
  induction n with
  | zero => rfl
  | succ n ih => rw [List.replicate_succ, List.flatten_cons, ih]; rfl
theorem ten {xs : List V} (h : xs.length = 10) : ∃ b0 b1 b2 b3 b4 b5 b6 b7 b8 b9, xs = [b0, b1, b2, b3, b4, b5, b6, b7, b8, b9] := by
  match xs, h with
  | [b0, b1, b2, b3, b4, b5, b6, b7, b8, b9], _ => exact ⟨b0, b1, b2, b3, b4, b5, b6, b7, b8, b9, rfl⟩
theorem cut5a {b0 b1 b2 b3 b4 b5 b6 b7 b8 b9 : V} : cutV [b0, b1, b2, b3, b4, b5, b6, b7, b8, b9] none (some 5) = [b0, b1, b2, b3, b4] := rfl
theorem cut5b {b0 b1 b2 b3 b4 b5 b6 b7 b8 b9 : V} : cutV [b0, b1, b2, b3, b4, b5, b6, b7, b8, b9] (some 5) none = [b5, b6, b7, b8, b9] := rfl
section
variable {P : Program} {w : World} {K : PySem.W.Frag} {mg : Str → Option Value} {base : Heap} {a : Ad} {f : Addr}
theorem gPlc {c0 P0 : Addr} {Tb : List (Addr × Str)} {oc kV doc pm ct : Value} {od an : Option Addr} {osl : Array (Option Value)} (W : Wo P w K mg base a)
    (lk : K.lookup f = some ⟨oc, od, .func (PySem.W.fnOf "_law_placed" "_law_placed" (defArgs sPlc) (defBody sPlc) (defScope sPlc) .none kV doc pm an (.ref c0) ct), osl⟩) (hcd : PySem.W.codeIn K (.ref c0) "_law_placed" = true)
    (bF : L2.Binds K (PySem.W.fnOf "_law_placed" "_law_placed" (defArgs sPlc) (defBody sPlc) (defScope sPlc) .none kV doc pm an (.ref c0) ct) ["_law_some"] [])
    (TB : TabB base mg c0 P0) (hmT : (P0, qPlc) ∈ Tb) (hu : ∀ p ∈ Tb, p.1 = P0 → p.2 = qPlc) : FnR P w K mg base (L2.CX P w) 6 f (spPlc K a Tb) := by
  refine fnR_lk lk hcd scPlc bF (fun vs H Q E h => ?_) (fun A outer s H vs Q E hr h => ?_)
  · obtain ⟨m, xs, rfl, _⟩ := h
    rfl
  obtain ⟨m, xs, rfl, hm, hl, hT, out⟩ := h
  have big : (1000 : Nat) ≤ sizeLine := by decide
  refine ⟨_, pss_cons (ps_set (i := 1) scPlc.nd rfl (by first | exact Or.inl rfl | exact Or.inr rfl) (pe_op op_cat (pv 0) (pe_op op_rep (pe_lst (pa_cons pe_str pa_nil)) (pe_op op_sub pe_int (pe_callB call_len_seq (by rfl) W.T.b.len PySem.boot_len (pa_cons (pv 0) pa_nil))))))
    (pss_cons (ps_asg (pe_slice sl_list (pv 1) po_none (po_some pe_int)) (pg_unl rfl (pgs_cons (pg_name (i := 2) scPlc.nd rfl (by first | exact Or.inl rfl | exact Or.inr rfl)) (pgs_cons (pg_name (i := 3) scPlc.nd rfl (by first | exact Or.inl rfl | exact Or.inr rfl)) (pgs_cons (pg_name (i := 4) scPlc.nd rfl (by first | exact Or.inl rfl | exact Or.inr rfl)) (pgs_cons (pg_name (i := 5) scPlc.nd rfl (by first | exact Or.inl rfl | exact Or.inr rfl)) (pgs_cons (pg_name (i := 6) scPlc.nd rfl (by first | exact Or.inl rfl | exact Or.inr rfl)) pgs_nil)))))))
    (pss_cons (ps_asg (pe_slice sl_list (pv 1) (po_some pe_int) po_none) (pg_unl rfl (pgs_cons (pg_name (i := 7) scPlc.nd rfl (by first | exact Or.inl rfl | exact Or.inr rfl)) (pgs_cons (pg_name (i := 8) scPlc.nd rfl (by first | exact Or.inl rfl | exact Or.inr rfl)) (pgs_cons (pg_name (i := 9) scPlc.nd rfl (by first | exact Or.inl rfl | exact Or.inr rfl)) (pgs_cons (pg_name (i := 10) scPlc.nd rfl (by first | exact Or.inl rfl | exact Or.inr rfl)) (pgs_cons (pg_name (i := 11) scPlc.nd rfl (by first | exact Or.inl rfl | exact Or.inr rfl)) pgs_nil)))))))
    (pss_cons (ps_set (i := 12) scPlc.nd rfl (by first | exact Or.inl rfl | exact Or.inr rfl) (pe_lst (pa_cons (pe_lamE (L := lamW 0) (T := Tb) (c := c0) (P := P0) rfl TB rfl hmT hu (lamS_by (sc := defScope sPlc) (by decide +kernel)) rfl) (pa_cons (pe_lamE (L := lamW 1) (T := Tb) (c := c0) (P := P0) rfl TB rfl hmT hu (lamS_by (sc := defScope sPlc) (by decide +kernel)) rfl) (pa_cons (pe_lamE (L := lamW 2) (T := Tb) (c := c0) (P := P0) rfl TB rfl hmT hu (lamS_by (sc := defScope sPlc) (by decide +kernel)) rfl) (pa_cons (pe_lamE (L := lamW 3) (T := Tb) (c := c0) (P := P0) rfl TB rfl hmT hu (lamS_by (sc := defScope sPlc) (by decide +kernel)) rfl) (pa_cons (pe_lamE (L := lamW 4) (T := Tb) (c := c0) (P := P0) rfl TB rfl hmT hu (lamS_by (sc := defScope sPlc) (by decide +kernel)) rfl) (pa_cons (pe_lamE (L := lamW 5) (T := Tb) (c := c0) (P := P0) rfl TB rfl hmT hu (lamS_by (sc := defScope sPlc) (by decide +kernel)) rfl) (pa_cons (pe_lamE (L := lamW 6) (T := Tb) (c := c0) (P := P0) rfl TB rfl hmT hu (lamS_by (sc := defScope sPlc) (by decide +kernel)) rfl) (pa_cons (pe_lamE (L := lamW 7) (T := Tb) (c := c0) (P := P0) rfl TB rfl hmT hu (lamS_by (sc := defScope sPlc) (by decide +kernel)) rfl) (pa_cons (pe_lamE (L := lamW 8) (T := Tb) (c := c0) (P := P0) rfl TB rfl hmT hu (lamS_by (sc := defScope sPlc) (by decide +kernel)) rfl) (pa_cons (pe_lamE (L := lamW 9) (T := Tb) (c := c0) (P := P0) rfl TB rfl hmT hu (lamS_by (sc := defScope sPlc) (by decide +kernel)) rfl) (pa_cons (pe_lamE (L := lamW 10) (T := Tb) (c := c0) (P := P0) rfl TB rfl hmT hu (lamS_by (sc := defScope sPlc) (by decide +kernel)) rfl) pa_nil)))))))))))))
    (pss_cons (ps_set (i := 13) scPlc.nd rfl (by first | exact Or.inl rfl | exact Or.inr rfl) (pe_ix ix_list (pv 12) (pe_callB call_len_seq (by rfl) W.T.b.len PySem.boot_len (pa_cons (pv 0) pa_nil)) (fun _ _ => rfl)))
    (pss_one (ps_ret (PE.both (pe_callLam (L := lamW 0) (k := 4) (E := E) (lamS_by (sc := defScope sPlc) (by decide +kernel)) (fun _ _ _ _ _ => rfl) (passes_call (takes_of rfl rfl rfl rfl) fun _ _ _ _ h => h) hr (fun A' outer' s' H' f' c' hr' => pe_makeR0 W.mMk W.cMkA (hr'.mono (by decide)) (by rfl) W.U.mgC (passes_call (takes_of rfl rfl rfl rfl) fun _ _ _ _ h => h)) (i := 13) rfl (by first | exact Or.inl rfl | exact Or.inr rfl))
      (PE.both (pe_callLam (L := lamW 1) (k := 4) (E := E) (lamS_by (sc := defScope sPlc) (by decide +kernel)) (fun _ _ _ _ _ => rfl) (passes_call (takes_of rfl rfl rfl rfl) fun _ _ _ _ h => h) hr (fun A' outer' s' H' f' c' hr' => StX.pe_makeR W.mMk W.cMkA (hr'.mono (by decide)) (by rfl) W.U.mgC (passes_call (takes_of rfl rfl rfl rfl) fun _ _ _ _ h => h) (pa_cons (pv 2) pa_nil)) (i := 13) rfl (by first | exact Or.inl rfl | exact Or.inr rfl))
      (PE.both (pe_callLam (L := lamW 2) (k := 4) (E := E) (lamS_by (sc := defScope sPlc) (by decide +kernel)) (fun _ _ _ _ _ => rfl) (passes_call (takes_of rfl rfl rfl rfl) fun _ _ _ _ h => h) hr (fun A' outer' s' H' f' c' hr' => StX.pe_makeR W.mMk W.cMkA (hr'.mono (by decide)) (by rfl) W.U.mgC (passes_call (takes_of rfl rfl rfl rfl) fun _ _ _ _ h => h) (pa_cons (pv 2) (pa_cons (pv 3) pa_nil))) (i := 13) rfl (by first | exact Or.inl rfl | exact Or.inr rfl))
      (PE.both (pe_callLam (L := lamW 3) (k := 4) (E := E) (lamS_by (sc := defScope sPlc) (by decide +kernel)) (fun _ _ _ _ _ => rfl) (passes_call (takes_of rfl rfl rfl rfl) fun _ _ _ _ h => h) hr (fun A' outer' s' H' f' c' hr' => StX.pe_makeR W.mMk W.cMkA (hr'.mono (by decide)) (by rfl) W.U.mgC (passes_call (takes_of rfl rfl rfl rfl) fun _ _ _ _ h => h) (pa_cons (pv 2) (pa_cons (pv 3) (pa_cons (pv 4) pa_nil)))) (i := 13) rfl (by first | exact Or.inl rfl | exact Or.inr rfl))
      (PE.both (pe_callLam (L := lamW 4) (k := 4) (E := E) (lamS_by (sc := defScope sPlc) (by decide +kernel)) (fun _ _ _ _ _ => rfl) (passes_call (takes_of rfl rfl rfl rfl) fun _ _ _ _ h => h) hr (fun A' outer' s' H' f' c' hr' => StX.pe_makeR W.mMk W.cMkA (hr'.mono (by decide)) (by rfl) W.U.mgC (passes_call (takes_of rfl rfl rfl rfl) fun _ _ _ _ h => h) (pa_cons (pv 2) (pa_cons (pv 3) (pa_cons (pv 4) (pa_cons (pv 5) pa_nil))))) (i := 13) rfl (by first | exact Or.inl rfl | exact Or.inr rfl))
      (PE.both (pe_callLam (L := lamW 5) (k := 4) (E := E) (lamS_by (sc := defScope sPlc) (by decide +kernel)) (fun _ _ _ _ _ => rfl) (passes_call (takes_of rfl rfl rfl rfl) fun _ _ _ _ h => h) hr (fun A' outer' s' H' f' c' hr' => StX.pe_makeR W.mMk W.cMkA (hr'.mono (by decide)) (by rfl) W.U.mgC (passes_call (takes_of rfl rfl rfl rfl) fun _ _ _ _ h => h) (pa_cons (pv 2) (pa_cons (pv 3) (pa_cons (pv 4) (pa_cons (pv 5) (pa_cons (pv 6) pa_nil)))))) (i := 13) rfl (by first | exact Or.inl rfl | exact Or.inr rfl))
      (PE.both (pe_callLam (L := lamW 6) (k := 4) (E := E) (lamS_by (sc := defScope sPlc) (by decide +kernel)) (fun _ _ _ _ _ => rfl) (passes_call (takes_of rfl rfl rfl rfl) fun _ _ _ _ h => h) hr (fun A' outer' s' H' f' c' hr' => StX.pe_makeR W.mMk W.cMkA (hr'.mono (by decide)) (by rfl) W.U.mgC (passes_call (takes_of rfl rfl rfl rfl) fun _ _ _ _ h => h) (pa_cons (pv 2) (pa_cons (pv 3) (pa_cons (pv 4) (pa_cons (pv 5) (pa_cons (pv 6) (pa_cons (pv 7) pa_nil))))))) (i := 13) rfl (by first | exact Or.inl rfl | exact Or.inr rfl))
      (PE.both (pe_callLam (L := lamW 7) (k := 4) (E := E) (lamS_by (sc := defScope sPlc) (by decide +kernel)) (fun _ _ _ _ _ => rfl) (passes_call (takes_of rfl rfl rfl rfl) fun _ _ _ _ h => h) hr (fun A' outer' s' H' f' c' hr' => StX.pe_makeR W.mMk W.cMkA (hr'.mono (by decide)) (by rfl) W.U.mgC (passes_call (takes_of rfl rfl rfl rfl) fun _ _ _ _ h => h) (pa_cons (pv 2) (pa_cons (pv 3) (pa_cons (pv 4) (pa_cons (pv 5) (pa_cons (pv 6) (pa_cons (pv 7) (pa_cons (pv 8) pa_nil)))))))) (i := 13) rfl (by first | exact Or.inl rfl | exact Or.inr rfl))
      (PE.both (pe_callLam (L := lamW 8) (k := 4) (E := E) (lamS_by (sc := defScope sPlc) (by decide +kernel)) (fun _ _ _ _ _ => rfl) (passes_call (takes_of rfl rfl rfl rfl) fun _ _ _ _ h => h) hr (fun A' outer' s' H' f' c' hr' => StX.pe_makeR W.mMk W.cMkA (hr'.mono (by decide)) (by rfl) W.U.mgC (passes_call (takes_of rfl rfl rfl rfl) fun _ _ _ _ h => h) (pa_cons (pv 2) (pa_cons (pv 3) (pa_cons (pv 4) (pa_cons (pv 5) (pa_cons (pv 6) (pa_cons (pv 7) (pa_cons (pv 8) (pa_cons (pv 9) pa_nil))))))))) (i := 13) rfl (by first | exact Or.inl rfl | exact Or.inr rfl))
      (PE.both (pe_callLam (L := lamW 9) (k := 4) (E := E) (lamS_by (sc := defScope sPlc) (by decide +kernel)) (fun _ _ _ _ _ => rfl) (passes_call (takes_of rfl rfl rfl rfl) fun _ _ _ _ h => h) hr (fun A' outer' s' H' f' c' hr' => StX.pe_makeR W.mMk W.cMkA (hr'.mono (by decide)) (by rfl) W.U.mgC (passes_call (takes_of rfl rfl rfl rfl) fun _ _ _ _ h => h) (pa_cons (pv 2) (pa_cons (pv 3) (pa_cons (pv 4) (pa_cons (pv 5) (pa_cons (pv 6) (pa_cons (pv 7) (pa_cons (pv 8) (pa_cons (pv 9) (pa_cons (pv 10) pa_nil)))))))))) (i := 13) rfl (by first | exact Or.inl rfl | exact Or.inr rfl))
      (pe_callLam (L := lamW 10) (k := 4) (E := E) (lamS_by (sc := defScope sPlc) (by decide +kernel)) (fun _ _ _ _ _ => rfl) (passes_call (takes_of rfl rfl rfl rfl) fun _ _ _ _ h => h) hr (fun A' outer' s' H' f' c' hr' => StX.pe_makeR W.mMk W.cMkA (hr'.mono (by decide)) (by rfl) W.U.mgC (passes_call (takes_of rfl rfl rfl rfl) fun _ _ _ _ h => h) (pa_cons (pv 2) (pa_cons (pv 3) (pa_cons (pv 4) (pa_cons (pv 5) (pa_cons (pv 6) (pa_cons (pv 7) (pa_cons (pv 8) (pa_cons (pv 9) (pa_cons (pv 10) (pa_cons (pv 11) pa_nil))))))))))) (i := 13) rfl (by first | exact Or.inl rfl | exact Or.inr rfl)))))))))))))))))), ?_⟩
  refine ⟨_, rfl, by show 1 ≤ sizeLine; decide, fun p1 hp1 => ?_⟩
  have c1 := same1 (o := .lst [V.str ""]) hp1
  have k1 : upd H p1 (.lst [V.str ""]) p1 = some (.lst [V.str ""]) := upd_same
  generalize upd H p1 (.lst [V.str ""]) = H1 at c1 k1 ⊢
  refine ⟨_, rfl, m, xs, rfl, .inl (SqL.of (c1 _ _ hm)), _, _, rfl, rfl, p1, _, [V.str ""], rfl, rfl, k1, by omega, by omega, ?_, fun p2 hp2 => ?_⟩
  · rw [List.length_singleton]
    omega
  have e2 : (List.replicate ((10 : Int) - (xs.length : Nat)).toNat [V.str ""]).flatten = List.replicate (10 - xs.length) (V.str "") := by
    rw [rep_one]
    congr 1
    omega
  rw [e2]
  have c2 := same1 (o := .lst (List.replicate (10 - xs.length) (V.str ""))) hp2
  have k2 : upd H1 p2 (.lst (List.replicate (10 - xs.length) (V.str ""))) p2 = some (.lst (List.replicate (10 - xs.length) (V.str ""))) := upd_same
  generalize upd H1 p2 (.lst (List.replicate (10 - xs.length) (V.str ""))) = H2 at c2 k2 ⊢
  refine ⟨m, p2, _, _, rfl, rfl, (c1.trans c2) _ _ hm, k2, by rw [List.length_replicate]; omega, fun p3 hp3 => ?_⟩
  have len10 : (xs ++ List.replicate (10 - xs.length) (V.str "")).length = 10 := by
    rw [List.length_append, List.length_replicate]
    omega
  obtain ⟨b0, b1, b2, b3, b4, b5, b6, b7, b8, b9, eW⟩ := ten len10
  rw [eW]
  have c3 := same1 (o := .lst [b0, b1, b2, b3, b4, b5, b6, b7, b8, b9]) hp3
  have k3 : upd H2 p3 (.lst [b0, b1, b2, b3, b4, b5, b6, b7, b8, b9]) p3 = some (.lst [b0, b1, b2, b3, b4, b5, b6, b7, b8, b9]) := upd_same
  generalize upd H2 p3 (.lst [b0, b1, b2, b3, b4, b5, b6, b7, b8, b9]) = H3 at c3 k3 ⊢
  refine ⟨_, rfl, _, rfl, p3, _, rfl, SqL.of k3, fun p4 hp4 => ?_⟩
  rw [cut5a]
  have c4 := same1 (o := .lst [b0, b1, b2, b3, b4]) hp4
  have k4 : upd H3 p4 (.lst [b0, b1, b2, b3, b4]) p4 = some (.lst [b0, b1, b2, b3, b4]) := upd_same
  generalize upd H3 p4 (.lst [b0, b1, b2, b3, b4]) = H4 at c4 k4 ⊢
  refine ⟨p4, _, rfl, SqL.of k4, rfl, _, _, rfl, _, _, rfl, _, _, rfl, _, _, rfl, _, _, rfl, rfl, ?_⟩
  refine ⟨_, rfl, _, rfl, p3, _, rfl, SqL.of (c4 _ _ k3), fun p5 hp5 => ?_⟩
  rw [cut5b]
  have c5 := same1 (o := .lst [b5, b6, b7, b8, b9]) hp5
  have k5 : upd H4 p5 (.lst [b5, b6, b7, b8, b9]) p5 = some (.lst [b5, b6, b7, b8, b9]) := upd_same
  generalize upd H4 p5 (.lst [b5, b6, b7, b8, b9]) = H6 at c5 k5 ⊢
  refine ⟨p5, _, rfl, SqL.of k5, rfl, _, _, rfl, _, _, rfl, _, _, rfl, _, _, rfl, _, _, rfl, rfl, ?_⟩
  have c06 := (((c1.trans c2).trans c3).trans c4).trans c5
  have TH6 : Tabs Tb H6 := hT.ext c06
  refine ⟨TH6, fun f0 g0 J0 eX0 TJ0 nf0 pf0 pg0 => ?_⟩
  have eX0 : ExtN H6 J0 := eX0
  refine ⟨TJ0, fun f1 g1 J1 eX1 TJ1 nf1 pf1 pg1 => ?_⟩
  have eX1 : ExtN J0 J1 := eX1
  refine ⟨TJ1, fun f2 g2 J2 eX2 TJ2 nf2 pf2 pg2 => ?_⟩
  have eX2 : ExtN J1 J2 := eX2
  refine ⟨TJ2, fun f3 g3 J3 eX3 TJ3 nf3 pf3 pg3 => ?_⟩
  have eX3 : ExtN J2 J3 := eX3
  refine ⟨TJ3, fun f4 g4 J4 eX4 TJ4 nf4 pf4 pg4 => ?_⟩
  have eX4 : ExtN J3 J4 := eX4
  refine ⟨TJ4, fun f5 g5 J5 eX5 TJ5 nf5 pf5 pg5 => ?_⟩
  have eX5 : ExtN J4 J5 := eX5
  refine ⟨TJ5, fun f6 g6 J6 eX6 TJ6 nf6 pf6 pg6 => ?_⟩
  have eX6 : ExtN J5 J6 := eX6
  refine ⟨TJ6, fun f7 g7 J7 eX7 TJ7 nf7 pf7 pg7 => ?_⟩
  have eX7 : ExtN J6 J7 := eX7
  refine ⟨TJ7, fun f8 g8 J8 eX8 TJ8 nf8 pf8 pg8 => ?_⟩
  have eX8 : ExtN J7 J8 := eX8
  refine ⟨TJ8, fun f9 g9 J9 eX9 TJ9 nf9 pf9 pg9 => ?_⟩
  have eX9 : ExtN J8 J9 := eX9
  refine ⟨TJ9, fun f10 g10 J10 eX10 TJ10 nf10 pf10 pg10 => ?_⟩
  have eX10 : ExtN J9 J10 := eX10
  refine ⟨by show 11 ≤ sizeLine; decide, fun D hD => ?_⟩
  have cD := same1 (o := .lst [V.ref f0, .ref f1, .ref f2, .ref f3, .ref f4, .ref f5, .ref f6, .ref f7, .ref f8, .ref f9, .ref f10]) hD
  have kD : upd J10 D (.lst [V.ref f0, .ref f1, .ref f2, .ref f3, .ref f4, .ref f5, .ref f6, .ref f7, .ref f8, .ref f9, .ref f10]) D = some (.lst [V.ref f0, .ref f1, .ref f2, .ref f3, .ref f4, .ref f5, .ref f6, .ref f7, .ref f8, .ref f9, .ref f10]) := upd_same
  generalize upd J10 D (.lst [V.ref f0, .ref f1, .ref f2, .ref f3, .ref f4, .ref f5, .ref f6, .ref f7, .ref f8, .ref f9, .ref f10]) = HD at cD kD ⊢
  have x10 : ExtN J10 HD := ExtN.of cD
  have x9 : ExtN J9 HD := eX10.trans x10
  have x8 : ExtN J8 HD := eX9.trans x9
  have x7 : ExtN J7 HD := eX8.trans x8
  have x6 : ExtN J6 HD := eX7.trans x7
  have x5 : ExtN J5 HD := eX6.trans x6
  have x4 : ExtN J4 HD := eX5.trans x5
  have x3 : ExtN J3 HD := eX4.trans x4
  have x2 : ExtN J2 HD := eX3.trans x3
  have x1 : ExtN J1 HD := eX2.trans x2
  have x0 : ExtN J0 HD := eX1.trans x1
  have x06 : ExtN H6 HD := eX0.trans x0
  have xH : ExtN H HD := (ExtN.of c06).trans x06
  have TD : Tabs Tb HD := TJ10.ext cD
  have out := out HD xH TD
  have mD := extn_lst xH hm
  have cases11 : xs.length = 0 ∨ xs.length = 1 ∨ xs.length = 2 ∨ xs.length = 3 ∨ xs.length = 4 ∨ xs.length = 5 ∨ xs.length = 6 ∨ xs.length = 7 ∨ xs.length = 8 ∨ xs.length = 9 ∨ xs.length = 10 := by omega
  obtain ⟨z, hz⟩ : ∃ z, [V.ref f0, .ref f1, .ref f2, .ref f3, .ref f4, .ref f5, .ref f6, .ref f7, .ref f8, .ref f9, .ref f10][xs.length]? = some z := ⟨_, List.getElem?_eq_getElem (by show xs.length < 11; omega)⟩
  refine ⟨.ref D, by kernel_rfl, .ref m, by kernel_rfl, m, xs, rfl, .inl (SqL.of mD), D, _, _, z, rfl, rfl, SqL.of kD, atI_nat hz, ?_⟩
  rcases cases11 with h | h | h | h | h | h | h | h | h | h | h
  · have ex : xs = [] := by
      have z := congrArg (List.take 0) eW
      rw [List.take_left' h] at z
      exact z
    rw [h] at hz
    have ez : z = V.ref f0 := (Option.some.inj hz).symm
    subst ez
    rw [ex] at out
    exact .inl ⟨f0, g0, by kernel_rfl, x0 _ _ pf0 lamO_ne, x0 _ _ pg0 codeO_ne, mkA_ok out⟩
  · have ex : xs = [b0] := by
      have z := congrArg (List.take 1) eW
      rw [List.take_left' h] at z
      exact z
    rw [h] at hz
    have ez : z = V.ref f1 := (Option.some.inj hz).symm
    subst ez
    rw [ex] at out
    exact .inr (.inl ⟨f1, g1, by kernel_rfl, x1 _ _ pf1 lamO_ne, x1 _ _ pg1 codeO_ne, b0, by kernel_rfl, mkA_ok out⟩)
  · have ex : xs = [b0, b1] := by
      have z := congrArg (List.take 2) eW
      rw [List.take_left' h] at z
      exact z
    rw [h] at hz
    have ez : z = V.ref f2 := (Option.some.inj hz).symm
    subst ez
    rw [ex] at out
    exact .inr (.inr (.inl ⟨f2, g2, by kernel_rfl, x2 _ _ pf2 lamO_ne, x2 _ _ pg2 codeO_ne, b0, by kernel_rfl, b1, by kernel_rfl, mkA_ok out⟩))
  · have ex : xs = [b0, b1, b2] := by
      have z := congrArg (List.take 3) eW
      rw [List.take_left' h] at z
      exact z
    rw [h] at hz
    have ez : z = V.ref f3 := (Option.some.inj hz).symm
    subst ez
    rw [ex] at out
    exact .inr (.inr (.inr (.inl ⟨f3, g3, by kernel_rfl, x3 _ _ pf3 lamO_ne, x3 _ _ pg3 codeO_ne, b0, by kernel_rfl, b1, by kernel_rfl, b2, by kernel_rfl, mkA_ok out⟩)))
  · have ex : xs = [b0, b1, b2, b3] := by
      have z := congrArg (List.take 4) eW
      rw [List.take_left' h] at z
      exact z
    rw [h] at hz
    have ez : z = V.ref f4 := (Option.some.inj hz).symm
    subst ez
    rw [ex] at out
    exact .inr (.inr (.inr (.inr (.inl ⟨f4, g4, by kernel_rfl, x4 _ _ pf4 lamO_ne, x4 _ _ pg4 codeO_ne, b0, by kernel_rfl, b1, by kernel_rfl, b2, by kernel_rfl, b3, by kernel_rfl, mkA_ok out⟩))))
  · have ex : xs = [b0, b1, b2, b3, b4] := by
      have z := congrArg (List.take 5) eW
      rw [List.take_left' h] at z
      exact z
    rw [h] at hz
    have ez : z = V.ref f5 := (Option.some.inj hz).symm
    subst ez
    rw [ex] at out
    exact .inr (.inr (.inr (.inr (.inr (.inl ⟨f5, g5, by kernel_rfl, x5 _ _ pf5 lamO_ne, x5 _ _ pg5 codeO_ne, b0, by kernel_rfl, b1, by kernel_rfl, b2, by kernel_rfl, b3, by kernel_rfl, b4, by kernel_rfl, mkA_ok out⟩)))))
  · have ex : xs = [b0, b1, b2, b3, b4, b5] := by
      have z := congrArg (List.take 6) eW
      rw [List.take_left' h] at z
      exact z
    rw [h] at hz
    have ez : z = V.ref f6 := (Option.some.inj hz).symm
    subst ez
    rw [ex] at out
    exact .inr (.inr (.inr (.inr (.inr (.inr (.inl ⟨f6, g6, by kernel_rfl, x6 _ _ pf6 lamO_ne, x6 _ _ pg6 codeO_ne, b0, by kernel_rfl, b1, by kernel_rfl, b2, by kernel_rfl, b3, by kernel_rfl, b4, by kernel_rfl, b5, by kernel_rfl, mkA_ok out⟩))))))
  · have ex : xs = [b0, b1, b2, b3, b4, b5, b6] := by
      have z := congrArg (List.take 7) eW
      rw [List.take_left' h] at z
      exact z
    rw [h] at hz
    have ez : z = V.ref f7 := (Option.some.inj hz).symm
    subst ez
    rw [ex] at out
    exact .inr (.inr (.inr (.inr (.inr (.inr (.inr (.inl ⟨f7, g7, by kernel_rfl, x7 _ _ pf7 lamO_ne, x7 _ _ pg7 codeO_ne, b0, by kernel_rfl, b1, by kernel_rfl, b2, by kernel_rfl, b3, by kernel_rfl, b4, by kernel_rfl, b5, by kernel_rfl, b6, by kernel_rfl, mkA_ok out⟩)))))))
  · have ex : xs = [b0, b1, b2, b3, b4, b5, b6, b7] := by
      have z := congrArg (List.take 8) eW
      rw [List.take_left' h] at z
      exact z
    rw [h] at hz
    have ez : z = V.ref f8 := (Option.some.inj hz).symm
    subst ez
    rw [ex] at out
    exact .inr (.inr (.inr (.inr (.inr (.inr (.inr (.inr (.inl ⟨f8, g8, by kernel_rfl, x8 _ _ pf8 lamO_ne, x8 _ _ pg8 codeO_ne, b0, by kernel_rfl, b1, by kernel_rfl, b2, by kernel_rfl, b3, by kernel_rfl, b4, by kernel_rfl, b5, by kernel_rfl, b6, by kernel_rfl, b7, by kernel_rfl, mkA_ok out⟩))))))))
  · have ex : xs = [b0, b1, b2, b3, b4, b5, b6, b7, b8] := by
      have z := congrArg (List.take 9) eW
      rw [List.take_left' h] at z
      exact z
    rw [h] at hz
    have ez : z = V.ref f9 := (Option.some.inj hz).symm
    subst ez
    rw [ex] at out
    exact .inr (.inr (.inr (.inr (.inr (.inr (.inr (.inr (.inr (.inl ⟨f9, g9, by kernel_rfl, x9 _ _ pf9 lamO_ne, x9 _ _ pg9 codeO_ne, b0, by kernel_rfl, b1, by kernel_rfl, b2, by kernel_rfl, b3, by kernel_rfl, b4, by kernel_rfl, b5, by kernel_rfl, b6, by kernel_rfl, b7, by kernel_rfl, b8, by kernel_rfl, mkA_ok out⟩)))))))))
  · have ex : xs = [b0, b1, b2, b3, b4, b5, b6, b7, b8, b9] := by
      have z := congrArg (List.take 10) eW
      rw [List.take_left' h] at z
      exact z
    rw [h] at hz
    have ez : z = V.ref f10 := (Option.some.inj hz).symm
    subst ez
    rw [ex] at out
    exact .inr (.inr (.inr (.inr (.inr (.inr (.inr (.inr (.inr (.inr (⟨f10, g10, by kernel_rfl, x10 _ _ pf10 lamO_ne, x10 _ _ pg10 codeO_ne, b0, by kernel_rfl, b1, by kernel_rfl, b2, by kernel_rfl, b3, by kernel_rfl, b4, by kernel_rfl, b5, by kernel_rfl, b6, by kernel_rfl, b7, by kernel_rfl, b8, by kernel_rfl, b9, by kernel_rfl, mkA_ok out⟩))))))))))
end
end Pl

namespace Pl
open PySem L2 Own TL RZ LamX
/-! ### plain reprs -/
theorem fold_plain : ∀ (l : List Nat) (acc : Array Nat), (∀ c ∈ l, Builtin.Str.reprChar 39 c = [c]) → (l.foldl (fun out c => out ++ (Builtin.Str.reprChar 39 c).toArray) acc).toList = acc.toList ++ l
  | [], acc, _ => by simp
  | c :: r, acc, h => by
    rw [List.foldl_cons, fold_plain r _ fun d hd => h d (List.mem_cons_of_mem _ hd), h c List.mem_cons_self]
    simp
theorem char_plain : ∀ c ∈ 47 :: tl SIGNS, Builtin.Str.reprChar 39 c = [c] := by decide +kernel
theorem repr_plain {s : Str} (h : ∀ c ∈ tl s, c = 47 ∨ c ∈ tl SIGNS) : tl (reprText s) = 39 :: (tl s ++ [39]) := by
  have n39 : (39 : Nat) ∉ tl s := fun z => by
    have a : (39 : Nat) ∉ tl SIGNS := by decide +kernel
    rcases h 39 z with e | e
    · exact absurd e (by decide)
    · exact a e
  have q : reprQuote s = 39 := by
    unfold reprQuote
    have e : s.cps.contains 39 = false := by
      rw [Bool.eq_false_iff]
      intro z
      rw [Array.contains_iff_mem] at z
      exact n39 (by simpa [tl] using z)
    rw [e]
    rfl
  unfold reprText
  rw [q]
  show ((s.cps.foldl _ #[39]).push 39).toList = _
  rw [Array.toList_push, ← Array.foldl_toList, fold_plain _ _ fun c hc => char_plain c (by
    rcases h c (by simpa [tl] using hc) with e | e
    · rw [e]; exact List.mem_cons_self
    · exact List.mem_cons_of_mem _ e)]
  rfl
theorem shown_eq {ns : List Str} (hn : Nms ns) : shown ns = ("Place('" : Str) ++ txt ns ++ ("')" : Str) := by
  refine ext_tl ?_
  unfold shown rtx
  rw [tl_append, tl_append, tl_append, tl_append, tl_append, repr_plain (txt_signs hn)]
  have e1 : tl Str.empty = [] := rfl
  have e2 : tl ("Place(" : Str) = [80, 108, 97, 99, 101, 40] := by decide +kernel
  have e3 : tl (")" : Str) = [41] := by decide +kernel
  have e4 : tl ("Place('" : Str) = [80, 108, 97, 99, 101, 40, 39] := by decide +kernel
  have e5 : tl ("')" : Str) = [39, 41] := by decide +kernel
  rw [e1, e2, e3, e4, e5]
  simp
/-! ### the six things of a place, read -/
def sixV (ns : List Str) (t : Addr) (bx : V) : List V := [.ref t, .str (txt ns), bx, .int (ns.length : Nat), .bl (!ns.isEmpty), .str (txt ns)]
def sixT (ns : List Str) : List Str := [tupleText (ns.map reprText), reprText (txt ns), if ns = [] then "None" else tupleText (ns.dropLast.map reprText), toString ((ns.length : Nat) : Int), if (!ns.isEmpty) = true then "True" else "False", reprText (txt ns)]
theorem nm_rep {s : Str} (h : okN s = true) : (reprText s).length ≤ 100 := Nat.le_trans (ascii_rep (pt_nm h)) (by decide)
theorem nms_sum {ns : List Str} (hn : ∀ n ∈ ns, okN n = true) : ((ns.map reprText).map (·.length)).sum ≤ 100 * ns.length := by
  induction ns with
  | nil => simp
  | cons n r ih =>
    have a := nm_rep (hn n List.mem_cons_self)
    have b := ih fun m hm => hn m (List.mem_cons_of_mem _ hm)
    simp only [List.map_cons, List.sum_cons, List.length_cons] at *
    omega
theorem nms_tup {ns : List Str} (hn : Nms ns) : (tupleText (ns.map reprText)).length ≤ 1000 := by
  have a := tupleText_len_le (ns.map reprText)
  have b := nms_sum hn.2
  have c := hn.1
  rw [List.length_map] at a
  omega
theorem small_int : ∀ n : Fin 9, ((toString ((n.val : Nat) : Int) : String) : Str).length ≤ 10 := by decide +kernel
theorem six_len {ns : List Str} (hn : Nms ns) : (listText (sixT ns)).length ≤ 10000 := by
  have a := listText_len_le (sixT ns)
  have t1 := nms_tup hn
  have t2 := rtx_len hn
  have hd : Nms ns.dropLast := ⟨by rw [List.length_dropLast]; have := hn.1; omega, fun n h => hn.2 n (List.dropLast_subset _ h)⟩
  have t3 := nms_tup hd
  have t4 := small_int ⟨ns.length, by have := hn.1; omega⟩
  have t5 : (if ns = [] then ("None" : Str) else tupleText (ns.dropLast.map reprText)).length ≤ 1000 := by
    split
    · decide +kernel
    · exact t3
  have t6 : (if (!ns.isEmpty) = true then ("True" : Str) else ("False" : Str)).length ≤ 10 := by
    split <;> decide +kernel
  unfold sixT at a ⊢
  simp only [List.map_cons, List.map_nil, List.sum_cons, List.sum_nil, List.length_cons, List.length_nil] at a
  unfold rtx at t2
  dsimp only at t4
  omega
theorem strs_ruN {X : Cx} {as : List Addr} {k : Nat} {H : Hp} {ns : List Str} (hn : ∀ n ∈ ns, okN n = true) : RUs X as k H (ns.map V.str) (ns.map reprText) := by
  induction ns with
  | nil => exact .nil
  | cons n r ih => exact .cons (RU.str n (Nat.le_trans (nm_rep (hn n List.mem_cons_self)) (by decide))) (ih fun m hm => hn m (List.mem_cons_of_mem _ hm))
theorem six_read {X : Cx} {ns : List Str} (hn : Nms ns) {H : Hp} {L t : Addr} {bx : V} {Q : VK} (hL : H L = some (.lst (sixV ns t bx))) (ht : H t = some (.tup (ns.map V.str)))
    (hb : (ns = [] ∧ bx = .non) ∨ ∃ b, ns ≠ [] ∧ bx = .ref b ∧ H b = some (.tup (ns.dropLast.map V.str))) (k : ∀ H2, Same H H2 → Q (.str (listText (sixT ns))) H2) : rRepr X 3 [.ref L] H Q := by
  have n1 : t ≠ L := ne_of ht hL (by intro z; cases z)
  have big : (10000 : Nat) ≤ sizeLine := by decide
  have a6 := six_len hn
  have rt := rtx_len hn
  unfold rtx at rt
  have lg : ∀ n : Fin 9, ((n.val : Nat) : Int).natAbs.log2 < 1920 := by decide +kernel
  have l8 : ((ns.length : Nat) : Int).natAbs.log2 < 1920 := lg ⟨ns.length, by have := hn.1; omega⟩
  rcases hb with ⟨e, rfl⟩ | ⟨b, e, rfl, hb⟩
  · refine ⟨L, _, sixT ns, [t], _, rfl, by simp [n1.symm], ?_, .inr ⟨hL, by unfold sixV; simp, rfl⟩, by omega, k⟩
    unfold sixT sixV
    rw [if_pos e]
    exact .cons ((RU.tuple (as := []) (k := 2) ht (by simp) (strs_ruN hn.2)).more (by simp) (by decide)) (.cons (RU.str _ (by omega)) (.cons RU.non (.cons (RU.int _ l8) (.cons (RU.bl _) (.cons (RU.str _ (by omega)) .nil)))))
  · have n2 : b ≠ L := ne_of hb hL (by intro z; cases z)
    have hd : Nms ns.dropLast := ⟨by rw [List.length_dropLast]; have := hn.1; omega, fun n h => hn.2 n (List.dropLast_subset _ h)⟩
    refine ⟨L, _, sixT ns, [t, b], _, rfl, by simp [n1.symm, n2.symm], ?_, .inr ⟨hL, by unfold sixV; simp, rfl⟩, by omega, k⟩
    unfold sixT sixV
    rw [if_neg e]
    exact .cons ((RU.tuple (as := []) (k := 2) ht (by simp) (strs_ruN hn.2)).more (by simp) (by decide)) (.cons (RU.str _ (by omega)) (.cons ((RU.tuple (as := []) (k := 2) hb (by simp) (strs_ruN hd.2)).more (by simp) (by decide))
      (.cons (RU.int _ l8) (.cons (RU.bl _) (.cons (RU.str _ (by omega)) .nil)))))
end Pl

namespace Pl
open PySem L2 Own TL RZ LamX
/-! ### a thing is the place with these names -/
abbrev sIsP : Stmt := top 42
abbrev Nip : List Str := ["_law_found", "_law_some", "_law_told", "_law_above", "_law_due_here", "_law_heads", "_law_step"]
theorem scIsP : FnScope Nip ["_law_found", "_law_some"] (defScope sIsP) := ⟨rfl, rfl, rfl, by decide +kernel, rfl, by decide +kernel, by decide +kernel⟩
def spIsP (a : Ad) : Sp := fun vs H Q _ => ∃ p m ns, vs = [.ref p, .ref m] ∧ PlA a.C H p ns ∧ Nms ns ∧ H m = some (.lst (ns.map V.str)) ∧ ∀ H', Same H H' → Q (.bl true) H'
theorem lay_list (ns : List Str) (h : ∀ n ∈ ns, PyData.strOk n = true) : SeqAt.shaped (.list (ns.map PyData.str)) = true := shaped_strs ns h
theorem eqv_list (ns ms : List Str) : PyData.eqv (.list (ns.map PyData.str)) (.list (ms.map PyData.str)) = decide (ns = ms) := by
  show PyData.eqvAll _ _ = _
  exact eqv_strsAll ns ms
theorem cut_last {xs : List V} : cutV xs none (some (-1)) = xs.dropLast := by
  unfold cutV
  rw [HT.sIx_none, List.drop_zero, Nat.sub_zero, List.dropLast_eq_take]
  congr 1
  show HT.sIx xs.length xs.length (some (Int.negSucc 0)) = _
  unfold HT.sIx
  simp
  all_goals omega
theorem nil_ok {σ : L2.St} {H : Hp} {Q : List V → Hp → Prop} (h : Q [] H) : tNil σ H Q := h
/-- at E1: the list of the names of each head but those from i on -/
def HeadsAt (H : Hp) (E1 : Addr) (ns : List Str) (i : Nat) : Prop := ∃ us : List Addr, H E1 = some (.lst (us.map V.ref)) ∧ us.length = i ∧ ∀ (j : Nat) (u : Addr), us[j]? = some u → H u = some (.tup ((ns.take j).map V.str))
theorem dp_idx {K : PySem.W.Frag} {H : Hp} : ∀ (us : List Addr) (g : Nat → PyData), (∀ (j : Nat) (u : Addr), us[j]? = some u → Dp K H (.ref u) (g j)) → DpAll K H (us.map V.ref) ((List.range us.length).map g)
  | [], g, _ => .nil
  | u :: us, g, h => by
    rw [List.length_cons, List.range_succ_eq_map, List.map_cons, List.map_cons, List.map_map]
    exact .cons (h 0 u rfl) (dp_idx us (g ∘ Nat.succ) fun j v hv => h (j + 1) v hv)
def headD (ns : List Str) (j : Nat) : PyData := .tuple ((ns.take j).map PyData.str)
theorem heads_dp {K : PySem.W.Frag} {H : Hp} {E1 : Addr} {ns : List Str} {i : Nat} (h : HeadsAt H E1 ns i) : ∃ xs, H E1 = some (.lst xs) ∧ DpAll K H xs ((List.range i).map (headD ns)) := by
  obtain ⟨us, h1, rfl, h3⟩ := h
  exact ⟨_, h1, dp_idx us (headD ns) fun j u hj => .tup (SqT.of (h3 j u hj)) (dp_strs _)⟩
theorem heads_lay {ns : List Str} (hn : ∀ n ∈ ns, PyData.strOk n = true) : ∀ l : List Nat, PyData.canLayAll0 (l.map (headD ns)) = true
  | [] => rfl
  | j :: l => by
    show (PyData.canLay0 (headD ns j) && PyData.canLayAll0 (l.map (headD ns))) = true
    rw [heads_lay hn l]
    have : PyData.canLay0 (headD ns j) = true := lay_strs _ fun n h => hn n (List.mem_of_mem_take h)
    rw [this]
    rfl
theorem heads_depth (ns : List Str) : ∀ l : List Nat, PyData.depthAll (l.map (headD ns)) ≤ 2
  | [] => by simp [PyData.depthAll]
  | j :: l => by
    have a := heads_depth ns l
    have b := depth_strs (ns.take j)
    have c : PyData.depth (headD ns j) = PyData.depthAll ((ns.take j).map PyData.str) + 1 := by unfold headD; simp only [PyData.depth]
    simp only [List.map_cons, PyData.depthAll]
    omega
theorem heads_shaped {ns : List Str} (hn : ∀ n ∈ ns, PyData.strOk n = true) (i : Nat) : SeqAt.shaped (.list ((List.range i).map (headD ns))) = true := by
  unfold SeqAt.shaped
  have h1 : PyData.canLay0 (.list ((List.range i).map (headD ns))) = true := heads_lay hn _
  have h2 : (PyData.list ((List.range i).map (headD ns))).depth ≤ 64 := by
    have := heads_depth ns (List.range i)
    simp only [PyData.depth]
    omega
  rw [h1, decide_eq_true h2]
  rfl
theorem sl_listK {X : Cx} {K : PySem.W.Frag} (h : X.K = K) : SlR X (rSlL K) := by
  subst h
  exact sl_list
def rTupK (K : PySem.W.Frag) : List V → Hp → VK → Prop := fun xs H Q => ∃ p ys, xs = [.ref p] ∧ ((SqL K H p ys ∧ ∀ l, H l = none → Q (.ref l) (upd H l (.tup ys))) ∨ (SqT K H p ys ∧ Q (.ref p) H))
theorem call_tupleK {X : Cx} {K : PySem.W.Frag} (h : X.K = K) : CallR X (.type "tuple") (rTupK K) := by
  subst h
  exact call_tuple_of
section
variable {P : Program} {w : World} {K : PySem.W.Frag} {mg : Str → Option Value} {base : Heap} {a : Ad} {f : Addr} {fd : FuncData}
theorem gIsP (W : Wo P w K mg base a) (F : Fun K "_law_is" "_law_is" sIsP f fd) (bF : L2.Binds K fd ["_law_found", "_law_some"] []) : FnG P w K mg base CX0 8 f (spIsP a) := by
  refine fnG_of F scIsP bF (fun vs H Q E h => ?_) (fun cdv A outer s H vs Q E hr hg h => ?_)
  · obtain ⟨p, m, ns, rfl, _⟩ := h
    rfl
  obtain ⟨p, m, ns, rfl, Pp, hn, hm, q⟩ := h
  have hr1 : Room 1 _ := hr.mono (by decide)
  have hr2 : Room 2 _ := hr.mono (by decide)
  have hr3 : Room 3 _ := hr.mono (by decide)
  have hr4 : Room 4 _ := hr.mono (by decide)
  have hr5 : Room 5 _ := hr.mono (by decide)
  have hr6 : Room 6 _ := hr.mono (by decide)
  refine ⟨_, PSs.nox (pss_cons (ps_if (pt_not (pt_val (pe_callB call_isi (by rfl) W.T.b.isi (by decide +kernel) (pa_cons (pv 0) (pa_cons (pe_glob (v := .ref a.C) (by rfl) W.U.mgC rfl) pa_nil))))) (pss_one (ps_ret pe_bl)) pss_nil)
    (pss_cons (ps_set (i := 2) scIsP.nd rfl (by first | exact Or.inl rfl | exact Or.inr rfl) (pe_op op_add_str pe_str (pe_join pe_str (pv 1))))
    (C8.pss_cut (ps_set (i := 3) scIsP.nd rfl (by first | exact Or.inl rfl | exact Or.inr rfl) (pe_ifExp (pt_cmpR op_isN (pe_prop (pv 0) W.U.cl W.pUp W.cUp hr6 W.bUp .nil pass0 rfl) pe_non (nomark _)) pe_non (pe_prop (pe_prop (pv 0) W.U.cl W.pUp W.cUp hr6 W.bUp .nil pass0 rfl) W.U.cl W.pNames W.cNames hr2 W.bNames .nil pass0 rfl)))
    (C8.pss_cut (ps_set (i := 4) scIsP.nd rfl (by first | exact Or.inl rfl | exact Or.inr rfl) (pe_lst (pa_cons (pe_callTy (T := "tuple") (call_tupleK (K := K) rfl) (by rfl) W.tuple (by decide +kernel) (pa_cons (pv 1) pa_nil)) (pa_cons (pv 2) (pa_cons (pe_ifExp (pt_cmpR (op_eqD hr.units) (pv 1) (pe_lst pa_nil) (nomark _)) pe_non (pe_callTy (T := "tuple") (call_tupleK (K := K) rfl) (by rfl) W.tuple (by decide +kernel) (pa_cons (pe_slice sl_list (pv 1) po_none (po_some (pe_un un_neg pe_int))) pa_nil)))
        (pa_cons (pe_callB call_len_seq (by rfl) W.T.b.len PySem.boot_len (pa_cons (pv 1) pa_nil)) (pa_cons (pe_cmpR (op_neD hr.units) (pv 1) (pe_lst pa_nil) (nomark _)) (pa_cons (pv 2) pa_nil))))))))
    (pss_cons (ps_if (pt_cmpR op_ne (pe_callB (call_repr (k := 3) hg hr5) (by rfl) W.repr (by decide +kernel) (pa_cons (pe_lst (pa_cons (pe_prop (pv 0) W.U.cl W.pNames W.cNames hr2 W.bNames .nil pass0 rfl) (pa_cons (pe_prop (pv 0) W.U.cl W.pText W.cText hr2 W.bText .nil pass0 rfl) (pa_cons (pv 3)
          (pa_cons (pe_callB (call_lenO W.mLen.at_ W.mLen.fn W.cLen hr2 pass0) (by rfl) W.T.b.len PySem.boot_len (pa_cons (pv 0) pa_nil)) (pa_cons (pe_callTy (call_boolO W.mBoo.at_ W.mBoo.fn W.cBoo hr3 pass0) (by rfl) W.T.b.bool (by decide +kernel) (pa_cons (pv 0) pa_nil))
          (pa_cons (pe_callTy (call_strO W.mStr.at_ W.mStr.fn W.cStr hr5 pass0) (by rfl) W.T.b.str (by decide +kernel) (pa_cons (pv 0) pa_nil)) pa_nil))))))) pa_nil)) (pe_callB (call_repr (k := 3) hg hr5) (by rfl) W.repr (by decide +kernel) (pa_cons (pv 4) pa_nil)) (nomark _)) (pss_one (ps_ret pe_bl)) pss_nil)
    (pss_cons (ps_if (pt_cmpR op_ne (pe_callB (call_reprO W.mRepr.at_ W.mRepr.fn W.cRepr hr4 pass0) (by rfl) W.repr (by decide +kernel) (pa_cons (pv 0) pa_nil)) (pe_op op_add_str (pe_op op_add_str pe_str (pv 2)) pe_str) (nomark _)) (pss_one (ps_ret pe_bl)) pss_nil)
    (pss_cons (ps_setLc (i := 5) (own := [("_law_step", 6)]) (g := gName 6) (tt := tYes) rfl scIsP.nd rfl rfl (sw_true rfl rfl rfl (by decide +kernel)) (pi_range1 (by rfl) W.T.b.range (pa_cons (pe_op op_add (pe_callB call_len_seq (by rfl) W.T.b.len PySem.boot_len (pa_cons (pv 1) pa_nil)) pe_int) pa_nil))
        (blkOk_by (own := [("_law_step", 6)]) (N := Nip) (sc := defScope sIsP) (by decide +kernel)) (fun _ _ _ _ _ => pg_name (i := 6) scIsP.nd rfl (by first | exact Or.inl rfl | exact Or.inr rfl)) (fun _ _ _ _ _ => pts_nil)
        (fun _ _ _ _ _ => pe_prop (pe_meth (pv 0) W.U.cl W.mHead W.cHead hr4 W.bHead .nil pass0 (pa_cons (pv 6) pa_nil)) W.U.cl W.pNames W.cNames hr2 W.bNames .nil pass0 rfl))
    (pss_one (ps_ret (pe_and (pe_cmpR (op_eqD hr.units) (pv 5) (pe_lc (own := [("_law_step", 6)]) (g := gName 6) (tt := tYes) rfl scIsP.nd (pi_range1 (by rfl) W.T.b.range (pa_cons (pe_op op_add (pe_callB call_len_seq (by rfl) W.T.b.len PySem.boot_len (pa_cons (pv 1) pa_nil)) pe_int) pa_nil))
        (blkOk_by (own := [("_law_step", 6)]) (N := Nip) (sc := defScope sIsP) (by decide +kernel)) (fun _ _ _ _ _ => pg_name (i := 6) scIsP.nd rfl (by first | exact Or.inl rfl | exact Or.inr rfl)) (fun _ _ _ _ _ => pts_nil)
        (fun _ _ _ _ _ => pe_callTy (T := "tuple") (call_tupleK (K := K) rfl) (by rfl) W.tuple (by decide +kernel) (pa_cons (pe_slice (sl_listK (K := K) rfl) (pv 1) po_none (po_some (pv 6))) pa_nil))) (nomark _))
      (pe_one (pe_cmpR (op_eqD hr.units) (pe_prop (pv 0) W.U.cl W.pNames W.cNames hr2 W.bNames .nil pass0 rfl) (pe_callTy (T := "tuple") (call_tupleK (K := K) rfl) (by rfl) W.tuple (by decide +kernel) (pa_cons (pv 1) pa_nil)) (nomark _))))))))))))), ?_⟩
  have big : (10000 : Nat) ≤ sizeLine := by decide
  have jl := join_len hn
  have l1 : ("/" : Str).length = 1 := by decide +kernel
  have xl := txt_len hn
  obtain ⟨dx, t, hp, ht⟩ := id Pp
  refine ⟨_, rfl, _, _, _, _, true, rfl, .own a.C, PlA.ty W.U Pp, W.U.kC, true, rfl, iteF ?_⟩
  refine ⟨⟨_, rfl⟩, _, rfl, _, m, ns, rfl, rfl, .inl (SqL.of hm), join_room hn, _, _, rfl, rfl, by rw [l1]; omega, ?_⟩
  -- what stands above
  refine ⟨fun σ' H' => ∃ bx, σ' = [some (.ref p), some (.ref m), some (.str (txt ns)), some bx, none, none, none] ∧ Same H H' ∧ ((ns = [] ∧ bx = .non) ∨ ∃ b, ns ≠ [] ∧ bx = .ref b ∧ H' b = some (.tup (ns.dropLast.map V.str))), ?_, ?_⟩
  · refine ⟨_, rfl, p, dx, _, rfl, hp, p, ns, rfl, Pp, hn, fun e => ?_, fun e q1 H1 c1 P1 => ?_⟩
    · exact ⟨rfl, _, rfl, iteT ⟨_, rfl, Same.refl _, .inl ⟨e, rfl⟩⟩⟩
    · refine ⟨rfl, _, rfl, iteF ?_⟩
      refine ⟨_, rfl, p, dx, _, rfl, c1 _ _ hp, p, ns, rfl, Pp.mono c1, hn, fun e2 => absurd e2 e, fun _ q2 H2 c2 P2 => ?_⟩
      obtain ⟨d2, u2, g1, g2⟩ := id P2
      exact ⟨q2, d2, _, rfl, g1, q2, d2, u2, rfl, g1, _, rfl, c1.trans c2, .inr ⟨u2, e, rfl, g2⟩⟩
  rintro σ1 H1 ⟨bx, rfl, c1, hbx⟩
  -- what is due
  have hm1 := c1 _ _ hm
  have sh := lay_list ns fun n h => ok_str (hn.2 n h)
  refine ⟨fun σ' H' => ∃ D t2 by_, σ' = [some (.ref p), some (.ref m), some (.str (txt ns)), some bx, some (.ref D), none, none] ∧ Same H1 H' ∧ H' D = some (.lst (sixV ns t2 by_)) ∧ H' t2 = some (.tup (ns.map V.str)) ∧ ((ns = [] ∧ by_ = .non) ∨ ∃ b, ns ≠ [] ∧ by_ = .ref b ∧ H' b = some (.tup (ns.dropLast.map V.str))), ?_, ?_⟩
  · refine ⟨_, rfl, m, _, rfl, .inl ⟨SqL.of hm1, fun t2 ht2 => ?_⟩⟩
    have c2 := same1 (o := .tup (ns.map V.str)) ht2
    have k2 : upd H1 t2 (.tup (ns.map V.str)) t2 = some (.tup (ns.map V.str)) := upd_same
    generalize upd H1 t2 (.tup (ns.map V.str)) = H2 at c2 k2 ⊢
    have hm2 := c2 _ _ hm1
    refine ⟨_, rfl, _, rfl, Nat.zero_le _, fun e0 he0 => ?_⟩
    have c3 := same1 (o := .lst []) he0
    have k3 : upd H2 e0 (.lst []) e0 = some (.lst []) := upd_same
    generalize upd H2 e0 (.lst []) = H3 at c3 k3 ⊢
    have hm3 := c3 _ _ hm2
    have e1 : PyData.eqv (.list (ns.map PyData.str)) (.list []) = decide (ns = []) := eqv_list ns []
    have e2 : (!ns.isEmpty) = !decide (ns = []) := by cases ns <;> rfl
    have e3 : ((ns.map V.str).length : Nat) = ns.length := List.length_map _
    refine ⟨.list (ns.map .str), .list [], .lst (SqL.of hm3) (dp_strs _), .lst (SqL.of k3) .nil, sh, by decide, _, rfl, ?_⟩
    rw [e1]
    refine ite2 (fun h => ?_) (fun h => ?_)
    · have h := of_decide_eq_true h
      refine ⟨_, rfl, m, _, rfl, .inl (SqL.of hm3), _, rfl, Nat.zero_le _, fun e4 he4 => ?_⟩
      have c4 := same1 (o := .lst []) he4
      have k4 : upd H3 e4 (.lst []) e4 = some (.lst []) := upd_same
      generalize upd H3 e4 (.lst []) = H4 at c4 k4 ⊢
      refine ⟨.list (ns.map .str), .list [], .lst (SqL.of (c4 _ _ hm3)) (dp_strs _), .lst (SqL.of k4) .nil, sh, by decide, ?_⟩
      rw [e1]
      refine ⟨_, rfl, by show 6 ≤ sizeLine; decide, fun D hD => ?_⟩
      have c5 := same1 (o := .lst [.ref t2, .str (txt ns), .non, .int ((ns.map V.str).length : Nat), .bl (!decide (ns = [])), .str (txt ns)]) hD
      refine ⟨D, t2, .non, rfl, ((c2.trans c3).trans c4).trans c5, ?_, c5 _ _ (c4 _ _ (c3 _ _ k2)), .inl ⟨h, rfl⟩⟩
      unfold sixV
      rw [e2, ← e3]
      exact upd_same
    · have h : ns ≠ [] := fun z => h (decide_eq_true z)
      refine ⟨_, rfl, _, rfl, _, rfl, m, _, rfl, SqL.of hm3, fun p4 hp4 => ?_⟩
      have ec : cutV (ns.map V.str) none (some (-1)) = ns.dropLast.map V.str := by
        rw [cut_last]
        exact (List.map_dropLast).symm
      rw [ec]
      have c4 := same1 (o := .lst (ns.dropLast.map V.str)) hp4
      have k4 : upd H3 p4 (.lst (ns.dropLast.map V.str)) p4 = some (.lst (ns.dropLast.map V.str)) := upd_same
      generalize upd H3 p4 (.lst (ns.dropLast.map V.str)) = H4 at c4 k4 ⊢
      refine ⟨p4, _, rfl, .inl ⟨SqL.of k4, fun b hb => ?_⟩⟩
      have c5 := same1 (o := .tup (ns.dropLast.map V.str)) hb
      have k5 : upd H4 b (.tup (ns.dropLast.map V.str)) b = some (.tup (ns.dropLast.map V.str)) := upd_same
      generalize upd H4 b (.tup (ns.dropLast.map V.str)) = H5 at c5 k5 ⊢
      have hm5 := c5 _ _ (c4 _ _ hm3)
      refine ⟨_, rfl, m, _, rfl, .inl (SqL.of hm5), _, rfl, Nat.zero_le _, fun e4 he4 => ?_⟩
      have c6 := same1 (o := .lst []) he4
      have k6 : upd H5 e4 (.lst []) e4 = some (.lst []) := upd_same
      generalize upd H5 e4 (.lst []) = H6 at c6 k6 ⊢
      refine ⟨.list (ns.map .str), .list [], .lst (SqL.of (c6 _ _ hm5)) (dp_strs _), .lst (SqL.of k6) .nil, sh, by decide, ?_⟩
      rw [e1]
      refine ⟨_, rfl, by show 6 ≤ sizeLine; decide, fun D hD => ?_⟩
      have c7 := same1 (o := .lst [.ref t2, .str (txt ns), .ref b, .int ((ns.map V.str).length : Nat), .bl (!decide (ns = [])), .str (txt ns)]) hD
      refine ⟨D, t2, .ref b, rfl, ((((c2.trans c3).trans c4).trans c5).trans c6).trans c7, ?_, c7 _ _ (c6 _ _ (c5 _ _ (c4 _ _ (c3 _ _ k2)))), .inr ⟨b, h, rfl, c7 _ _ (c6 _ _ k5)⟩⟩
      unfold sixV
      rw [e2, ← e3]
      exact upd_same
  rintro σ2 H2 ⟨D, t2, by_, rfl, c2, kD, k2, hby⟩
  have c02 := c1.trans c2
  have Pp2 := Pp.mono c02
  obtain ⟨dx2, u2, g1, g2⟩ := id Pp2
  have hbx2 : (ns = [] ∧ bx = .non) ∨ ∃ b, ns ≠ [] ∧ bx = .ref b ∧ H2 b = some (.tup (ns.dropLast.map V.str)) := by
    rcases hbx with z | ⟨b, z1, z2, z3⟩
    · exact .inl z
    · exact .inr ⟨b, z1, z2, c2 _ _ z3⟩
  -- the two reprs
  have l8 := hn.1
  refine ⟨_, rfl, p, dx2, _, rfl, g1, p, dx2, u2, rfl, g1, _, rfl, p, dx2, _, rfl, g1, p, ns, rfl, Pp2, hn, _, rfl, _, rfl, p, dx2, _, rfl, g1, p, ns, rfl, Pp2, _, rfl, ⟨by omega, by omega⟩, ?_⟩
  refine ⟨_, rfl, p, dx2, _, rfl, g1, p, ns, rfl, Pp2, _, rfl, _, rfl, p, dx2, _, rfl, g1, p, ns, rfl, Pp2, hn, _, rfl, by show 6 ≤ sizeLine; decide, fun L hL => ?_⟩
  have c3 := same1 (o := .lst (sixV ns u2 bx)) hL
  have k3 : upd H2 L (.lst (sixV ns u2 bx)) L = some (.lst (sixV ns u2 bx)) := upd_same
  have eL : upd H2 L (.lst [.ref u2, .str (txt ns), bx, .int (ns.length : Nat), .bl (!ns.isEmpty), .str (txt ns)]) = upd H2 L (.lst (sixV ns u2 bx)) := rfl
  rw [eL]
  generalize upd H2 L (.lst (sixV ns u2 bx)) = H3 at c3 k3 ⊢
  have hbx3 : (ns = [] ∧ bx = .non) ∨ ∃ b, ns ≠ [] ∧ bx = .ref b ∧ H3 b = some (.tup (ns.dropLast.map V.str)) := by
    rcases hbx2 with z | ⟨b, z1, z2, z3⟩
    · exact .inl z
    · exact .inr ⟨b, z1, z2, c3 _ _ z3⟩
  refine nil_ok (six_read hn k3 (c3 _ _ g2) hbx3 fun H4 c4 => ?_)
  have c24 := c3.trans c4
  have hby4 : (ns = [] ∧ by_ = .non) ∨ ∃ b, ns ≠ [] ∧ by_ = .ref b ∧ H4 b = some (.tup (ns.dropLast.map V.str)) := by
    rcases hby with z | ⟨b, z1, z2, z3⟩
    · exact .inl z
    · exact .inr ⟨b, z1, z2, c24 _ _ z3⟩
  refine ⟨_, rfl, nil_ok (six_read hn (c24 _ _ kD) (c24 _ _ k2) hby4 fun H5 c5 => ⟨rfl, _, rfl, iteNS rfl ?_⟩)⟩
  have c05 := (c02.trans c24).trans c5
  have Pp5 := Pp.mono c05
  obtain ⟨dx5, u5, g5, g6⟩ := id Pp5
  have hm5 := c05 _ _ hm
  -- its own repr
  have lp : ("Place('" : Str).length = 7 := by decide +kernel
  have lq : ("')" : Str).length = 2 := by decide +kernel
  refine ⟨_, rfl, p, dx5, _, rfl, g5, p, ns, rfl, Pp5, hn, _, rfl, _, rfl, _, _, rfl, rfl, by rw [lp]; omega, _, _, rfl, rfl, by rw [strLen_append, lp, lq]; omega, rfl, _, rfl, ?_⟩
  refine iteNS (congrArg V.str (shown_eq hn)) ?_
  -- the heads
  have hlen : (((ns.map V.str).length : Nat) + 1 : Int).toNat = ns.length + 1 := by rw [List.length_map]; omega
  refine ⟨_, rfl, m, _, rfl, .inl (SqL.of hm5), _, _, rfl, rfl, _, rfl, by rw [List.length_map]; omega, by rw [List.length_map]; omega, fun E1 hE1 => lc_it (walk_range (lo := 0) (n := (((ns.map V.str).length : Nat) + 1 : Int).toNat)) (fun i H' => Same H5 H' ∧ HeadsAt H' E1 ns i) ⟨same1 hE1, [], upd_same, rfl, by simp⟩
    (fun _ _ _ _ => trivial) (fun i x H6 H7 hi e y => ?_) (fun H6 e => ?_)⟩
  · obtain ⟨c6, us, e1, e2, e3⟩ := e
    obtain ⟨rfl, rfl⟩ := y
    rw [hlen] at hi
    have P6 := Pp5.mono c6
    obtain ⟨d6, u6, a1, a2⟩ := id P6
    refine ⟨rfl, _, rfl, p, d6, _, rfl, a1, pf_no _ (by decide +kernel), _, rfl, p, ns, _, rfl, P6, hn, by omega, by omega, fun q8 H8 c8 P8 => ?_⟩
    obtain ⟨d8, u8, b1, b2⟩ := id P8
    refine ⟨q8, d8, _, rfl, b1, q8, d8, u8, rfl, b1, ?_⟩
    refine ⟨_, c8 _ _ e1, by rw [List.length_map, e2]; omega, fun b o hb => ?_, us ++ [u8], by rw [upd_same, List.map_append]; rfl, by rw [List.length_append, List.length_singleton, e2], fun j u hj => ?_⟩
    · rw [upd_ne (ne_of_none hb hE1)]
      exact c8 _ _ (c6 _ _ hb)
    · rcases Nat.lt_or_ge j us.length with hlt | hge
      · rw [List.getElem?_append_left hlt] at hj
        rw [upd_ne (ne_of (e3 j u hj) e1 (by intro z; cases z))]
        exact c8 _ _ (e3 j u hj)
      · rw [List.getElem?_append_right hge] at hj
        have ej : j = i := by
          rcases Nat.eq_zero_or_pos (j - us.length) with z | z
          · omega
          · rw [List.getElem?_eq_none (by simp; omega)] at hj
            cases hj
        subst ej
        rw [show j - us.length = 0 by omega] at hj
        cases Option.some.inj hj
        rw [upd_ne (ne_of b2 (c8 _ _ e1) (by intro z; cases z)), b2, show (0 + (j : Nat) : Int).toNat = j by omega]
  · obtain ⟨c6, hd6⟩ := e
    rw [hlen] at hd6
    have hm6 := c6 _ _ hm5
    refine ⟨_, rfl, _, rfl, m, _, rfl, .inl (SqL.of hm6), _, _, rfl, rfl, _, rfl, by rw [List.length_map]; omega, by rw [List.length_map]; omega, fun E2 hE2 => lc_it (walk_range (lo := 0) (n := (((ns.map V.str).length : Nat) + 1 : Int).toNat)) (fun i H' => Same H6 H' ∧ HeadsAt H' E2 ns i) ⟨same1 hE2, [], upd_same, rfl, by simp⟩
      (fun _ _ _ _ => trivial) (fun i x H7 HX hi e y => ?_) (fun H7 e => ?_)⟩
    · obtain ⟨c7, us, e1, e2, e3⟩ := e
      obtain ⟨rfl, rfl⟩ := y
      rw [hlen] at hi
      have hm7 := c7 _ _ hm6
      refine ⟨rfl, _, rfl, _, rfl, _, rfl, m, _, rfl, SqL.of hm7, fun p8 hp8 => ?_⟩
      have ec : cutV (ns.map V.str) none (some (0 + (i : Nat) : Int)) = (ns.take i).map V.str := by
        rw [cut_to (by omega) (by rw [List.length_map]; omega), List.map_take, show (0 + (i : Nat) : Int).toNat = i by omega]
      rw [ec]
      have c8 := same1 (o := .lst ((ns.take i).map V.str)) hp8
      have k8 : upd HX p8 (.lst ((ns.take i).map V.str)) p8 = some (.lst ((ns.take i).map V.str)) := upd_same
      generalize upd HX p8 (.lst ((ns.take i).map V.str)) = H8 at c8 k8 ⊢
      refine ⟨p8, _, rfl, .inl ⟨SqL.of k8, fun u9 hu9 => ?_⟩⟩
      have c9 := same1 (o := .tup ((ns.take i).map V.str)) hu9
      have k9 : upd H8 u9 (.tup ((ns.take i).map V.str)) u9 = some (.tup ((ns.take i).map V.str)) := upd_same
      generalize upd H8 u9 (.tup ((ns.take i).map V.str)) = H9 at c9 k9 ⊢
      have c79 := c8.trans c9
      refine ⟨_, c79 _ _ e1, by rw [List.length_map, e2]; omega, fun b o hb => ?_, us ++ [u9], by rw [upd_same, List.map_append]; rfl, by rw [List.length_append, List.length_singleton, e2], fun j u hj => ?_⟩
      · rw [upd_ne (ne_of_none hb hE2)]
        exact c79 _ _ (c7 _ _ hb)
      · rcases Nat.lt_or_ge j us.length with hlt | hge
        · rw [List.getElem?_append_left hlt] at hj
          rw [upd_ne (ne_of (e3 j u hj) e1 (by intro z; cases z))]
          exact c79 _ _ (e3 j u hj)
        · rw [List.getElem?_append_right hge] at hj
          have ej : j = i := by
            rcases Nat.eq_zero_or_pos (j - us.length) with z | z
            · omega
            · rw [List.getElem?_eq_none (by simp; omega)] at hj
              cases hj
          subst ej
          rw [show j - us.length = 0 by omega] at hj
          cases Option.some.inj hj
          rw [upd_ne (ne_of k9 (c79 _ _ e1) (by intro z; cases z))]
          exact k9
    · obtain ⟨c7, hd7⟩ := e
      rw [hlen] at hd7
      have okn : ∀ n ∈ ns, PyData.strOk n = true := fun n h => ok_str (hn.2 n h)
      have hd6' : HeadsAt H7 E1 ns (ns.length + 1) := by
        obtain ⟨us, e1, e2, e3⟩ := hd6
        exact ⟨us, c7 _ _ e1, e2, fun j u hj => c7 _ _ (e3 j u hj)⟩
      obtain ⟨xs, x1, x2⟩ := heads_dp (K := K) hd6'
      obtain ⟨ys, y1, y2⟩ := heads_dp (K := K) hd7
      refine ⟨.list ((List.range (ns.length + 1)).map (headD ns)), .list ((List.range (ns.length + 1)).map (headD ns)), .lst (SqL.of x1) x2, .lst (SqL.of y1) y2, heads_shaped okn _, heads_shaped okn _, ?_⟩
      rw [SeqAt.eqv_refl _ (show PyData.canLay0 (.list ((List.range (ns.length + 1)).map (headD ns))) = true from heads_lay okn _)]
      have c07 := (c05.trans c6).trans c7
      have P7 := Pp.mono c07
      obtain ⟨d7, u7, a1, a2⟩ := id P7
      refine ⟨_, rfl, iteT ?_⟩
      refine ⟨_, rfl, p, d7, _, rfl, a1, p, d7, u7, rfl, a1, _, rfl, m, _, rfl, .inl ⟨SqL.of (c07 _ _ hm), fun l hl => ?_⟩⟩
      have c8 := same1 (o := .tup (ns.map V.str)) hl
      have k8 : upd H7 l (.tup (ns.map V.str)) l = some (.tup (ns.map V.str)) := upd_same
      generalize upd H7 l (.tup (ns.map V.str)) = H8 at c8 k8 ⊢
      have sh2 := shaped_strs ns okn
      refine ⟨_, _, .tup (SqT.of (c8 _ _ a2)) (dp_strs _), .tup (SqT.of k8) (dp_strs _), sh2, sh2, ?_⟩
      rw [eqv_strs, decide_eq_true rfl]
      exact q _ (c07.trans c8)
end
end Pl

namespace Pl
open PySem L2 Own TL RZ LamX
/-! ### the refusal that is due -/
abbrev sDue : Stmt := top 43
abbrev Ndu : List Str := ["_law_some", "_law_kept", "_law_one", "_law_is_fine"]
theorem scDue : FnScope Ndu ["_law_some", "_law_kept"] (defScope sDue) := ⟨rfl, rfl, rfl, by decide +kernel, rfl, by decide +kernel, by decide +kernel⟩
def Good (xs : List V) (ks : List Bool) (ns : List Str) : Prop := xs = ns.map V.str ∧ ks = List.replicate ns.length true ∧ ∀ n ∈ ns, okN n = true
def Bad (xs : List V) (ks : List Bool) (ns : List Str) (x : V) : Prop := ∃ rest ks', xs = ns.map V.str ++ x :: rest ∧ ks = List.replicate ns.length true ++ false :: ks' ∧ rest.length = ks'.length ∧ ∀ n ∈ ns, okN n = true
def spDue : Sp := fun vs H Q _ => ∃ m kk xs ks, vs = [.ref m, .ref kk] ∧ H m = some (.lst xs) ∧ H kk = some (.lst (ks.map V.bl)) ∧ xs.length ≤ 10 ∧
  ((∃ ns, Good xs ks ns ∧ (ns.length ≤ 8 → ∀ H', Same H H' → Q .non H') ∧ (8 < ns.length → ∀ p H', Same H H' → H p = none → H' p = some (.tup [.str "many", .int 8]) → Q (.ref p) H')) ∨
    ∃ ns x, Bad xs ks ns x ∧ ∀ p H', Same H H' → H p = none → H' p = some (.tup [.str "name", x]) → Q (.ref p) H')
section
variable {P : Program} {w : World} {K : PySem.W.Frag} {mg : Str → Option Value} {base : Heap} {a : Ad} {f : Addr} {fd : FuncData}
theorem ok_due (W : Wo P w K mg base a) (F : Fun K "_law_due" "_law_due" sDue f fd) : FnOk P w K mg base CX0 1 f fd ["_law_some", "_law_kept"] spDue := by
  refine F.ok scDue (fun vs H Q E h => ?_) (fun cdv A outer s H vs Q E hr h => ?_)
  · obtain ⟨m, kk, xs, ks, rfl, _⟩ := h
    rfl
  obtain ⟨m, kk, xs, ks, rfl, hm, hk, hl, out⟩ := h
  refine ⟨_, PSs.nox (pss_cons (ps_for PassesOwn.never rfl (pi_zip (by rfl) W.T.b.zip (pa_cons (pv 0) (pa_cons (pv 1) pa_nil)))
        (pg_tup rfl (pgs_cons (pg_name (i := 2) scDue.nd rfl (Or.inl rfl)) (pgs_cons (pg_name (i := 3) scDue.nd rfl (Or.inl rfl)) pgs_nil)))
      (pss_one (ps_if (pt_not (pt_val (pv 3))) (pss_one (ps_ret (pe_tup (pa_cons pe_str (pa_cons (pv 2) pa_nil))))) pss_nil)))
    (pss_one (ps_ret (pe_ifExp (pt_cmpR op_gt (pe_callB call_len_seq (by rfl) W.T.b.len PySem.boot_len (pa_cons (pv 0) pa_nil)) pe_int (nomark _)) (pe_tup (pa_cons pe_str (pa_cons pe_int pa_nil))) pe_non)))), ?_⟩
  have lk : xs.length = (ks.map V.bl).length := by
    rcases out with ⟨ns, ⟨rfl, rfl, _⟩, _⟩ | ⟨ns, x, ⟨rest, ks', rfl, rfl, e, _⟩, _⟩
    · simp
    · simp [e]
  have SAME : ∀ {H' : Hp}, Same H H' → SqL K H' m xs ∧ SqL K H' kk (ks.map V.bl) := fun s1 => ⟨SqL.of (s1 _ _ hm), SqL.of (s1 _ _ hk)⟩
  have nm0 : ∀ {H' : Hp} {p : Addr}, Same H H' → H' p = none → H p = none := fun s h => none_of s h
  rcases out with ⟨ns, ⟨rfl, rfl, hn⟩, q0, q1⟩ | ⟨ns, x, ⟨rest, ks', rfl, rfl, el, hn⟩, q⟩
  · refine ⟨_, rfl, _, rfl, m, kk, _, _, rfl, SqL.of hm, SqL.of hk, for_it (walk_zip (n := ns.length) (by rw [← lk]; simp)) (fun i σ H' => Same H H' ∧ ∃ v2 v3, σ = [some (.ref m), some (.ref kk), v2, v3]) ⟨Same.refl H, none, none, rfl⟩
      (fun i σ H' _ e => SAME e.1) (fun i x σ H1 H2 hi e y => ?_) (fun σ H1 e => ?_)⟩
    · obtain ⟨s1, v2, v3, rfl⟩ := e
      obtain ⟨tt, x, y, rfl, hnn, rfl, hx, hy⟩ := y
      dsimp only at hx hy
      have hy2 : y = V.bl true := by
        rw [List.getElem?_map, List.getElem?_replicate, if_pos hi] at hy
        exact (Option.some.inj hy).symm
      subst hy2
      have s2 : Same H (upd H1 tt (.tup [x, .bl true])) := s1.trans (same1 hnn)
      exact ⟨tt, _, rfl, SqT.of upd_same, rfl, _, _, rfl, _, _, rfl, rfl, _, rfl, true, rfl, iteF ⟨s2, _, _, rfl⟩⟩
    · obtain ⟨s1, v2, v3, rfl⟩ := e
      refine ⟨_, rfl, m, _, rfl, .inl (SqL.of (s1 _ _ hm)), _, _, rfl, rfl, _, rfl, ite2 (fun h => ?_) (fun h => ?_)⟩
      · have h := of_decide_eq_true h
        rw [List.length_map] at h
        refine ⟨by show 2 ≤ sizeLine; decide, fun p hp => q1 (by omega) p _ (s1.trans (same1 hp)) (nm0 s1 hp) upd_same⟩
      · refine q0 ?_ _ s1
        simp only [decide_eq_true_eq, List.length_map] at h
        omega
  · refine ⟨_, rfl, _, rfl, m, kk, _, _, rfl, SqL.of hm, SqL.of hk, for_it (walk_zip (n := ns.length + 1 + rest.length) (by rw [← lk]; simp; omega)) (fun i σ H' => Same H H' ∧ i ≤ ns.length ∧ ∃ v2 v3, σ = [some (.ref m), some (.ref kk), v2, v3]) ⟨Same.refl H, Nat.zero_le _, none, none, rfl⟩
      (fun i σ H' _ e => SAME e.1) (fun i z σ H1 H2 hi e y => ?_) (fun σ H1 e => ?_)⟩
    · obtain ⟨s1, hle, v2, v3, rfl⟩ := e
      obtain ⟨tt, u, y, rfl, hnn, rfl, hx, hy⟩ := y
      dsimp only at hx hy
      have s2 : Same H (upd H1 tt (.tup [u, y])) := s1.trans (same1 hnn)
      rcases Nat.lt_or_eq_of_le hle with hlt | rfl
      · have hy2 : y = V.bl true := by
          rw [List.getElem?_map, List.getElem?_append_left (by rw [List.length_replicate]; exact hlt), List.getElem?_replicate, if_pos hlt] at hy
          exact (Option.some.inj hy).symm
        subst hy2
        exact ⟨tt, _, rfl, SqT.of upd_same, rfl, _, _, rfl, _, _, rfl, rfl, _, rfl, true, rfl, iteF ⟨s2, hlt, _, _, rfl⟩⟩
      · have hy2 : y = V.bl false := by
          rw [List.getElem?_map, List.getElem?_append_right (by rw [List.length_replicate]; exact Nat.le_refl _), List.length_replicate, Nat.sub_self] at hy
          exact (Option.some.inj hy).symm
        have hx2 : u = x := by
          rw [List.getElem?_append_right (by rw [List.length_map]; exact Nat.le_refl _), List.length_map, Nat.sub_self] at hx
          exact (Option.some.inj hx).symm
        subst hy2
        subst hx2
        refine ⟨tt, _, rfl, SqT.of upd_same, rfl, _, _, rfl, _, _, rfl, rfl, _, rfl, false, rfl, iteT ⟨_, rfl, by show 2 ≤ sizeLine; decide, fun p hp => q p _ (s2.trans (same1 hp)) (nm0 s2 hp) upd_same⟩⟩
    · obtain ⟨_, hle, _⟩ := e
      exact absurd hle (by omega)
end
end Pl

namespace Pl
open PySem L2 Own TL RZ LamX
/-! ### the classes of errors -/
structure ErrG (K : PySem.W.Frag) (mg : Str → Option Value) (Cs : Nat → Addr) (CT : Addr) : Prop where
  mT : mg "TableError" = some (.ref CT)
  m0 : mg "BadName" = some (.ref (Cs 0))
  m1 : mg "BadPlace" = some (.ref (Cs 1))
  m2 : mg "BadColumn" = some (.ref (Cs 2))
  m3 : mg "BadCells" = some (.ref (Cs 3))
  m4 : mg "NoRow" = some (.ref (Cs 4))
  m5 : mg "UnlikeColumns" = some (.ref (Cs 5))
  m6 : mg "TooMany" = some (.ref (Cs 6))
  m7 : mg "NoStep" = some (.ref (Cs 7))
  m8 : mg "BadPlan" = some (.ref (Cs 8))
  m9 : mg "NoOrder" = some (.ref (Cs 9))
  m10 : mg "Ringed" = some (.ref (Cs 10))
  m11 : mg "Divided" = some (.ref (Cs 11))
  m12 : mg "BadStanding" = some (.ref (Cs 12))
  m13 : mg "ManyColumns" = some (.ref (Cs 13))
  m14 : mg "Clash" = some (.ref (Cs 14))
  m15 : mg "BadHearings" = some (.ref (Cs 15))
  m16 : mg "Contradiction" = some (.ref (Cs 16))
  m17 : mg "ThirdAnswer" = some (.ref (Cs 17))
  m18 : mg "TooEarly" = some (.ref (Cs 18))
  m19 : mg "NoExchange" = some (.ref (Cs 19))
  m20 : mg "Underway" = some (.ref (Cs 20))
  m21 : mg "BadRule" = some (.ref (Cs 21))
  m22 : mg "BadText" = some (.ref (Cs 22))
  m23 : mg "BadLine" = some (.ref (Cs 23))
  kit : ∀ i j, i < 24 → j < 24 → PySem.W.kitOne K (.ref (Cs i)) (.ref (Cs j)) = some (decide (i = j))
  kitT : ∀ i, i < 24 → PySem.W.kitOne K (.ref (Cs i)) (.ref CT) = some true
  kitV : ∀ i, i < 24 → PySem.W.kitOne K (.ref (Cs i)) (.type "ValueError") = some true
  xc : ∀ i, i < 24 → ExcC K (Cs i)
  xf : ∀ i, i < 24 → XfC K (Cs i)
/-! ### which of the errors an error is -/
abbrev sMrk : Stmt := top 44
theorem scMrk : FnScope ["_law_error", "_law_found"] ["_law_error"] (defScope sMrk) := ⟨rfl, rfl, rfl, by decide +kernel, rfl, by decide +kernel, by decide +kernel⟩
def markV (i : Nat) : List V := (List.range 24).map fun j => V.bl (decide (i = j))
/-- an error of the class C, with or without fields -/
def AnEr (H : Hp) (e C : Addr) : Prop := ∃ d, H e = some (kex e (.ref C) d) ∧ ∀ dd, d = some dd → ∃ fs, H dd = some (.xd fs)
theorem AnEr.mono {H H' : Hp} {e C : Addr} (h : AnEr H e C) (s : Same H H') : AnEr H' e C := by
  obtain ⟨d, h1, h2⟩ := h
  refine ⟨d, s _ _ h1, fun dd z => ?_⟩
  obtain ⟨fs, h3⟩ := h2 dd z
  exact ⟨fs, s _ _ h3⟩
def spMrk (Cs : Nat → Addr) : Sp := fun vs H Q _ => ∃ e i, vs = [.ref e] ∧ i < 24 ∧ AnEr H e (Cs i) ∧ ∀ L H', Same H H' → H' L = some (.lst (markV i)) → Q (.ref L) H'
section
variable {P : Program} {w : World} {K : PySem.W.Frag} {mg : Str → Option Value} {base : Heap} {f : Addr} {fd : FuncData} {Cs : Nat → Addr} {CT : Addr}
theorem ok_mrk (T : BT mg) (G : ErrG K mg Cs CT) (F : Fun K "_law_marks" "_law_marks" sMrk f fd) : FnOk P w K mg base CX0 1 f fd ["_law_error"] (spMrk Cs) := by
  refine F.ok scMrk (fun vs H Q E h => ?_) (fun cdv A outer s H vs Q E hr h => ?_)
  · obtain ⟨e, i, rfl, _⟩ := h
    rfl
  obtain ⟨e, i, rfl, hi, ⟨d, he0, hf0⟩, q⟩ := h
  refine ⟨_, PSs.nox (pss_cons (ps_set (i := 1) scMrk.nd rfl (by first | exact Or.inl rfl | exact Or.inr rfl) (pe_lst (pa_cons (pe_callB call_isK (by rfl) T.isi (by decide +kernel) (pa_cons (pv 0) (pa_cons (pe_glob (v := .ref (Cs 0)) (by rfl) G.m0 rfl) pa_nil))) (pa_cons (pe_callB call_isK (by rfl) T.isi (by decide +kernel) (pa_cons (pv 0) (pa_cons (pe_glob (v := .ref (Cs 1)) (by rfl) G.m1 rfl) pa_nil))) (pa_cons (pe_callB call_isK (by rfl) T.isi (by decide +kernel) (pa_cons (pv 0) (pa_cons (pe_glob (v := .ref (Cs 2)) (by rfl) G.m2 rfl) pa_nil))) pa_nil)))))
      (pss_cons (ps_set (i := 1) scMrk.nd rfl (by first | exact Or.inl rfl | exact Or.inr rfl) (pe_op op_cat (pv 1) (pe_lst (pa_cons (pe_callB call_isK (by rfl) T.isi (by decide +kernel) (pa_cons (pv 0) (pa_cons (pe_glob (v := .ref (Cs 3)) (by rfl) G.m3 rfl) pa_nil))) (pa_cons (pe_callB call_isK (by rfl) T.isi (by decide +kernel) (pa_cons (pv 0) (pa_cons (pe_glob (v := .ref (Cs 4)) (by rfl) G.m4 rfl) pa_nil))) (pa_cons (pe_callB call_isK (by rfl) T.isi (by decide +kernel) (pa_cons (pv 0) (pa_cons (pe_glob (v := .ref (Cs 5)) (by rfl) G.m5 rfl) pa_nil))) pa_nil))))))
      (pss_cons (ps_set (i := 1) scMrk.nd rfl (by first | exact Or.inl rfl | exact Or.inr rfl) (pe_op op_cat (pv 1) (pe_lst (pa_cons (pe_callB call_isK (by rfl) T.isi (by decide +kernel) (pa_cons (pv 0) (pa_cons (pe_glob (v := .ref (Cs 6)) (by rfl) G.m6 rfl) pa_nil))) (pa_cons (pe_callB call_isK (by rfl) T.isi (by decide +kernel) (pa_cons (pv 0) (pa_cons (pe_glob (v := .ref (Cs 7)) (by rfl) G.m7 rfl) pa_nil))) (pa_cons (pe_callB call_isK (by rfl) T.isi (by decide +kernel) (pa_cons (pv 0) (pa_cons (pe_glob (v := .ref (Cs 8)) (by rfl) G.m8 rfl) pa_nil))) pa_nil))))))
      (pss_cons (ps_set (i := 1) scMrk.nd rfl (by first | exact Or.inl rfl | exact Or.inr rfl) (pe_op op_cat (pv 1) (pe_lst (pa_cons (pe_callB call_isK (by rfl) T.isi (by decide +kernel) (pa_cons (pv 0) (pa_cons (pe_glob (v := .ref (Cs 9)) (by rfl) G.m9 rfl) pa_nil))) (pa_cons (pe_callB call_isK (by rfl) T.isi (by decide +kernel) (pa_cons (pv 0) (pa_cons (pe_glob (v := .ref (Cs 10)) (by rfl) G.m10 rfl) pa_nil))) (pa_cons (pe_callB call_isK (by rfl) T.isi (by decide +kernel) (pa_cons (pv 0) (pa_cons (pe_glob (v := .ref (Cs 11)) (by rfl) G.m11 rfl) pa_nil))) pa_nil))))))
      (pss_cons (ps_set (i := 1) scMrk.nd rfl (by first | exact Or.inl rfl | exact Or.inr rfl) (pe_op op_cat (pv 1) (pe_lst (pa_cons (pe_callB call_isK (by rfl) T.isi (by decide +kernel) (pa_cons (pv 0) (pa_cons (pe_glob (v := .ref (Cs 12)) (by rfl) G.m12 rfl) pa_nil))) (pa_cons (pe_callB call_isK (by rfl) T.isi (by decide +kernel) (pa_cons (pv 0) (pa_cons (pe_glob (v := .ref (Cs 13)) (by rfl) G.m13 rfl) pa_nil))) (pa_cons (pe_callB call_isK (by rfl) T.isi (by decide +kernel) (pa_cons (pv 0) (pa_cons (pe_glob (v := .ref (Cs 14)) (by rfl) G.m14 rfl) pa_nil))) pa_nil))))))
      (pss_cons (ps_set (i := 1) scMrk.nd rfl (by first | exact Or.inl rfl | exact Or.inr rfl) (pe_op op_cat (pv 1) (pe_lst (pa_cons (pe_callB call_isK (by rfl) T.isi (by decide +kernel) (pa_cons (pv 0) (pa_cons (pe_glob (v := .ref (Cs 15)) (by rfl) G.m15 rfl) pa_nil))) (pa_cons (pe_callB call_isK (by rfl) T.isi (by decide +kernel) (pa_cons (pv 0) (pa_cons (pe_glob (v := .ref (Cs 16)) (by rfl) G.m16 rfl) pa_nil))) (pa_cons (pe_callB call_isK (by rfl) T.isi (by decide +kernel) (pa_cons (pv 0) (pa_cons (pe_glob (v := .ref (Cs 17)) (by rfl) G.m17 rfl) pa_nil))) pa_nil))))))
      (pss_cons (ps_set (i := 1) scMrk.nd rfl (by first | exact Or.inl rfl | exact Or.inr rfl) (pe_op op_cat (pv 1) (pe_lst (pa_cons (pe_callB call_isK (by rfl) T.isi (by decide +kernel) (pa_cons (pv 0) (pa_cons (pe_glob (v := .ref (Cs 18)) (by rfl) G.m18 rfl) pa_nil))) (pa_cons (pe_callB call_isK (by rfl) T.isi (by decide +kernel) (pa_cons (pv 0) (pa_cons (pe_glob (v := .ref (Cs 19)) (by rfl) G.m19 rfl) pa_nil))) (pa_cons (pe_callB call_isK (by rfl) T.isi (by decide +kernel) (pa_cons (pv 0) (pa_cons (pe_glob (v := .ref (Cs 20)) (by rfl) G.m20 rfl) pa_nil))) pa_nil))))))
      (pss_one (ps_ret (pe_op op_cat (pv 1) (pe_lst (pa_cons (pe_callB call_isK (by rfl) T.isi (by decide +kernel) (pa_cons (pv 0) (pa_cons (pe_glob (v := .ref (Cs 21)) (by rfl) G.m21 rfl) pa_nil))) (pa_cons (pe_callB call_isK (by rfl) T.isi (by decide +kernel) (pa_cons (pv 0) (pa_cons (pe_glob (v := .ref (Cs 22)) (by rfl) G.m22 rfl) pa_nil))) (pa_cons (pe_callB call_isK (by rfl) T.isi (by decide +kernel) (pa_cons (pv 0) (pa_cons (pe_glob (v := .ref (Cs 23)) (by rfl) G.m23 rfl) pa_nil))) pa_nil)))))))))))))), ?_⟩
  have xc := G.xc i hi
  refine ⟨_, rfl, e, Cs i, d, _, _, decide (i = 0), rfl, he0, hf0, xc, .own (Cs 0), G.kit i 0 hi (by decide), _, rfl, e, Cs i, d, _, _, decide (i = 1), rfl, he0, hf0, xc, .own (Cs 1), G.kit i 1 hi (by decide), _, rfl, e, Cs i, d, _, _, decide (i = 2), rfl, he0, hf0, xc, .own (Cs 2), G.kit i 2 hi (by decide), by show 3 ≤ sizeLine; decide, fun l0 hl0 => ?_⟩
  have c0 := same1 (o := .lst [V.bl (decide (i = 0)), .bl (decide (i = 1)), .bl (decide (i = 2))]) hl0
  have k0 : upd H l0 (.lst [V.bl (decide (i = 0)), .bl (decide (i = 1)), .bl (decide (i = 2))]) l0 = some (.lst [V.bl (decide (i = 0)), .bl (decide (i = 1)), .bl (decide (i = 2))]) := upd_same
  generalize upd H l0 (.lst [V.bl (decide (i = 0)), .bl (decide (i = 1)), .bl (decide (i = 2))]) = H0 at c0 k0 ⊢
  have t0 := c0
  have he1 := t0 _ _ he0
  have hf1 : ∀ dd, d = some dd → ∃ fs, H0 dd = some (.xd fs) := fun dd z => by
    obtain ⟨fs, y⟩ := hf0 dd z
    exact ⟨fs, t0 _ _ y⟩
  refine ⟨_, rfl, _, rfl, e, Cs i, d, _, _, decide (i = 3), rfl, he1, hf1, xc, .own (Cs 3), G.kit i 3 hi (by decide), _, rfl, e, Cs i, d, _, _, decide (i = 4), rfl, he1, hf1, xc, .own (Cs 4), G.kit i 4 hi (by decide), _, rfl, e, Cs i, d, _, _, decide (i = 5), rfl, he1, hf1, xc, .own (Cs 5), G.kit i 5 hi (by decide), by show 3 ≤ sizeLine; decide, fun m1 hm1 => ?_⟩
  have d1 := same1 (o := .lst [V.bl (decide (i = 3)), .bl (decide (i = 4)), .bl (decide (i = 5))]) hm1
  have n1 : upd H0 m1 (.lst [V.bl (decide (i = 3)), .bl (decide (i = 4)), .bl (decide (i = 5))]) m1 = some (.lst [V.bl (decide (i = 3)), .bl (decide (i = 4)), .bl (decide (i = 5))]) := upd_same
  generalize upd H0 m1 (.lst [V.bl (decide (i = 3)), .bl (decide (i = 4)), .bl (decide (i = 5))]) = M1 at d1 n1 ⊢
  refine ⟨l0, m1, _, _, rfl, rfl, d1 _ _ k0, n1, by show 3 + 3 ≤ sizeLine; decide, fun l1 hl1 => ?_⟩
  have c1 := same1 (o := .lst [V.bl (decide (i = 0)), .bl (decide (i = 1)), .bl (decide (i = 2)), .bl (decide (i = 3)), .bl (decide (i = 4)), .bl (decide (i = 5))]) hl1
  have k1 : upd M1 l1 (.lst [V.bl (decide (i = 0)), .bl (decide (i = 1)), .bl (decide (i = 2)), .bl (decide (i = 3)), .bl (decide (i = 4)), .bl (decide (i = 5))]) l1 = some (.lst [V.bl (decide (i = 0)), .bl (decide (i = 1)), .bl (decide (i = 2)), .bl (decide (i = 3)), .bl (decide (i = 4)), .bl (decide (i = 5))]) := upd_same
  have e1 : upd M1 l1 (.lst ([V.bl (decide (i = 0)), .bl (decide (i = 1)), .bl (decide (i = 2))] ++ [V.bl (decide (i = 3)), .bl (decide (i = 4)), .bl (decide (i = 5))])) = upd M1 l1 (.lst [V.bl (decide (i = 0)), .bl (decide (i = 1)), .bl (decide (i = 2)), .bl (decide (i = 3)), .bl (decide (i = 4)), .bl (decide (i = 5))]) := rfl
  rw [e1]
  generalize upd M1 l1 (.lst [V.bl (decide (i = 0)), .bl (decide (i = 1)), .bl (decide (i = 2)), .bl (decide (i = 3)), .bl (decide (i = 4)), .bl (decide (i = 5))]) = H1 at c1 k1 ⊢
  have t1 := (t0.trans d1).trans c1
  have he2 := t1 _ _ he0
  have hf2 : ∀ dd, d = some dd → ∃ fs, H1 dd = some (.xd fs) := fun dd z => by
    obtain ⟨fs, y⟩ := hf0 dd z
    exact ⟨fs, t1 _ _ y⟩
  refine ⟨_, rfl, _, rfl, e, Cs i, d, _, _, decide (i = 6), rfl, he2, hf2, xc, .own (Cs 6), G.kit i 6 hi (by decide), _, rfl, e, Cs i, d, _, _, decide (i = 7), rfl, he2, hf2, xc, .own (Cs 7), G.kit i 7 hi (by decide), _, rfl, e, Cs i, d, _, _, decide (i = 8), rfl, he2, hf2, xc, .own (Cs 8), G.kit i 8 hi (by decide), by show 3 ≤ sizeLine; decide, fun m2 hm2 => ?_⟩
  have d2 := same1 (o := .lst [V.bl (decide (i = 6)), .bl (decide (i = 7)), .bl (decide (i = 8))]) hm2
  have n2 : upd H1 m2 (.lst [V.bl (decide (i = 6)), .bl (decide (i = 7)), .bl (decide (i = 8))]) m2 = some (.lst [V.bl (decide (i = 6)), .bl (decide (i = 7)), .bl (decide (i = 8))]) := upd_same
  generalize upd H1 m2 (.lst [V.bl (decide (i = 6)), .bl (decide (i = 7)), .bl (decide (i = 8))]) = M2 at d2 n2 ⊢
  refine ⟨l1, m2, _, _, rfl, rfl, d2 _ _ k1, n2, by show 6 + 3 ≤ sizeLine; decide, fun l2 hl2 => ?_⟩
  have c2 := same1 (o := .lst [V.bl (decide (i = 0)), .bl (decide (i = 1)), .bl (decide (i = 2)), .bl (decide (i = 3)), .bl (decide (i = 4)), .bl (decide (i = 5)), .bl (decide (i = 6)), .bl (decide (i = 7)), .bl (decide (i = 8))]) hl2
  have k2 : upd M2 l2 (.lst [V.bl (decide (i = 0)), .bl (decide (i = 1)), .bl (decide (i = 2)), .bl (decide (i = 3)), .bl (decide (i = 4)), .bl (decide (i = 5)), .bl (decide (i = 6)), .bl (decide (i = 7)), .bl (decide (i = 8))]) l2 = some (.lst [V.bl (decide (i = 0)), .bl (decide (i = 1)), .bl (decide (i = 2)), .bl (decide (i = 3)), .bl (decide (i = 4)), .bl (decide (i = 5)), .bl (decide (i = 6)), .bl (decide (i = 7)), .bl (decide (i = 8))]) := upd_same
  have e2 : upd M2 l2 (.lst ([V.bl (decide (i = 0)), .bl (decide (i = 1)), .bl (decide (i = 2)), .bl (decide (i = 3)), .bl (decide (i = 4)), .bl (decide (i = 5))] ++ [V.bl (decide (i = 6)), .bl (decide (i = 7)), .bl (decide (i = 8))])) = upd M2 l2 (.lst [V.bl (decide (i = 0)), .bl (decide (i = 1)), .bl (decide (i = 2)), .bl (decide (i = 3)), .bl (decide (i = 4)), .bl (decide (i = 5)), .bl (decide (i = 6)), .bl (decide (i = 7)), .bl (decide (i = 8))]) := rfl
  rw [e2]
  generalize upd M2 l2 (.lst [V.bl (decide (i = 0)), .bl (decide (i = 1)), .bl (decide (i = 2)), .bl (decide (i = 3)), .bl (decide (i = 4)), .bl (decide (i = 5)), .bl (decide (i = 6)), .bl (decide (i = 7)), .bl (decide (i = 8))]) = H2 at c2 k2 ⊢
  have t2 := (t1.trans d2).trans c2
  have he3 := t2 _ _ he0
  have hf3 : ∀ dd, d = some dd → ∃ fs, H2 dd = some (.xd fs) := fun dd z => by
    obtain ⟨fs, y⟩ := hf0 dd z
    exact ⟨fs, t2 _ _ y⟩
  refine ⟨_, rfl, _, rfl, e, Cs i, d, _, _, decide (i = 9), rfl, he3, hf3, xc, .own (Cs 9), G.kit i 9 hi (by decide), _, rfl, e, Cs i, d, _, _, decide (i = 10), rfl, he3, hf3, xc, .own (Cs 10), G.kit i 10 hi (by decide), _, rfl, e, Cs i, d, _, _, decide (i = 11), rfl, he3, hf3, xc, .own (Cs 11), G.kit i 11 hi (by decide), by show 3 ≤ sizeLine; decide, fun m3 hm3 => ?_⟩
  have d3 := same1 (o := .lst [V.bl (decide (i = 9)), .bl (decide (i = 10)), .bl (decide (i = 11))]) hm3
  have n3 : upd H2 m3 (.lst [V.bl (decide (i = 9)), .bl (decide (i = 10)), .bl (decide (i = 11))]) m3 = some (.lst [V.bl (decide (i = 9)), .bl (decide (i = 10)), .bl (decide (i = 11))]) := upd_same
  generalize upd H2 m3 (.lst [V.bl (decide (i = 9)), .bl (decide (i = 10)), .bl (decide (i = 11))]) = M3 at d3 n3 ⊢
  refine ⟨l2, m3, _, _, rfl, rfl, d3 _ _ k2, n3, by show 9 + 3 ≤ sizeLine; decide, fun l3 hl3 => ?_⟩
  have c3 := same1 (o := .lst [V.bl (decide (i = 0)), .bl (decide (i = 1)), .bl (decide (i = 2)), .bl (decide (i = 3)), .bl (decide (i = 4)), .bl (decide (i = 5)), .bl (decide (i = 6)), .bl (decide (i = 7)), .bl (decide (i = 8)), .bl (decide (i = 9)), .bl (decide (i = 10)), .bl (decide (i = 11))]) hl3
  have k3 : upd M3 l3 (.lst [V.bl (decide (i = 0)), .bl (decide (i = 1)), .bl (decide (i = 2)), .bl (decide (i = 3)), .bl (decide (i = 4)), .bl (decide (i = 5)), .bl (decide (i = 6)), .bl (decide (i = 7)), .bl (decide (i = 8)), .bl (decide (i = 9)), .bl (decide (i = 10)), .bl (decide (i = 11))]) l3 = some (.lst [V.bl (decide (i = 0)), .bl (decide (i = 1)), .bl (decide (i = 2)), .bl (decide (i = 3)), .bl (decide (i = 4)), .bl (decide (i = 5)), .bl (decide (i = 6)), .bl (decide (i = 7)), .bl (decide (i = 8)), .bl (decide (i = 9)), .bl (decide (i = 10)), .bl (decide (i = 11))]) := upd_same
  have e3 : upd M3 l3 (.lst ([V.bl (decide (i = 0)), .bl (decide (i = 1)), .bl (decide (i = 2)), .bl (decide (i = 3)), .bl (decide (i = 4)), .bl (decide (i = 5)), .bl (decide (i = 6)), .bl (decide (i = 7)), .bl (decide (i = 8))] ++ [V.bl (decide (i = 9)), .bl (decide (i = 10)), .bl (decide (i = 11))])) = upd M3 l3 (.lst [V.bl (decide (i = 0)), .bl (decide (i = 1)), .bl (decide (i = 2)), .bl (decide (i = 3)), .bl (decide (i = 4)), .bl (decide (i = 5)), .bl (decide (i = 6)), .bl (decide (i = 7)), .bl (decide (i = 8)), .bl (decide (i = 9)), .bl (decide (i = 10)), .bl (decide (i = 11))]) := rfl
  rw [e3]
  generalize upd M3 l3 (.lst [V.bl (decide (i = 0)), .bl (decide (i = 1)), .bl (decide (i = 2)), .bl (decide (i = 3)), .bl (decide (i = 4)), .bl (decide (i = 5)), .bl (decide (i = 6)), .bl (decide (i = 7)), .bl (decide (i = 8)), .bl (decide (i = 9)), .bl (decide (i = 10)), .bl (decide (i = 11))]) = H3 at c3 k3 ⊢
  have t3 := (t2.trans d3).trans c3
  have he4 := t3 _ _ he0
  have hf4 : ∀ dd, d = some dd → ∃ fs, H3 dd = some (.xd fs) := fun dd z => by
    obtain ⟨fs, y⟩ := hf0 dd z
    exact ⟨fs, t3 _ _ y⟩
  refine ⟨_, rfl, _, rfl, e, Cs i, d, _, _, decide (i = 12), rfl, he4, hf4, xc, .own (Cs 12), G.kit i 12 hi (by decide), _, rfl, e, Cs i, d, _, _, decide (i = 13), rfl, he4, hf4, xc, .own (Cs 13), G.kit i 13 hi (by decide), _, rfl, e, Cs i, d, _, _, decide (i = 14), rfl, he4, hf4, xc, .own (Cs 14), G.kit i 14 hi (by decide), by show 3 ≤ sizeLine; decide, fun m4 hm4 => ?_⟩
  have d4 := same1 (o := .lst [V.bl (decide (i = 12)), .bl (decide (i = 13)), .bl (decide (i = 14))]) hm4
  have n4 : upd H3 m4 (.lst [V.bl (decide (i = 12)), .bl (decide (i = 13)), .bl (decide (i = 14))]) m4 = some (.lst [V.bl (decide (i = 12)), .bl (decide (i = 13)), .bl (decide (i = 14))]) := upd_same
  generalize upd H3 m4 (.lst [V.bl (decide (i = 12)), .bl (decide (i = 13)), .bl (decide (i = 14))]) = M4 at d4 n4 ⊢
  refine ⟨l3, m4, _, _, rfl, rfl, d4 _ _ k3, n4, by show 12 + 3 ≤ sizeLine; decide, fun l4 hl4 => ?_⟩
  have c4 := same1 (o := .lst [V.bl (decide (i = 0)), .bl (decide (i = 1)), .bl (decide (i = 2)), .bl (decide (i = 3)), .bl (decide (i = 4)), .bl (decide (i = 5)), .bl (decide (i = 6)), .bl (decide (i = 7)), .bl (decide (i = 8)), .bl (decide (i = 9)), .bl (decide (i = 10)), .bl (decide (i = 11)), .bl (decide (i = 12)), .bl (decide (i = 13)), .bl (decide (i = 14))]) hl4
  have k4 : upd M4 l4 (.lst [V.bl (decide (i = 0)), .bl (decide (i = 1)), .bl (decide (i = 2)), .bl (decide (i = 3)), .bl (decide (i = 4)), .bl (decide (i = 5)), .bl (decide (i = 6)), .bl (decide (i = 7)), .bl (decide (i = 8)), .bl (decide (i = 9)), .bl (decide (i = 10)), .bl (decide (i = 11)), .bl (decide (i = 12)), .bl (decide (i = 13)), .bl (decide (i = 14))]) l4 = some (.lst [V.bl (decide (i = 0)), .bl (decide (i = 1)), .bl (decide (i = 2)), .bl (decide (i = 3)), .bl (decide (i = 4)), .bl (decide (i = 5)), .bl (decide (i = 6)), .bl (decide (i = 7)), .bl (decide (i = 8)), .bl (decide (i = 9)), .bl (decide (i = 10)), .bl (decide (i = 11)), .bl (decide (i = 12)), .bl (decide (i = 13)), .bl (decide (i = 14))]) := upd_same
  have e4 : upd M4 l4 (.lst ([V.bl (decide (i = 0)), .bl (decide (i = 1)), .bl (decide (i = 2)), .bl (decide (i = 3)), .bl (decide (i = 4)), .bl (decide (i = 5)), .bl (decide (i = 6)), .bl (decide (i = 7)), .bl (decide (i = 8)), .bl (decide (i = 9)), .bl (decide (i = 10)), .bl (decide (i = 11))] ++ [V.bl (decide (i = 12)), .bl (decide (i = 13)), .bl (decide (i = 14))])) = upd M4 l4 (.lst [V.bl (decide (i = 0)), .bl (decide (i = 1)), .bl (decide (i = 2)), .bl (decide (i = 3)), .bl (decide (i = 4)), .bl (decide (i = 5)), .bl (decide (i = 6)), .bl (decide (i = 7)), .bl (decide (i = 8)), .bl (decide (i = 9)), .bl (decide (i = 10)), .bl (decide (i = 11)), .bl (decide (i = 12)), .bl (decide (i = 13)), .bl (decide (i = 14))]) := rfl
  rw [e4]
  generalize upd M4 l4 (.lst [V.bl (decide (i = 0)), .bl (decide (i = 1)), .bl (decide (i = 2)), .bl (decide (i = 3)), .bl (decide (i = 4)), .bl (decide (i = 5)), .bl (decide (i = 6)), .bl (decide (i = 7)), .bl (decide (i = 8)), .bl (decide (i = 9)), .bl (decide (i = 10)), .bl (decide (i = 11)), .bl (decide (i = 12)), .bl (decide (i = 13)), .bl (decide (i = 14))]) = H4 at c4 k4 ⊢
  have t4 := (t3.trans d4).trans c4
  have he5 := t4 _ _ he0
  have hf5 : ∀ dd, d = some dd → ∃ fs, H4 dd = some (.xd fs) := fun dd z => by
    obtain ⟨fs, y⟩ := hf0 dd z
    exact ⟨fs, t4 _ _ y⟩
  refine ⟨_, rfl, _, rfl, e, Cs i, d, _, _, decide (i = 15), rfl, he5, hf5, xc, .own (Cs 15), G.kit i 15 hi (by decide), _, rfl, e, Cs i, d, _, _, decide (i = 16), rfl, he5, hf5, xc, .own (Cs 16), G.kit i 16 hi (by decide), _, rfl, e, Cs i, d, _, _, decide (i = 17), rfl, he5, hf5, xc, .own (Cs 17), G.kit i 17 hi (by decide), by show 3 ≤ sizeLine; decide, fun m5 hm5 => ?_⟩
  have d5 := same1 (o := .lst [V.bl (decide (i = 15)), .bl (decide (i = 16)), .bl (decide (i = 17))]) hm5
  have n5 : upd H4 m5 (.lst [V.bl (decide (i = 15)), .bl (decide (i = 16)), .bl (decide (i = 17))]) m5 = some (.lst [V.bl (decide (i = 15)), .bl (decide (i = 16)), .bl (decide (i = 17))]) := upd_same
  generalize upd H4 m5 (.lst [V.bl (decide (i = 15)), .bl (decide (i = 16)), .bl (decide (i = 17))]) = M5 at d5 n5 ⊢
  refine ⟨l4, m5, _, _, rfl, rfl, d5 _ _ k4, n5, by show 15 + 3 ≤ sizeLine; decide, fun l5 hl5 => ?_⟩
  have c5 := same1 (o := .lst [V.bl (decide (i = 0)), .bl (decide (i = 1)), .bl (decide (i = 2)), .bl (decide (i = 3)), .bl (decide (i = 4)), .bl (decide (i = 5)), .bl (decide (i = 6)), .bl (decide (i = 7)), .bl (decide (i = 8)), .bl (decide (i = 9)), .bl (decide (i = 10)), .bl (decide (i = 11)), .bl (decide (i = 12)), .bl (decide (i = 13)), .bl (decide (i = 14)), .bl (decide (i = 15)), .bl (decide (i = 16)), .bl (decide (i = 17))]) hl5
  have k5 : upd M5 l5 (.lst [V.bl (decide (i = 0)), .bl (decide (i = 1)), .bl (decide (i = 2)), .bl (decide (i = 3)), .bl (decide (i = 4)), .bl (decide (i = 5)), .bl (decide (i = 6)), .bl (decide (i = 7)), .bl (decide (i = 8)), .bl (decide (i = 9)), .bl (decide (i = 10)), .bl (decide (i = 11)), .bl (decide (i = 12)), .bl (decide (i = 13)), .bl (decide (i = 14)), .bl (decide (i = 15)), .bl (decide (i = 16)), .bl (decide (i = 17))]) l5 = some (.lst [V.bl (decide (i = 0)), .bl (decide (i = 1)), .bl (decide (i = 2)), .bl (decide (i = 3)), .bl (decide (i = 4)), .bl (decide (i = 5)), .bl (decide (i = 6)), .bl (decide (i = 7)), .bl (decide (i = 8)), .bl (decide (i = 9)), .bl (decide (i = 10)), .bl (decide (i = 11)), .bl (decide (i = 12)), .bl (decide (i = 13)), .bl (decide (i = 14)), .bl (decide (i = 15)), .bl (decide (i = 16)), .bl (decide (i = 17))]) := upd_same
  have e5 : upd M5 l5 (.lst ([V.bl (decide (i = 0)), .bl (decide (i = 1)), .bl (decide (i = 2)), .bl (decide (i = 3)), .bl (decide (i = 4)), .bl (decide (i = 5)), .bl (decide (i = 6)), .bl (decide (i = 7)), .bl (decide (i = 8)), .bl (decide (i = 9)), .bl (decide (i = 10)), .bl (decide (i = 11)), .bl (decide (i = 12)), .bl (decide (i = 13)), .bl (decide (i = 14))] ++ [V.bl (decide (i = 15)), .bl (decide (i = 16)), .bl (decide (i = 17))])) = upd M5 l5 (.lst [V.bl (decide (i = 0)), .bl (decide (i = 1)), .bl (decide (i = 2)), .bl (decide (i = 3)), .bl (decide (i = 4)), .bl (decide (i = 5)), .bl (decide (i = 6)), .bl (decide (i = 7)), .bl (decide (i = 8)), .bl (decide (i = 9)), .bl (decide (i = 10)), .bl (decide (i = 11)), .bl (decide (i = 12)), .bl (decide (i = 13)), .bl (decide (i = 14)), .bl (decide (i = 15)), .bl (decide (i = 16)), .bl (decide (i = 17))]) := rfl
  rw [e5]
  generalize upd M5 l5 (.lst [V.bl (decide (i = 0)), .bl (decide (i = 1)), .bl (decide (i = 2)), .bl (decide (i = 3)), .bl (decide (i = 4)), .bl (decide (i = 5)), .bl (decide (i = 6)), .bl (decide (i = 7)), .bl (decide (i = 8)), .bl (decide (i = 9)), .bl (decide (i = 10)), .bl (decide (i = 11)), .bl (decide (i = 12)), .bl (decide (i = 13)), .bl (decide (i = 14)), .bl (decide (i = 15)), .bl (decide (i = 16)), .bl (decide (i = 17))]) = H5 at c5 k5 ⊢
  have t5 := (t4.trans d5).trans c5
  have he6 := t5 _ _ he0
  have hf6 : ∀ dd, d = some dd → ∃ fs, H5 dd = some (.xd fs) := fun dd z => by
    obtain ⟨fs, y⟩ := hf0 dd z
    exact ⟨fs, t5 _ _ y⟩
  refine ⟨_, rfl, _, rfl, e, Cs i, d, _, _, decide (i = 18), rfl, he6, hf6, xc, .own (Cs 18), G.kit i 18 hi (by decide), _, rfl, e, Cs i, d, _, _, decide (i = 19), rfl, he6, hf6, xc, .own (Cs 19), G.kit i 19 hi (by decide), _, rfl, e, Cs i, d, _, _, decide (i = 20), rfl, he6, hf6, xc, .own (Cs 20), G.kit i 20 hi (by decide), by show 3 ≤ sizeLine; decide, fun m6 hm6 => ?_⟩
  have d6 := same1 (o := .lst [V.bl (decide (i = 18)), .bl (decide (i = 19)), .bl (decide (i = 20))]) hm6
  have n6 : upd H5 m6 (.lst [V.bl (decide (i = 18)), .bl (decide (i = 19)), .bl (decide (i = 20))]) m6 = some (.lst [V.bl (decide (i = 18)), .bl (decide (i = 19)), .bl (decide (i = 20))]) := upd_same
  generalize upd H5 m6 (.lst [V.bl (decide (i = 18)), .bl (decide (i = 19)), .bl (decide (i = 20))]) = M6 at d6 n6 ⊢
  refine ⟨l5, m6, _, _, rfl, rfl, d6 _ _ k5, n6, by show 18 + 3 ≤ sizeLine; decide, fun l6 hl6 => ?_⟩
  have c6 := same1 (o := .lst [V.bl (decide (i = 0)), .bl (decide (i = 1)), .bl (decide (i = 2)), .bl (decide (i = 3)), .bl (decide (i = 4)), .bl (decide (i = 5)), .bl (decide (i = 6)), .bl (decide (i = 7)), .bl (decide (i = 8)), .bl (decide (i = 9)), .bl (decide (i = 10)), .bl (decide (i = 11)), .bl (decide (i = 12)), .bl (decide (i = 13)), .bl (decide (i = 14)), .bl (decide (i = 15)), .bl (decide (i = 16)), .bl (decide (i = 17)), .bl (decide (i = 18)), .bl (decide (i = 19)), .bl (decide (i = 20))]) hl6
  have k6 : upd M6 l6 (.lst [V.bl (decide (i = 0)), .bl (decide (i = 1)), .bl (decide (i = 2)), .bl (decide (i = 3)), .bl (decide (i = 4)), .bl (decide (i = 5)), .bl (decide (i = 6)), .bl (decide (i = 7)), .bl (decide (i = 8)), .bl (decide (i = 9)), .bl (decide (i = 10)), .bl (decide (i = 11)), .bl (decide (i = 12)), .bl (decide (i = 13)), .bl (decide (i = 14)), .bl (decide (i = 15)), .bl (decide (i = 16)), .bl (decide (i = 17)), .bl (decide (i = 18)), .bl (decide (i = 19)), .bl (decide (i = 20))]) l6 = some (.lst [V.bl (decide (i = 0)), .bl (decide (i = 1)), .bl (decide (i = 2)), .bl (decide (i = 3)), .bl (decide (i = 4)), .bl (decide (i = 5)), .bl (decide (i = 6)), .bl (decide (i = 7)), .bl (decide (i = 8)), .bl (decide (i = 9)), .bl (decide (i = 10)), .bl (decide (i = 11)), .bl (decide (i = 12)), .bl (decide (i = 13)), .bl (decide (i = 14)), .bl (decide (i = 15)), .bl (decide (i = 16)), .bl (decide (i = 17)), .bl (decide (i = 18)), .bl (decide (i = 19)), .bl (decide (i = 20))]) := upd_same
  have e6 : upd M6 l6 (.lst ([V.bl (decide (i = 0)), .bl (decide (i = 1)), .bl (decide (i = 2)), .bl (decide (i = 3)), .bl (decide (i = 4)), .bl (decide (i = 5)), .bl (decide (i = 6)), .bl (decide (i = 7)), .bl (decide (i = 8)), .bl (decide (i = 9)), .bl (decide (i = 10)), .bl (decide (i = 11)), .bl (decide (i = 12)), .bl (decide (i = 13)), .bl (decide (i = 14)), .bl (decide (i = 15)), .bl (decide (i = 16)), .bl (decide (i = 17))] ++ [V.bl (decide (i = 18)), .bl (decide (i = 19)), .bl (decide (i = 20))])) = upd M6 l6 (.lst [V.bl (decide (i = 0)), .bl (decide (i = 1)), .bl (decide (i = 2)), .bl (decide (i = 3)), .bl (decide (i = 4)), .bl (decide (i = 5)), .bl (decide (i = 6)), .bl (decide (i = 7)), .bl (decide (i = 8)), .bl (decide (i = 9)), .bl (decide (i = 10)), .bl (decide (i = 11)), .bl (decide (i = 12)), .bl (decide (i = 13)), .bl (decide (i = 14)), .bl (decide (i = 15)), .bl (decide (i = 16)), .bl (decide (i = 17)), .bl (decide (i = 18)), .bl (decide (i = 19)), .bl (decide (i = 20))]) := rfl
  rw [e6]
  generalize upd M6 l6 (.lst [V.bl (decide (i = 0)), .bl (decide (i = 1)), .bl (decide (i = 2)), .bl (decide (i = 3)), .bl (decide (i = 4)), .bl (decide (i = 5)), .bl (decide (i = 6)), .bl (decide (i = 7)), .bl (decide (i = 8)), .bl (decide (i = 9)), .bl (decide (i = 10)), .bl (decide (i = 11)), .bl (decide (i = 12)), .bl (decide (i = 13)), .bl (decide (i = 14)), .bl (decide (i = 15)), .bl (decide (i = 16)), .bl (decide (i = 17)), .bl (decide (i = 18)), .bl (decide (i = 19)), .bl (decide (i = 20))]) = H6 at c6 k6 ⊢
  have t6 := (t5.trans d6).trans c6
  have he7 := t6 _ _ he0
  have hf7 : ∀ dd, d = some dd → ∃ fs, H6 dd = some (.xd fs) := fun dd z => by
    obtain ⟨fs, y⟩ := hf0 dd z
    exact ⟨fs, t6 _ _ y⟩
  refine ⟨_, rfl, _, rfl, e, Cs i, d, _, _, decide (i = 21), rfl, he7, hf7, xc, .own (Cs 21), G.kit i 21 hi (by decide), _, rfl, e, Cs i, d, _, _, decide (i = 22), rfl, he7, hf7, xc, .own (Cs 22), G.kit i 22 hi (by decide), _, rfl, e, Cs i, d, _, _, decide (i = 23), rfl, he7, hf7, xc, .own (Cs 23), G.kit i 23 hi (by decide), by show 3 ≤ sizeLine; decide, fun m7 hm7 => ?_⟩
  have d7 := same1 (o := .lst [V.bl (decide (i = 21)), .bl (decide (i = 22)), .bl (decide (i = 23))]) hm7
  have n7 : upd H6 m7 (.lst [V.bl (decide (i = 21)), .bl (decide (i = 22)), .bl (decide (i = 23))]) m7 = some (.lst [V.bl (decide (i = 21)), .bl (decide (i = 22)), .bl (decide (i = 23))]) := upd_same
  generalize upd H6 m7 (.lst [V.bl (decide (i = 21)), .bl (decide (i = 22)), .bl (decide (i = 23))]) = M7 at d7 n7 ⊢
  refine ⟨l6, m7, _, _, rfl, rfl, d7 _ _ k6, n7, by show 21 + 3 ≤ sizeLine; decide, fun l7 hl7 => ?_⟩
  exact q l7 _ ((t6.trans d7).trans (same1 hl7)) upd_same
end
end Pl

namespace Pl
open PySem PyProof.Rows L2 Own TL RZ LamX
/-! ### the making of errors -/
def rot3 {α : Type} : List α → List α
  | [h, p, c] => [p, c, h]
  | l => l
def swap2 {α : Type} : List α → List α
  | [y, x] => [x, y]
  | l => l
def same {α : Type} (l : List α) : List α := l
structure MkE (P : Program) (w : World) (K : PySem.W.Frag) (mg : Str → Option Value) (base : Heap) (x : Str) (fs ks : List Str) (g : List Value → List Value) (sp : Sp) (C fI : Addr) (fd : FuncData) : Prop where
  o : OexC K C
  mgC : mg x = some (.ref C)
  ini : PySem.W.findIn K (.ref C) "__init__" = some (some (.ref fI))
  tyI : PySem.W.typeIn K (.ref fI) = some (.type "function")
  fn : FnOk P w K mg base CX0 1 fI fd (("self" : Str) :: fs) sp
  bi : L2.Binds K fd (("self" : Str) :: fs) []
  bk : ∀ (s' : Shared) (a : Addr) (ws : List Value), ws.length = ks.length → BindsTo s' fd ⟨[.ref a], ks.zip ws⟩ ((("self" : Str) :: fs).zip (.ref a :: g ws))
structure MkZ (K : PySem.W.Frag) (mg : Str → Option Value) (x : Str) (C : Addr) : Prop where
  q : PySem.W.excIn K C [.type "ValueError", .type "Exception", .type "BaseException", .type "object"] "ValueError.__new__" = true
  mgC : mg x = some (.ref C)
  kC : PySem.W.keepIn K (.ref C) = true
theorem perm_same {vs : List V} {ws : List Value} (_ : vs.length = 1) (h : Vals vs ws) : Vals (same vs) (same ws) := h
theorem perm_swap {vs : List V} {ws : List Value} (hl : vs.length = 2) (h : Vals vs ws) : Vals (swap2 vs) (swap2 ws) := by
  match vs, hl, ws, h with
  | [_, _], _, _, .cons a (.cons b .nil) => exact .cons b (.cons a .nil)
theorem perm_rot {vs : List V} {ws : List Value} (hl : vs.length = 3) (h : Vals vs ws) : Vals (rot3 vs) (rot3 ws) := by
  match vs, hl, ws, h with
  | [_, _, _], _, _, .cons a (.cons b (.cons c .nil)) => exact .cons b (.cons c (.cons a .nil))
section
variable {X : Cx} {x : Str} {fs ks : List Str} {g : List Value → List Value} {sp : Sp} {C fI : Addr} {fd : FuncData}
theorem pe_e {e : Expr} {es : List Expr} {ta : TA} {p pos : Pos} (M : MkE X.prog X.w X.K X.mg X.base x fs ks g sp C fI fd) (hr : Room 2 X.A) (hg : Gl X x) (ha : PA X (e :: es) ta)
    (hdb : (x == ("__debug__" : Str)) = false := by decide) (he : starEach (e :: es) X.env = (false, eval e X.env) :: starEach es X.env := by rfl) (hpl : (backTo pos (starEach es X.env)).any (·.1) = false := by rfl) :
    PE X (.Call (.Name x p) (e :: es) [] pos) (tMkV C sp ta) := pe_mkV M.o M.ini M.tyI M.fn hr M.bi hg M.mgC ha hdb he hpl
theorem pe_ek {kws : List Keyword} {ta : TA} {gV : List V → List V} {p pos : Pos} (M : MkE X.prog X.w X.K X.mg X.base x fs ks g sp C fI fd) (hr : Room 2 X.A) (hg : Gl X x) (hkw : PK X kws ta) (hgv : ∀ (vs : List V) (ws : List Value), vs.length = ks.length → Vals vs ws → Vals (gV vs) (g ws))
    (hall : (backToKw pos (keywordEach kws X.env)).all (·.1.isSome) = true := by rfl) (hks : (backToKw pos (keywordEach kws X.env)).filterMap (·.1) = ks := by rfl) (hdb : (x == ("__debug__" : Str)) = false := by decide)
    (hpl : ((backTo pos (starEach [] X.env)).any (·.1) || (backToKw pos (keywordEach kws X.env)).any (·.1.isNone)) = false := by rfl) :
    PE X (.Call (.Name x p) [] kws pos) (tMkVK C sp gV ks.length ta) := pe_mkVK M.o M.ini M.tyI M.fn hr M.bk hgv hg M.mgC hkw hall hks hdb hpl
theorem pe_z {p pos : Pos} (M : MkZ X.K X.mg x C) (hg : Gl X x) (hdb : (x == ("__debug__" : Str)) = false := by decide) : PE X (.Call (.Name x p) [] [] pos) (fun _ H Q => ∀ a, H a = none → Q (.ref a) (upd H a (kex a (.ref C) none))) :=
  pe_mk0 F.excBase_ValueError M.q M.mgC M.kC hg hdb
end
structure ErrM (P : Program) (w : World) (K : PySem.W.Frag) (mg : Str → Option Value) (base : Heap) (Cs fI : Nat → Addr) (fd : Nat → FuncData) : Prop where
  e0 : MkE P w K mg base "BadName" ["value"] ["value"] same (spErr (Cs 0) "value") (Cs 0) (fI 0) (fd 0)
  e1 : MkE P w K mg base "BadPlace" ["value"] ["value"] same (spErr (Cs 1) "value") (Cs 1) (fI 1) (fd 1)
  e2 : MkE P w K mg base "BadColumn" ["value"] ["value"] same (spErr (Cs 2) "value") (Cs 2) (fI 2) (fd 2)
  e3 : MkE P w K mg base "BadCells" ["place"] ["place"] same (spErr (Cs 3) "place") (Cs 3) (fI 3) (fd 3)
  e4 : MkE P w K mg base "NoRow" ["place"] ["place"] same (spErr (Cs 4) "place") (Cs 4) (fI 4) (fd 4)
  e5 : MkZ K mg "UnlikeColumns" (Cs 5)
  e6 : MkE P w K mg base "TooMany" ["most"] ["most"] same (spErr (Cs 6) "most") (Cs 6) (fI 6) (fd 6)
  e7 : MkE P w K mg base "NoStep" ["value"] ["value"] same (spErr (Cs 7) "value") (Cs 7) (fI 7) (fd 7)
  e8 : MkE P w K mg base "BadPlan" ["at"] ["at"] same (spErr (Cs 8) "at") (Cs 8) (fI 8) (fd 8)
  e9 : MkE P w K mg base "NoOrder" ["k"] ["k"] same (spErr (Cs 9) "k") (Cs 9) (fI 9) (fd 9)
  e10 : MkE P w K mg base "Ringed" ["ring"] ["ring"] same (spErr (Cs 10) "ring") (Cs 10) (fI 10) (fd 10)
  e11 : MkE P w K mg base "Divided" ["place"] ["place"] same (spErr (Cs 11) "place") (Cs 11) (fI 11) (fd 11)
  e12 : MkE P w K mg base "BadStanding" ["value"] ["value"] same (spErr (Cs 12) "value") (Cs 12) (fI 12) (fd 12)
  e13 : MkZ K mg "ManyColumns" (Cs 13)
  e14 : MkE P w K mg base "Clash" ["place"] ["place"] same (spErr (Cs 14) "place") (Cs 14) (fI 14) (fd 14)
  e15 : MkE P w K mg base "BadHearings" ["at"] ["at"] same (spErr (Cs 15) "at") (Cs 15) (fI 15) (fd 15)
  e16 : MkE P w K mg base "Contradiction" ["value"] ["value"] same (spErr (Cs 16) "value") (Cs 16) (fI 16) (fd 16)
  e17 : MkE P w K mg base "ThirdAnswer" ["place", "column", "heard"] ["heard", "place", "column"] rot3 (spErr3 (Cs 17) "place" "column" "heard") (Cs 17) (fI 17) (fd 17)
  e18 : MkE P w K mg base "TooEarly" ["number", "ahead"] ["ahead", "number"] swap2 (spErr2 (Cs 18) "number" "ahead") (Cs 18) (fI 18) (fd 18)
  e19 : MkZ K mg "NoExchange" (Cs 19)
  e20 : MkZ K mg "Underway" (Cs 20)
  e21 : MkE P w K mg base "BadRule" ["value"] ["value"] same (spErr (Cs 21) "value") (Cs 21) (fI 21) (fd 21)
  e22 : MkE P w K mg base "BadText" ["line", "word"] ["word", "line"] swap2 (spErr2 (Cs 22) "line" "word") (Cs 22) (fI 22) (fd 22)
  e23 : MkE P w K mg base "BadLine" ["word"] ["word"] same (spErr (Cs 23) "word") (Cs 23) (fI 23) (fd 23)
  n0_value : PySem.W.findIn K (.ref (Cs 0)) "value" = some none
  n1_value : PySem.W.findIn K (.ref (Cs 1)) "value" = some none
  n2_value : PySem.W.findIn K (.ref (Cs 2)) "value" = some none
  n3_place : PySem.W.findIn K (.ref (Cs 3)) "place" = some none
  n4_place : PySem.W.findIn K (.ref (Cs 4)) "place" = some none
  n6_most : PySem.W.findIn K (.ref (Cs 6)) "most" = some none
  n7_value : PySem.W.findIn K (.ref (Cs 7)) "value" = some none
  n8_at : PySem.W.findIn K (.ref (Cs 8)) "at" = some none
  n9_k : PySem.W.findIn K (.ref (Cs 9)) "k" = some none
  n10_ring : PySem.W.findIn K (.ref (Cs 10)) "ring" = some none
  n11_place : PySem.W.findIn K (.ref (Cs 11)) "place" = some none
  n12_value : PySem.W.findIn K (.ref (Cs 12)) "value" = some none
  n14_place : PySem.W.findIn K (.ref (Cs 14)) "place" = some none
  n15_at : PySem.W.findIn K (.ref (Cs 15)) "at" = some none
  n16_value : PySem.W.findIn K (.ref (Cs 16)) "value" = some none
  n17_place : PySem.W.findIn K (.ref (Cs 17)) "place" = some none
  n17_column : PySem.W.findIn K (.ref (Cs 17)) "column" = some none
  n17_heard : PySem.W.findIn K (.ref (Cs 17)) "heard" = some none
  n18_number : PySem.W.findIn K (.ref (Cs 18)) "number" = some none
  n18_ahead : PySem.W.findIn K (.ref (Cs 18)) "ahead" = some none
  n21_value : PySem.W.findIn K (.ref (Cs 21)) "value" = some none
  n22_line : PySem.W.findIn K (.ref (Cs 22)) "line" = some none
  n22_word : PySem.W.findIn K (.ref (Cs 22)) "word" = some none
  n23_word : PySem.W.findIn K (.ref (Cs 23)) "word" = some none
/-- the fields of the errors made of three values -/
def fldOf (x y z : V) : Nat → Option (List (Str × V))
  | 0 => some [("value", x)]
  | 1 => some [("value", x)]
  | 2 => some [("value", x)]
  | 3 => some [("place", x)]
  | 4 => some [("place", x)]
  | 5 => none
  | 6 => some [("most", x)]
  | 7 => some [("value", x)]
  | 8 => some [("at", x)]
  | 9 => some [("k", x)]
  | 10 => some [("ring", x)]
  | 11 => some [("place", x)]
  | 12 => some [("value", x)]
  | 13 => none
  | 14 => some [("place", x)]
  | 15 => some [("at", x)]
  | 16 => some [("value", x)]
  | 17 => some [("heard", z), ("column", y), ("place", x)]
  | 18 => some [("ahead", y), ("number", x)]
  | 19 => none
  | 20 => none
  | 21 => some [("value", x)]
  | 22 => some [("word", y), ("line", x)]
  | 23 => some [("word", x)]
  | _ => none
def ErrOk (H : Hp) (C e : Addr) : Option (List (Str × V)) → Prop
  | none => H e = some (kex e (.ref C) none)
  | some fs => ErAt H e C fs
theorem ErrOk.mono {H H' : Hp} {C e : Addr} {o : Option (List (Str × V))} (h : ErrOk H C e o) (s : Same H H') : ErrOk H' C e o := by
  cases o with
  | none => exact s _ _ h
  | some fs => exact ErAt.mono h s
theorem ErrOk.an {H : Hp} {C e : Addr} {o : Option (List (Str × V))} (h : ErrOk H C e o) : AnEr H e C := by
  cases o with
  | none => exact ⟨none, h, fun _ z => by cases z⟩
  | some fs =>
    obtain ⟨d, h1, h2⟩ := h
    exact ⟨some d, h1, fun _ z => by cases z; exact ⟨fs, h2⟩⟩
def ErrsAt (H : Hp) (Cs : Nat → Addr) (es : List Addr) (x y z : V) : Prop := es.length = 24 ∧ ∀ (i : Nat) (e : Addr), es[i]? = some e → ErrOk H (Cs i) e (fldOf x y z i)
theorem ErrsAt.mono {H H' : Hp} {Cs : Nat → Addr} {es : List Addr} {x y z : V} (h : ErrsAt H Cs es x y z) (s : Same H H') : ErrsAt H' Cs es x y z := ⟨h.1, fun i e he => (h.2 i e he).mono s⟩
/-! ### repr of some things -/
theorem Th.same {a : Ad} {H H' : Hp} {x : V} (h : Th a H x) (s : Same H H') : Th a H' x := h.extN (ExtN.of s)
section
variable {X : Cx} {a : Ad} {H : Hp}
theorem rus_more {as as' : List Addr} {k : Nat} {xs : List V} {ts : List Str} (h : RUs X as k H xs ts) (hs : ∀ b ∈ as, b ∈ as') : RUs X as' k H xs ts := by
  induction h with
  | nil => exact .nil
  | cons hx _ ih => exact .cons (hx.more hs (Nat.le_refl _)) ih
theorem things_ru (W : Wo X.prog X.w X.K X.mg X.base a) {zs : List V} (h : ∀ z ∈ zs, Th a H z) : ∃ as ts, RUs X as 4 H zs ts ∧ (ts.map (·.length)).sum ≤ 10000 * zs.length ∧ ts.length = zs.length ∧ ∀ b ∈ as, V.ref b ∈ zs := by
  induction zs with
  | nil => exact ⟨[], [], .nil, by simp, rfl, by simp⟩
  | cons z zs ih =>
    obtain ⟨as, ts, h1, h2, h3, h4⟩ := ih fun u hu => h u (List.mem_cons_of_mem _ hu)
    obtain ⟨bs, t, g1, g2, g3⟩ := (h z List.mem_cons_self).ru (X := X) W
    refine ⟨bs ++ as, t :: ts, .cons (g1.more (fun b hb => List.mem_append_left _ hb) (Nat.le_refl _)) (rus_more h1 fun b hb => List.mem_append_right _ hb), ?_, by rw [List.length_cons, List.length_cons, h3], fun b hb => ?_⟩
    · simp only [List.map_cons, List.sum_cons, List.length_cons]
      omega
    · rcases List.mem_append.mp hb with hb | hb
      · rw [g3 b hb]; exact List.mem_cons_self
      · exact List.mem_cons_of_mem _ (h4 b hb)
/-- a list of things is read alike wherever it stands -/
theorem rep_list (W : Wo X.prog X.w X.K X.mg X.base a) {zs : List V} (h : ∀ z ∈ zs, Th a H z) (h0 : zs ≠ []) (h40 : zs.length ≤ 40) : ∃ T : Str, ∀ (L : Addr) (H1 : Hp) (Q : VK), Same H H1 → H L = none → H1 L = some (.lst zs) → (∀ H2, Same H1 H2 → Q (.str T) H2) → rRepr X 4 [.ref L] H1 Q := by
  obtain ⟨as, ts, h1, h2, h3, h4⟩ := things_ru (X := X) W h
  have lz := listText_len_le ts
  refine ⟨listText ts, fun L H1 Q s n0 hL k => ⟨L, zs, ts, as, _, rfl, fun hm => ?_, h1.mono s, .inr ⟨hL, h0, rfl⟩, ?_, k⟩⟩
  · exact (h _ (h4 L hm)).nn rfl n0
  · rw [h3] at lz
    have : (1000000 : Nat) ≤ sizeLine := by decide
    omega
end
end Pl

namespace Pl
open PySem L2 Own TL RZ LamX
/-! ### errors made of three values keep them -/
abbrev sEr : Stmt := top 45
abbrev Ner : List Str := ["_law_first", "_law_second", "_law_last", "_law_some", "_law_mark", "_law_error", "_law_kept", "_law_spot", "_law_is_one"]
theorem scEr : FnScope Ner ["_law_first", "_law_second", "_law_last"] (defScope sEr) := ⟨rfl, rfl, rfl, by decide +kernel, rfl, by decide +kernel, by decide +kernel⟩
def ErrsTo (H : Hp) (Cs : Nat → Addr) (es : List Addr) (x y z : V) (n : Nat) : Prop := es.length = n ∧ ∀ (i : Nat) (e : Addr), es[i]? = some e → ErrOk H (Cs i) e (fldOf x y z i)
theorem nil_okU : True := trivial
theorem one_sh (i : Int) : SeqAt.shaped (.list [.int i]) = true := rfl
theorem one_eq (i : Int) : PyData.eqv (.list [.int i]) (.list [.int i]) = true := by simp [PyData.eqv, PyData.eqvAll]
def spEr (a : Ad) : Sp := fun vs H Q _ => ∃ x y z, vs = [x, y, z] ∧ Th a H x ∧ Th a H y ∧ Th a H z ∧ ∀ H', Same H H' → Q (.bl true) H'
theorem ix_listK {X : Cx} {K : PySem.W.Frag} (h : X.K = K) : IxR X (rIxL K) := by
  subst h
  exact ix_list
theorem pe_kxK {X : Cx} {K : PySem.W.Frag} (h : X.K = K) {e : Expr} {te : TE} {pos : Pos} {n : Str} (he : PE X e te) (hb : attributeBase e n X.env (eval e X.env) = eval e X.env := by rfl) : PE X (.Attribute e n pos) (tKxA K n te) := by
  subst h
  exact pe_kxA he hb
/-- a test of a bool, as a reading that has a name -/
def tBo (te : TE) : TT := fun σ H Q => te σ H fun v H1 => ∃ k, v = .bl k ∧ Q k H1
theorem pt_bo {X : Cx} {e : Expr} {te : TE} (he : PE X e te) (h : ∀ whole, isTrue e X.env whole = (do let v ← whole; standAt e.pos; holding [v] (truthy v)) := by intro _; rfl) : PT X e (tBo te) := pt_val he h
section
variable {P : Program} {w : World} {K : PySem.W.Frag} {mg : Str → Option Value} {base : Heap} {a : Ad} {f : Addr} {fd : FuncData} {Cs fI : Nat → Addr} {fdI : Nat → FuncData} {CT : Addr}
theorem gEr {gM : Addr} {fdM : FuncData} (W : Wo P w K mg base a) (G : ErrG K mg Cs CT) (M : ErrM P w K mg base Cs fI fdI) (F : Fun K "_law_errors_right" "_law_errors_right" sEr f fd) (bF : L2.Binds K fd ["_law_first", "_law_second", "_law_last"] [])
    (GM : FnOk P w K mg base CX0 1 gM fdM ["_law_error"] (spMrk Cs)) (mM : mg "_law_marks" = some (.ref gM)) (kM : PySem.W.keepIn K (.ref gM) = true) (bM : L2.Binds K fdM ["_law_error"] []) : FnG P w K mg base CX0 8 f (spEr a) := by
  refine fnG_of F scEr bF (fun vs H Q E h => ?_) (fun cdv A outer s H vs Q E hr hg h => ?_)
  · obtain ⟨x, y, z, rfl, _⟩ := h
    rfl
  obtain ⟨x, y, z, rfl, hx, hy, hz, q⟩ := h
  have hr1 : Room 1 _ := hr.mono (by decide)
  have hr2 : Room 2 _ := hr.mono (by decide)
  have hr6 : Room 6 _ := hr.mono (by decide)
  refine ⟨_, PSs.nox (C8.pss_cut (ps_set (i := 3) scEr.nd rfl (by first | exact Or.inl rfl | exact Or.inr rfl) (pe_lst (pa_cons (pe_e M.e0 hr2 (by rfl) (pa_cons (pv 0) pa_nil)) (pa_cons (pe_e M.e1 hr2 (by rfl) (pa_cons (pv 0) pa_nil)) (pa_cons (pe_e M.e2 hr2 (by rfl) (pa_cons (pv 0) pa_nil)) (pa_cons (pe_e M.e3 hr2 (by rfl) (pa_cons (pv 0) pa_nil)) (pa_cons (pe_e M.e4 hr2 (by rfl) (pa_cons (pv 0) pa_nil)) (pa_cons (pe_z M.e5 (by rfl)) pa_nil))))))))
    (C8.pss_cut (ps_set (i := 3) scEr.nd rfl (by first | exact Or.inl rfl | exact Or.inr rfl) (pe_op op_cat (pv 3) (pe_lst (pa_cons (pe_e M.e6 hr2 (by rfl) (pa_cons (pv 0) pa_nil)) (pa_cons (pe_e M.e7 hr2 (by rfl) (pa_cons (pv 0) pa_nil)) (pa_cons (pe_e M.e8 hr2 (by rfl) (pa_cons (pv 0) pa_nil)) (pa_cons (pe_e M.e9 hr2 (by rfl) (pa_cons (pv 0) pa_nil)) (pa_cons (pe_e M.e10 hr2 (by rfl) (pa_cons (pv 0) pa_nil)) (pa_cons (pe_e M.e11 hr2 (by rfl) (pa_cons (pv 0) pa_nil)) pa_nil)))))))))
    (C8.pss_cut (ps_set (i := 3) scEr.nd rfl (by first | exact Or.inl rfl | exact Or.inr rfl) (pe_op op_cat (pv 3) (pe_lst (pa_cons (pe_e M.e12 hr2 (by rfl) (pa_cons (pv 0) pa_nil)) (pa_cons (pe_z M.e13 (by rfl)) (pa_cons (pe_e M.e14 hr2 (by rfl) (pa_cons (pv 0) pa_nil)) (pa_cons (pe_e M.e15 hr2 (by rfl) (pa_cons (pv 0) pa_nil)) (pa_cons (pe_e M.e16 hr2 (by rfl) (pa_cons (pv 0) pa_nil)) pa_nil))))))))
    (C8.pss_cut (ps_set (i := 3) scEr.nd rfl (by first | exact Or.inl rfl | exact Or.inr rfl) (pe_op op_cat (pv 3) (pe_lst (pa_cons (pe_e M.e17 hr2 (by rfl) (pa_cons (pv 0) (pa_cons (pv 1) (pa_cons (pv 2) pa_nil)))) (pa_cons (pe_e M.e18 hr2 (by rfl) (pa_cons (pv 0) (pa_cons (pv 1) pa_nil))) (pa_cons (pe_z M.e19 (by rfl)) (pa_cons (pe_z M.e20 (by rfl)) pa_nil)))))))
    (C8.pss_cut (ps_set (i := 3) scEr.nd rfl (by first | exact Or.inl rfl | exact Or.inr rfl) (pe_op op_cat (pv 3) (pe_lst (pa_cons (pe_e M.e21 hr2 (by rfl) (pa_cons (pv 0) pa_nil)) (pa_cons (pe_e M.e22 hr2 (by rfl) (pa_cons (pv 0) (pa_cons (pv 1) pa_nil))) (pa_cons (pe_e M.e23 hr2 (by rfl) (pa_cons (pv 0) pa_nil)) pa_nil))))))
    (C8.pss_cut (ps_for PassesOwn.never rfl (pi_enum (by rfl) W.T.b.enum (pa_cons (pv 3) pa_nil)) (pg_tup rfl (pgs_cons (pg_name (i := 4) scEr.nd rfl (by first | exact Or.inl rfl | exact Or.inr rfl)) (pgs_cons (pg_name (i := 5) scEr.nd rfl (by first | exact Or.inl rfl | exact Or.inr rfl)) pgs_nil)))
      (pss_cons (ps_if (PW.pt (pw_or (pt_not (pt_val (pe_callB call_isK (by rfl) W.T.b.isi (by decide +kernel) (pa_cons (pv 5) (pa_cons (pe_glob (v := .ref CT) (by rfl) G.mT rfl) pa_nil))))) (pw_or1 (pt_not (pt_val (pe_callB call_isK (by rfl) W.T.b.isi (by decide +kernel) (pa_cons (pv 5) (pa_cons (pe_bltn (v := .ty "ValueError") (by rfl) W.VE (by decide +kernel) rfl) pa_nil)))))))) (pss_one (ps_ret pe_bl)) pss_nil)
      (pss_one (ps_if (pt_cmpR (op_neD hr.units) (pe_lc (own := [("_law_spot", 7), ("_law_is_one", 8)]) (g := gTup K 2 (gCons (gName 7) (gCons (gName 8) gNil))) (tt := tBo (tVar 8)) rfl scEr.nd (pi_enum (by rfl) W.T.b.enum (pa_cons (pe_call GM hr1 (by rfl) mM kM bM .nil pass0 (pa_cons (pv 5) pa_nil)) pa_nil)) (blkOk_by (own := [("_law_spot", 7), ("_law_is_one", 8)]) (N := Ner) (sc := defScope sEr) (by decide +kernel)) (fun _ _ _ _ _ => pg_tup rfl (pgs_cons (pg_name (i := 7) scEr.nd rfl (by first | exact Or.inl rfl | exact Or.inr rfl)) (pgs_cons (pg_name (i := 8) scEr.nd rfl (by first | exact Or.inl rfl | exact Or.inr rfl)) pgs_nil))) (fun _ _ _ _ _ => pts_one (pt_bo (pv 8))) (fun _ _ _ _ _ => pv 7)) (pe_lst (pa_cons (pv 4) pa_nil)) (nomark _)) (pss_one (ps_ret pe_bl)) pss_nil))))
    (C8.pss_cut (ps_set (i := 6) scEr.nd rfl (by first | exact Or.inl rfl | exact Or.inr rfl) (pe_op op_cat (pe_lc (own := [("_law_spot", 7)]) (g := gName 7) (tt := tYes) rfl scEr.nd (pi_tup (pe_tup (pa_cons pe_int (pa_cons pe_int (pa_cons pe_int (pa_cons pe_int (pa_cons pe_int (pa_cons pe_int (pa_cons pe_int pa_nil))))))))) (blkOk_by (own := [("_law_spot", 7)]) (N := Ner) (sc := defScope sEr) (by decide +kernel)) (fun _ _ _ _ _ => pg_name (i := 7) scEr.nd rfl (by first | exact Or.inl rfl | exact Or.inr rfl)) (fun _ _ _ _ _ => pts_nil) (fun _ _ _ _ _ => pe_kxK (K := K) rfl (pe_ix (ix_listK (K := K) rfl) (pv 3) (pv 7) (fun _ _ => rfl)))) (pe_lc (own := [("_law_spot", 7)]) (g := gName 7) (tt := tYes) rfl scEr.nd (pi_tup (pe_tup (pa_cons pe_int (pa_cons pe_int (pa_cons pe_int (pa_cons pe_int pa_nil)))))) (blkOk_by (own := [("_law_spot", 7)]) (N := Ner) (sc := defScope sEr) (by decide +kernel)) (fun _ _ _ _ _ => pg_name (i := 7) scEr.nd rfl (by first | exact Or.inl rfl | exact Or.inr rfl)) (fun _ _ _ _ _ => pts_nil) (fun _ _ _ _ _ => pe_kxK (K := K) rfl (pe_ix (ix_listK (K := K) rfl) (pv 3) (pv 7) (fun _ _ => rfl))))))
    (C8.pss_cut (ps_set (i := 6) scEr.nd rfl (by first | exact Or.inl rfl | exact Or.inr rfl) (pe_op op_cat (pv 6) (pe_lst (pa_cons (pe_kxK (K := K) rfl (pe_ix (ix_listK (K := K) rfl) (pv 3) pe_int (fun _ _ => rfl))) (pa_cons (pe_kxK (K := K) rfl (pe_ix (ix_listK (K := K) rfl) (pv 3) pe_int (fun _ _ => rfl))) (pa_cons (pe_kxK (K := K) rfl (pe_ix (ix_listK (K := K) rfl) (pv 3) pe_int (fun _ _ => rfl))) (pa_cons (pe_kxK (K := K) rfl (pe_ix (ix_listK (K := K) rfl) (pv 3) pe_int (fun _ _ => rfl))) (pa_cons (pe_kxK (K := K) rfl (pe_ix (ix_listK (K := K) rfl) (pv 3) pe_int (fun _ _ => rfl))) (pa_cons (pe_kxK (K := K) rfl (pe_ix (ix_listK (K := K) rfl) (pv 3) pe_int (fun _ _ => rfl))) pa_nil)))))))))
    (pss_cons (ps_if (pt_cmpR op_ne (pe_callB (call_repr (k := 4) hg hr6) (by rfl) W.repr (by decide +kernel) (pa_cons (pv 6) pa_nil)) (pe_callB (call_repr (k := 4) hg hr6) (by rfl) W.repr (by decide +kernel) (pa_cons (pe_op op_rep (pe_lst (pa_cons (pv 0) pa_nil)) pe_int) pa_nil)) (nomark _)) (pss_one (ps_ret pe_bl)) pss_nil)
    (pss_cons (ps_set (i := 6) scEr.nd rfl (by first | exact Or.inl rfl | exact Or.inr rfl) (pe_lst (pa_cons (pe_kxK (K := K) rfl (pe_ix (ix_listK (K := K) rfl) (pv 3) pe_int (fun _ _ => rfl))) (pa_cons (pe_kxK (K := K) rfl (pe_ix (ix_listK (K := K) rfl) (pv 3) pe_int (fun _ _ => rfl))) (pa_cons (pe_kxK (K := K) rfl (pe_ix (ix_listK (K := K) rfl) (pv 3) pe_int (fun _ _ => rfl))) (pa_cons (pe_kxK (K := K) rfl (pe_ix (ix_listK (K := K) rfl) (pv 3) pe_int (fun _ _ => rfl))) (pa_cons (pe_kxK (K := K) rfl (pe_ix (ix_listK (K := K) rfl) (pv 3) pe_int (fun _ _ => rfl))) pa_nil)))))))
    (pss_one (ps_ret (pe_cmpR op_eq (pe_callB (call_repr (k := 4) hg hr6) (by rfl) W.repr (by decide +kernel) (pa_cons (pe_op op_cat (pv 6) (pe_lst (pa_cons (pe_kxK (K := K) rfl (pe_ix (ix_listK (K := K) rfl) (pv 3) pe_int (fun _ _ => rfl))) (pa_cons (pe_kxK (K := K) rfl (pe_ix (ix_listK (K := K) rfl) (pv 3) pe_int (fun _ _ => rfl))) pa_nil)))) pa_nil)) (pe_callB (call_repr (k := 4) hg hr6) (by rfl) W.repr (by decide +kernel) (pa_cons (pe_lst (pa_cons (pv 0) (pa_cons (pv 1) (pa_cons (pv 2) (pa_cons (pv 0) (pa_cons (pv 1) (pa_cons (pv 0) (pa_cons (pv 1) pa_nil)))))))) pa_nil)) (nomark _)))))))))))))), ?_⟩
  refine ⟨fun σ' H' => ∃ (L : Addr) (es : List Addr), σ' = [some x, some y, some z, some (.ref L), none, none, none, none, none] ∧ Same H H' ∧ H' L = some (.lst (es.map V.ref)) ∧ ErrsTo H' Cs es x y z 6, ?_, ?_⟩
  · refine ⟨_, rfl, by simp, mkw1 fun e0 H0 c0 E0 n0 => ?_⟩
    have E0 : ErrOk H0 (Cs 0) e0 (fldOf x y z 0) := E0
    refine ⟨_, rfl, by simp, mkw1 fun e1 H1 c1 E1 n1 => ?_⟩
    have E1 : ErrOk H1 (Cs 1) e1 (fldOf x y z 1) := E1
    refine ⟨_, rfl, by simp, mkw1 fun e2 H2 c2 E2 n2 => ?_⟩
    have E2 : ErrOk H2 (Cs 2) e2 (fldOf x y z 2) := E2
    refine ⟨_, rfl, by simp, mkw1 fun e3 H3 c3 E3 n3 => ?_⟩
    have E3 : ErrOk H3 (Cs 3) e3 (fldOf x y z 3) := E3
    refine ⟨_, rfl, by simp, mkw1 fun e4 H4 c4 E4 n4 => ?_⟩
    have E4 : ErrOk H4 (Cs 4) e4 (fldOf x y z 4) := E4
    refine fun e5 n5 => ?_
    have c5 := same1 (o := kex e5 (.ref (Cs 5)) none) n5
    have E5 : upd H4 e5 (kex e5 (.ref (Cs 5)) none) e5 = some (kex e5 (.ref (Cs 5)) none) := upd_same
    generalize upd H4 e5 (kex e5 (.ref (Cs 5)) none) = H5 at c5 E5 ⊢
    have E5 : ErrOk H5 (Cs 5) e5 (fldOf x y z 5) := E5
    refine ⟨by show 6 ≤ sizeLine; decide, fun m hm => ?_⟩
    have cm := same1 (o := .lst [V.ref e0, .ref e1, .ref e2, .ref e3, .ref e4, .ref e5]) hm
    have km : upd H5 m (.lst [V.ref e0, .ref e1, .ref e2, .ref e3, .ref e4, .ref e5]) m = some (.lst [V.ref e0, .ref e1, .ref e2, .ref e3, .ref e4, .ref e5]) := upd_same
    generalize upd H5 m (.lst [V.ref e0, .ref e1, .ref e2, .ref e3, .ref e4, .ref e5]) = HM at cm km ⊢
    have s5 := cm
    have s4 := c5.trans s5
    have s3 := c4.trans s4
    have s2 := c3.trans s3
    have s1 := c2.trans s2
    have s0 := c1.trans s1
    have sB := c0.trans s0
    refine ⟨m, [e0, e1, e2, e3, e4, e5], rfl, sB, km, rfl, fun i e he => ?_⟩
    match i, he with
    | 0, he => cases he; exact ErrOk.mono E0 s0
    | 1, he => cases he; exact ErrOk.mono E1 s1
    | 2, he => cases he; exact ErrOk.mono E2 s2
    | 3, he => cases he; exact ErrOk.mono E3 s3
    | 4, he => cases he; exact ErrOk.mono E4 s4
    | 5, he => cases he; exact ErrOk.mono E5 s5
    | n + 6, he => cases he
  rintro σ0 B0 ⟨L0, es0, rfl, b0, kL0, eS0⟩
  refine ⟨fun σ' H' => ∃ (L : Addr) (es : List Addr), σ' = [some x, some y, some z, some (.ref L), none, none, none, none, none] ∧ Same H H' ∧ H' L = some (.lst (es.map V.ref)) ∧ ErrsTo H' Cs es x y z 12, ?_, ?_⟩
  · refine ⟨_, rfl, ?_⟩
    refine ⟨_, rfl, by simp, mkw1 fun e6 H6 c6 E6 n6 => ?_⟩
    have E6 : ErrOk H6 (Cs 6) e6 (fldOf x y z 6) := E6
    refine ⟨_, rfl, by simp, mkw1 fun e7 H7 c7 E7 n7 => ?_⟩
    have E7 : ErrOk H7 (Cs 7) e7 (fldOf x y z 7) := E7
    refine ⟨_, rfl, by simp, mkw1 fun e8 H8 c8 E8 n8 => ?_⟩
    have E8 : ErrOk H8 (Cs 8) e8 (fldOf x y z 8) := E8
    refine ⟨_, rfl, by simp, mkw1 fun e9 H9 c9 E9 n9 => ?_⟩
    have E9 : ErrOk H9 (Cs 9) e9 (fldOf x y z 9) := E9
    refine ⟨_, rfl, by simp, mkw1 fun e10 H10 c10 E10 n10 => ?_⟩
    have E10 : ErrOk H10 (Cs 10) e10 (fldOf x y z 10) := E10
    refine ⟨_, rfl, by simp, mkw1 fun e11 H11 c11 E11 n11 => ?_⟩
    have E11 : ErrOk H11 (Cs 11) e11 (fldOf x y z 11) := E11
    refine ⟨by show 6 ≤ sizeLine; decide, fun m hm => ?_⟩
    have cm := same1 (o := .lst [V.ref e6, .ref e7, .ref e8, .ref e9, .ref e10, .ref e11]) hm
    have km : upd H11 m (.lst [V.ref e6, .ref e7, .ref e8, .ref e9, .ref e10, .ref e11]) m = some (.lst [V.ref e6, .ref e7, .ref e8, .ref e9, .ref e10, .ref e11]) := upd_same
    generalize upd H11 m (.lst [V.ref e6, .ref e7, .ref e8, .ref e9, .ref e10, .ref e11]) = HM at cm km ⊢
    have s11 := cm
    have s10 := c11.trans s11
    have s9 := c10.trans s10
    have s8 := c9.trans s9
    have s7 := c8.trans s8
    have s6 := c7.trans s7
    have sB := c6.trans s6
    have kl := sB _ _ kL0
    refine ⟨_, m, _, _, rfl, rfl, kl, km, by rw [List.length_map, eS0.1]; show 6 + 6 ≤ sizeLine; decide, fun L hL => ?_⟩
    have cL := same1 (o := .lst (es0.map V.ref ++ [V.ref e6, .ref e7, .ref e8, .ref e9, .ref e10, .ref e11])) hL
    refine ⟨L, es0 ++ [e6, e7, e8, e9, e10, e11], rfl, (b0.trans sB).trans cL, by rw [upd_same, List.map_append]; rfl, by rw [List.length_append, eS0.1]; rfl, fun i e he => ?_⟩
    rcases Nat.lt_or_ge i 6 with hlt | hge
    · rw [List.getElem?_append_left (by rw [eS0.1]; exact hlt)] at he
      exact ErrOk.mono (eS0.2 i e he) (sB.trans cL)
    · rw [List.getElem?_append_right (by rw [eS0.1]; exact hge), eS0.1] at he
      obtain ⟨j, rfl⟩ : ∃ j, i = 6 + j := ⟨i - 6, by omega⟩
      rw [Nat.add_sub_cancel_left] at he
      match j, he with
      | 0, he => cases he; exact ErrOk.mono E6 (s6.trans cL)
      | 1, he => cases he; exact ErrOk.mono E7 (s7.trans cL)
      | 2, he => cases he; exact ErrOk.mono E8 (s8.trans cL)
      | 3, he => cases he; exact ErrOk.mono E9 (s9.trans cL)
      | 4, he => cases he; exact ErrOk.mono E10 (s10.trans cL)
      | 5, he => cases he; exact ErrOk.mono E11 (s11.trans cL)
      | n + 6, he => cases he
  rintro σ1 B1 ⟨L1, es1, rfl, b1, kL1, eS1⟩
  refine ⟨fun σ' H' => ∃ (L : Addr) (es : List Addr), σ' = [some x, some y, some z, some (.ref L), none, none, none, none, none] ∧ Same H H' ∧ H' L = some (.lst (es.map V.ref)) ∧ ErrsTo H' Cs es x y z 17, ?_, ?_⟩
  · refine ⟨_, rfl, ?_⟩
    refine ⟨_, rfl, by simp, mkw1 fun e12 H12 c12 E12 n12 => ?_⟩
    have E12 : ErrOk H12 (Cs 12) e12 (fldOf x y z 12) := E12
    refine fun e13 n13 => ?_
    have c13 := same1 (o := kex e13 (.ref (Cs 13)) none) n13
    have E13 : upd H12 e13 (kex e13 (.ref (Cs 13)) none) e13 = some (kex e13 (.ref (Cs 13)) none) := upd_same
    generalize upd H12 e13 (kex e13 (.ref (Cs 13)) none) = H13 at c13 E13 ⊢
    have E13 : ErrOk H13 (Cs 13) e13 (fldOf x y z 13) := E13
    refine ⟨_, rfl, by simp, mkw1 fun e14 H14 c14 E14 n14 => ?_⟩
    have E14 : ErrOk H14 (Cs 14) e14 (fldOf x y z 14) := E14
    refine ⟨_, rfl, by simp, mkw1 fun e15 H15 c15 E15 n15 => ?_⟩
    have E15 : ErrOk H15 (Cs 15) e15 (fldOf x y z 15) := E15
    refine ⟨_, rfl, by simp, mkw1 fun e16 H16 c16 E16 n16 => ?_⟩
    have E16 : ErrOk H16 (Cs 16) e16 (fldOf x y z 16) := E16
    refine ⟨by show 5 ≤ sizeLine; decide, fun m hm => ?_⟩
    have cm := same1 (o := .lst [V.ref e12, .ref e13, .ref e14, .ref e15, .ref e16]) hm
    have km : upd H16 m (.lst [V.ref e12, .ref e13, .ref e14, .ref e15, .ref e16]) m = some (.lst [V.ref e12, .ref e13, .ref e14, .ref e15, .ref e16]) := upd_same
    generalize upd H16 m (.lst [V.ref e12, .ref e13, .ref e14, .ref e15, .ref e16]) = HM at cm km ⊢
    have s16 := cm
    have s15 := c16.trans s16
    have s14 := c15.trans s15
    have s13 := c14.trans s14
    have s12 := c13.trans s13
    have sB := c12.trans s12
    have kl := sB _ _ kL1
    refine ⟨_, m, _, _, rfl, rfl, kl, km, by rw [List.length_map, eS1.1]; show 12 + 5 ≤ sizeLine; decide, fun L hL => ?_⟩
    have cL := same1 (o := .lst (es1.map V.ref ++ [V.ref e12, .ref e13, .ref e14, .ref e15, .ref e16])) hL
    refine ⟨L, es1 ++ [e12, e13, e14, e15, e16], rfl, (b1.trans sB).trans cL, by rw [upd_same, List.map_append]; rfl, by rw [List.length_append, eS1.1]; rfl, fun i e he => ?_⟩
    rcases Nat.lt_or_ge i 12 with hlt | hge
    · rw [List.getElem?_append_left (by rw [eS1.1]; exact hlt)] at he
      exact ErrOk.mono (eS1.2 i e he) (sB.trans cL)
    · rw [List.getElem?_append_right (by rw [eS1.1]; exact hge), eS1.1] at he
      obtain ⟨j, rfl⟩ : ∃ j, i = 12 + j := ⟨i - 12, by omega⟩
      rw [Nat.add_sub_cancel_left] at he
      match j, he with
      | 0, he => cases he; exact ErrOk.mono E12 (s12.trans cL)
      | 1, he => cases he; exact ErrOk.mono E13 (s13.trans cL)
      | 2, he => cases he; exact ErrOk.mono E14 (s14.trans cL)
      | 3, he => cases he; exact ErrOk.mono E15 (s15.trans cL)
      | 4, he => cases he; exact ErrOk.mono E16 (s16.trans cL)
      | n + 5, he => cases he
  rintro σ2 B2 ⟨L2, es2, rfl, b2, kL2, eS2⟩
  refine ⟨fun σ' H' => ∃ (L : Addr) (es : List Addr), σ' = [some x, some y, some z, some (.ref L), none, none, none, none, none] ∧ Same H H' ∧ H' L = some (.lst (es.map V.ref)) ∧ ErrsTo H' Cs es x y z 21, ?_, ?_⟩
  · refine ⟨_, rfl, ?_⟩
    refine ⟨_, rfl, _, rfl, _, rfl, by simp, mkw3 fun e17 H17 c17 E17 n17 => ?_⟩
    have E17 : ErrOk H17 (Cs 17) e17 (fldOf x y z 17) := E17
    refine ⟨_, rfl, _, rfl, by simp, mkw2 fun e18 H18 c18 E18 n18 => ?_⟩
    have E18 : ErrOk H18 (Cs 18) e18 (fldOf x y z 18) := E18
    refine fun e19 n19 => ?_
    have c19 := same1 (o := kex e19 (.ref (Cs 19)) none) n19
    have E19 : upd H18 e19 (kex e19 (.ref (Cs 19)) none) e19 = some (kex e19 (.ref (Cs 19)) none) := upd_same
    generalize upd H18 e19 (kex e19 (.ref (Cs 19)) none) = H19 at c19 E19 ⊢
    have E19 : ErrOk H19 (Cs 19) e19 (fldOf x y z 19) := E19
    refine fun e20 n20 => ?_
    have c20 := same1 (o := kex e20 (.ref (Cs 20)) none) n20
    have E20 : upd H19 e20 (kex e20 (.ref (Cs 20)) none) e20 = some (kex e20 (.ref (Cs 20)) none) := upd_same
    generalize upd H19 e20 (kex e20 (.ref (Cs 20)) none) = H20 at c20 E20 ⊢
    have E20 : ErrOk H20 (Cs 20) e20 (fldOf x y z 20) := E20
    refine ⟨by show 4 ≤ sizeLine; decide, fun m hm => ?_⟩
    have cm := same1 (o := .lst [V.ref e17, .ref e18, .ref e19, .ref e20]) hm
    have km : upd H20 m (.lst [V.ref e17, .ref e18, .ref e19, .ref e20]) m = some (.lst [V.ref e17, .ref e18, .ref e19, .ref e20]) := upd_same
    generalize upd H20 m (.lst [V.ref e17, .ref e18, .ref e19, .ref e20]) = HM at cm km ⊢
    have s20 := cm
    have s19 := c20.trans s20
    have s18 := c19.trans s19
    have s17 := c18.trans s18
    have sB := c17.trans s17
    have kl := sB _ _ kL2
    refine ⟨_, m, _, _, rfl, rfl, kl, km, by rw [List.length_map, eS2.1]; show 17 + 4 ≤ sizeLine; decide, fun L hL => ?_⟩
    have cL := same1 (o := .lst (es2.map V.ref ++ [V.ref e17, .ref e18, .ref e19, .ref e20])) hL
    refine ⟨L, es2 ++ [e17, e18, e19, e20], rfl, (b2.trans sB).trans cL, by rw [upd_same, List.map_append]; rfl, by rw [List.length_append, eS2.1]; rfl, fun i e he => ?_⟩
    rcases Nat.lt_or_ge i 17 with hlt | hge
    · rw [List.getElem?_append_left (by rw [eS2.1]; exact hlt)] at he
      exact ErrOk.mono (eS2.2 i e he) (sB.trans cL)
    · rw [List.getElem?_append_right (by rw [eS2.1]; exact hge), eS2.1] at he
      obtain ⟨j, rfl⟩ : ∃ j, i = 17 + j := ⟨i - 17, by omega⟩
      rw [Nat.add_sub_cancel_left] at he
      match j, he with
      | 0, he => cases he; exact ErrOk.mono E17 (s17.trans cL)
      | 1, he => cases he; exact ErrOk.mono E18 (s18.trans cL)
      | 2, he => cases he; exact ErrOk.mono E19 (s19.trans cL)
      | 3, he => cases he; exact ErrOk.mono E20 (s20.trans cL)
      | n + 4, he => cases he
  rintro σ3 B3 ⟨L3, es3, rfl, b3, kL3, eS3⟩
  refine ⟨fun σ' H' => ∃ (L : Addr) (es : List Addr), σ' = [some x, some y, some z, some (.ref L), none, none, none, none, none] ∧ Same H H' ∧ H' L = some (.lst (es.map V.ref)) ∧ ErrsTo H' Cs es x y z 24, ?_, ?_⟩
  · refine ⟨_, rfl, ?_⟩
    refine ⟨_, rfl, by simp, mkw1 fun e21 H21 c21 E21 n21 => ?_⟩
    have E21 : ErrOk H21 (Cs 21) e21 (fldOf x y z 21) := E21
    refine ⟨_, rfl, _, rfl, by simp, mkw2 fun e22 H22 c22 E22 n22 => ?_⟩
    have E22 : ErrOk H22 (Cs 22) e22 (fldOf x y z 22) := E22
    refine ⟨_, rfl, by simp, mkw1 fun e23 H23 c23 E23 n23 => ?_⟩
    have E23 : ErrOk H23 (Cs 23) e23 (fldOf x y z 23) := E23
    refine ⟨by show 3 ≤ sizeLine; decide, fun m hm => ?_⟩
    have cm := same1 (o := .lst [V.ref e21, .ref e22, .ref e23]) hm
    have km : upd H23 m (.lst [V.ref e21, .ref e22, .ref e23]) m = some (.lst [V.ref e21, .ref e22, .ref e23]) := upd_same
    generalize upd H23 m (.lst [V.ref e21, .ref e22, .ref e23]) = HM at cm km ⊢
    have s23 := cm
    have s22 := c23.trans s23
    have s21 := c22.trans s22
    have sB := c21.trans s21
    have kl := sB _ _ kL3
    refine ⟨_, m, _, _, rfl, rfl, kl, km, by rw [List.length_map, eS3.1]; show 21 + 3 ≤ sizeLine; decide, fun L hL => ?_⟩
    have cL := same1 (o := .lst (es3.map V.ref ++ [V.ref e21, .ref e22, .ref e23])) hL
    refine ⟨L, es3 ++ [e21, e22, e23], rfl, (b3.trans sB).trans cL, by rw [upd_same, List.map_append]; rfl, by rw [List.length_append, eS3.1]; rfl, fun i e he => ?_⟩
    rcases Nat.lt_or_ge i 21 with hlt | hge
    · rw [List.getElem?_append_left (by rw [eS3.1]; exact hlt)] at he
      exact ErrOk.mono (eS3.2 i e he) (sB.trans cL)
    · rw [List.getElem?_append_right (by rw [eS3.1]; exact hge), eS3.1] at he
      obtain ⟨j, rfl⟩ : ∃ j, i = 21 + j := ⟨i - 21, by omega⟩
      rw [Nat.add_sub_cancel_left] at he
      match j, he with
      | 0, he => cases he; exact ErrOk.mono E21 (s21.trans cL)
      | 1, he => cases he; exact ErrOk.mono E22 (s22.trans cL)
      | 2, he => cases he; exact ErrOk.mono E23 (s23.trans cL)
      | n + 3, he => cases he
  rintro σ4 B4 ⟨L4, es4, rfl, b4, kL4, eS4⟩
  -- each is told by its marks
  have len24 : (es4.map V.ref).length = 24 := by rw [List.length_map, eS4.1]
  refine ⟨fun σ' H' => ∃ u4 u5, σ' = [some x, some y, some z, some (.ref L4), u4, u5, none, none, none] ∧ Same B4 H', ?_, ?_⟩
  · refine ⟨_, rfl, L4, _, rfl, SqL.of kL4, for_it walk_enum (fun i σ H' => Same B4 H' ∧ ∃ u4 u5, σ = [some x, some y, some z, some (.ref L4), u4, u5, none, none, none]) ⟨Same.refl _, none, none, rfl⟩ (fun i σ H' _ e => SqL.of (e.1 _ _ kL4)) (fun i xx σ H1 H2 hi e yy => ?_) (fun σ H1 e => ?_)⟩
    · obtain ⟨s1, u4, u5, rfl⟩ := e
      obtain ⟨tt, vi, ve, rfl, hnn, rfl, hvi, hve⟩ := yy
      dsimp only at hvi hve
      cases hvi
      rw [len24] at hi
      rw [List.getElem?_map] at hve
      obtain ⟨e, he, rfl⟩ := Option.map_eq_some_iff.mp hve
      have s2 : Same B4 (upd H1 tt (.tup [.int (i : Nat), .ref e])) := s1.trans (same1 hnn)
      have tt2 : upd H1 tt (.tup [.int (i : Nat), .ref e]) tt = some (.tup [.int (i : Nat), .ref e]) := upd_same
      generalize upd H1 tt (.tup [.int (i : Nat), .ref e]) = H2 at s2 tt2 ⊢
      have an : AnEr H2 e (Cs i) := (eS4.2 i e he).an.mono s2
      obtain ⟨d, ke, kf⟩ := id an
      refine ⟨tt, _, rfl, SqT.of tt2, rfl, _, _, rfl, _, _, rfl, rfl, ?_⟩
      refine ⟨_, rfl, e, Cs i, d, _, _, true, rfl, ke, kf, G.xc i hi, .own CT, G.kitT i hi, true, rfl, iteF ?_⟩
      refine ⟨_, rfl, e, Cs i, d, _, _, true, rfl, ke, kf, G.xc i hi, .ty "ValueError", G.kitV i hi, true, rfl, iteF ?_⟩
      refine ⟨_, rfl, e, i, rfl, hi, an, fun ML H3 c3 k3 => ?_⟩
      refine ⟨ML, _, rfl, SqL.of k3, fun D hD => lc_it walk_enum (fun j H' => Same H3 H' ∧ H' D = some (.lst (if i < j then [V.int (i : Nat)] else []))) ⟨same1 hD, by rw [if_neg (Nat.not_lt_zero _)]; exact upd_same⟩
        (fun j H' _ p => SqL.of (p.1 _ _ k3)) (fun j xx H4 H5 hj p yy => ?_) (fun H4 p => ?_)⟩
      · obtain ⟨c4, kD⟩ := p
        obtain ⟨t5, vj, vb, rfl, h5, rfl, hvj, hvb⟩ := yy
        dsimp only at hvj hvb
        cases hvj
        have lm : (markV i).length = 24 := by unfold markV; rw [List.length_map, List.length_range]
        rw [lm] at hj
        have eb : vb = V.bl (decide (i = j)) := by
          unfold markV at hvb
          rw [List.getElem?_map, List.getElem?_range hj] at hvb
          exact (Option.some.inj hvb).symm
        subst eb
        have c5 := same1 (o := .tup [.int (j : Nat), .bl (decide (i = j))]) h5
        have k5 : upd H4 t5 (.tup [.int (j : Nat), .bl (decide (i = j))]) t5 = some (.tup [.int (j : Nat), .bl (decide (i = j))]) := upd_same
        generalize upd H4 t5 (.tup [.int (j : Nat), .bl (decide (i = j))]) = H5 at c5 k5 ⊢
        refine ⟨t5, _, rfl, SqT.of k5, rfl, _, _, rfl, _, _, rfl, rfl, rfl, _, rfl, _, rfl, ite2 (fun h => ?_) (fun h => ?_)⟩
        · have h := of_decide_eq_true h
          subst h
          refine ⟨_, rfl, _, c5 _ _ kD, ?_, fun b o hb => ?_, ?_⟩
          · rw [if_neg (Nat.lt_irrefl _)]
            decide
          · rw [upd_ne (ne_of_none hb hD)]
            exact c5 _ _ (c4 _ _ hb)
          · rw [upd_same, if_neg (Nat.lt_irrefl _), if_pos (Nat.lt_succ_self _)]
            rfl
        · have h : i ≠ j := fun z => h (decide_eq_true z)
          refine ⟨c4.trans c5, ?_⟩
          rw [c5 _ _ kD]
          congr 2
          by_cases z : i < j
          · rw [if_pos z, if_pos (by omega)]
          · rw [if_neg z, if_neg (by omega)]
      · obtain ⟨c4, kD⟩ := p
        have lm : (markV i).length = 24 := by unfold markV; rw [List.length_map, List.length_range]
        rw [lm, if_pos hi] at kD
        refine ⟨_, rfl, by show 1 ≤ sizeLine; decide, fun M hM => ?_⟩
        have c5 := same1 (o := .lst [V.int (i : Nat)]) hM
        refine ⟨.list [.int (i : Nat)], .list [.int (i : Nat)], .lst (SqL.of (c5 _ _ kD)) (.cons (.int _) .nil), .lst (SqL.of upd_same) (.cons (.int _) .nil), one_sh _, one_sh _, _, rfl, ?_⟩
        rw [one_eq]
        exact iteF ⟨((s2.trans c3).trans c4).trans c5, _, _, rfl⟩
    · obtain ⟨s1, u4, u5, rfl⟩ := e
      exact ⟨u4, u5, rfl, s1⟩
  rintro σ5 B5 ⟨u4, u5, rfl, b5⟩
  have eS := eS4.2
  have key1 : ∀ (i : Nat) (v : V), [V.int 0, .int 1, .int 2, .int 7, .int 12, .int 16, .int 21][i]? = some v → ∃ s : Nat, v = .int (s : Nat) ∧ s < 24 ∧ PySem.W.findIn K (.ref (Cs s)) "value" = some none ∧ ∃ fs, fldOf x y z s = some fs ∧ fs.lookup ("value" : Str) = some x := fun i v h => by
    match i, h with
    | 0, h => cases h; exact ⟨0, rfl, by decide, M.n0_value, _, rfl, rfl⟩
    | 1, h => cases h; exact ⟨1, rfl, by decide, M.n1_value, _, rfl, rfl⟩
    | 2, h => cases h; exact ⟨2, rfl, by decide, M.n2_value, _, rfl, rfl⟩
    | 3, h => cases h; exact ⟨7, rfl, by decide, M.n7_value, _, rfl, rfl⟩
    | 4, h => cases h; exact ⟨12, rfl, by decide, M.n12_value, _, rfl, rfl⟩
    | 5, h => cases h; exact ⟨16, rfl, by decide, M.n16_value, _, rfl, rfl⟩
    | 6, h => cases h; exact ⟨21, rfl, by decide, M.n21_value, _, rfl, rfl⟩
    | n + 7, h => cases h
  have key2 : ∀ (i : Nat) (v : V), [V.int 3, .int 4, .int 11, .int 14][i]? = some v → ∃ s : Nat, v = .int (s : Nat) ∧ s < 24 ∧ PySem.W.findIn K (.ref (Cs s)) "place" = some none ∧ ∃ fs, fldOf x y z s = some fs ∧ fs.lookup ("place" : Str) = some x := fun i v h => by
    match i, h with
    | 0, h => cases h; exact ⟨3, rfl, by decide, M.n3_place, _, rfl, rfl⟩
    | 1, h => cases h; exact ⟨4, rfl, by decide, M.n4_place, _, rfl, rfl⟩
    | 2, h => cases h; exact ⟨11, rfl, by decide, M.n11_place, _, rfl, rfl⟩
    | 3, h => cases h; exact ⟨14, rfl, by decide, M.n14_place, _, rfl, rfl⟩
    | n + 4, h => cases h
  obtain ⟨e6, he6⟩ : ∃ e, es4[6]? = some e := ⟨_, List.getElem?_eq_getElem (by rw [eS4.1]; decide)⟩
  have E6 : ErAt B4 e6 (Cs 6) [("most", x)] := eS 6 e6 he6
  have I6 : (es4.map V.ref)[6]? = some (.ref e6) := by rw [List.getElem?_map, he6]; rfl
  obtain ⟨e8, he8⟩ : ∃ e, es4[8]? = some e := ⟨_, List.getElem?_eq_getElem (by rw [eS4.1]; decide)⟩
  have E8 : ErAt B4 e8 (Cs 8) [("at", x)] := eS 8 e8 he8
  have I8 : (es4.map V.ref)[8]? = some (.ref e8) := by rw [List.getElem?_map, he8]; rfl
  obtain ⟨e15, he15⟩ : ∃ e, es4[15]? = some e := ⟨_, List.getElem?_eq_getElem (by rw [eS4.1]; decide)⟩
  have E15 : ErAt B4 e15 (Cs 15) [("at", x)] := eS 15 e15 he15
  have I15 : (es4.map V.ref)[15]? = some (.ref e15) := by rw [List.getElem?_map, he15]; rfl
  obtain ⟨e9, he9⟩ : ∃ e, es4[9]? = some e := ⟨_, List.getElem?_eq_getElem (by rw [eS4.1]; decide)⟩
  have E9 : ErAt B4 e9 (Cs 9) [("k", x)] := eS 9 e9 he9
  have I9 : (es4.map V.ref)[9]? = some (.ref e9) := by rw [List.getElem?_map, he9]; rfl
  obtain ⟨e10, he10⟩ : ∃ e, es4[10]? = some e := ⟨_, List.getElem?_eq_getElem (by rw [eS4.1]; decide)⟩
  have E10 : ErAt B4 e10 (Cs 10) [("ring", x)] := eS 10 e10 he10
  have I10 : (es4.map V.ref)[10]? = some (.ref e10) := by rw [List.getElem?_map, he10]; rfl
  obtain ⟨e23, he23⟩ : ∃ e, es4[23]? = some e := ⟨_, List.getElem?_eq_getElem (by rw [eS4.1]; decide)⟩
  have E23 : ErAt B4 e23 (Cs 23) [("word", x)] := eS 23 e23 he23
  have I23 : (es4.map V.ref)[23]? = some (.ref e23) := by rw [List.getElem?_map, he23]; rfl
  obtain ⟨e17, he17⟩ : ∃ e, es4[17]? = some e := ⟨_, List.getElem?_eq_getElem (by rw [eS4.1]; decide)⟩
  have E17 : ErAt B4 e17 (Cs 17) [("heard", z), ("column", y), ("place", x)] := eS 17 e17 he17
  have I17 : (es4.map V.ref)[17]? = some (.ref e17) := by rw [List.getElem?_map, he17]; rfl
  obtain ⟨e18, he18⟩ : ∃ e, es4[18]? = some e := ⟨_, List.getElem?_eq_getElem (by rw [eS4.1]; decide)⟩
  have E18 : ErAt B4 e18 (Cs 18) [("ahead", y), ("number", x)] := eS 18 e18 he18
  have I18 : (es4.map V.ref)[18]? = some (.ref e18) := by rw [List.getElem?_map, he18]; rfl
  obtain ⟨e22, he22⟩ : ∃ e, es4[22]? = some e := ⟨_, List.getElem?_eq_getElem (by rw [eS4.1]; decide)⟩
  have E22 : ErAt B4 e22 (Cs 22) [("word", y), ("line", x)] := eS 22 e22 he22
  have I22 : (es4.map V.ref)[22]? = some (.ref e22) := by rw [List.getElem?_map, he22]; rfl
  -- the values kept
  refine ⟨fun σ' H' => ∃ Kp, σ' = [some x, some y, some z, some (.ref L4), u4, u5, some (.ref Kp), none, none] ∧ Same B5 H' ∧ H' Kp = some (.lst (List.replicate 11 x)), ?_, ?_⟩
  · have id5 : Same B5 B5 := Same.refl _
    refine ⟨by show 7 ≤ sizeLine; decide, fun t1 ht1 => ?_⟩
    have a1 := same1 (o := .tup [V.int 0, .int 1, .int 2, .int 7, .int 12, .int 16, .int 21]) ht1
    have p1 : upd B5 t1 (.tup [V.int 0, .int 1, .int 2, .int 7, .int 12, .int 16, .int 21]) t1 = some (.tup [V.int 0, .int 1, .int 2, .int 7, .int 12, .int 16, .int 21]) := upd_same
    generalize upd B5 t1 (.tup [V.int 0, .int 1, .int 2, .int 7, .int 12, .int 16, .int 21]) = A1 at a1 p1 ⊢
    have g1 := id5.trans a1
    refine ⟨t1, rfl, ⟨_, SqT.of p1⟩, fun D1 hD1 => lc_it walk_tup (fun i H' => Same A1 H' ∧ H' D1 = some (.lst (List.replicate i x))) ⟨same1 hD1, upd_same⟩ (fun i H' _ e => SqT.of (e.1 _ _ p1)) (fun i v H1 H2 hi e yy => ?_) (fun R1 e1 => ?_)⟩
    · obtain ⟨c1, kD⟩ := e
      obtain ⟨rfl, hv⟩ := yy
      have hi : i < 7 := hi
      obtain ⟨s, rfl, hs, nf, fs, hfs, hlk⟩ := key1 i v hv
      obtain ⟨e, he⟩ : ∃ e, es4[s]? = some e := ⟨_, List.getElem?_eq_getElem (by rw [eS4.1]; exact hs)⟩
      have er : ErrOk B4 (Cs s) e (fldOf x y z s) := eS s e he
      rw [hfs] at er
      have im : (es4.map V.ref)[s]? = some (.ref e) := by rw [List.getElem?_map, he]; rfl
      have cc := (b5.trans g1).trans c1
      refine ⟨rfl, _, rfl, _, rfl, L4, _, _, _, rfl, rfl, SqL.of (cc _ _ kL4), atI_nat im, e, Cs s, fs, x, rfl, G.xf s hs, nf, ErAt.mono er cc, hlk, ?_⟩
      refine ⟨_, kD, by rw [List.length_replicate]; exact Nat.lt_trans hi (by decide), fun b o hb => ?_, ?_⟩
      · rw [upd_ne (ne_of_none hb hD1)]
        exact c1 _ _ hb
      · rw [upd_same, List.replicate_succ']
    obtain ⟨c1, k1⟩ := e1
    have k1 : R1 D1 = some (.lst (List.replicate 7 x)) := k1
    have f1 := g1.trans c1
    refine ⟨by show 4 ≤ sizeLine; decide, fun t2 ht2 => ?_⟩
    have a2 := same1 (o := .tup [V.int 3, .int 4, .int 11, .int 14]) ht2
    have p2 : upd R1 t2 (.tup [V.int 3, .int 4, .int 11, .int 14]) t2 = some (.tup [V.int 3, .int 4, .int 11, .int 14]) := upd_same
    generalize upd R1 t2 (.tup [V.int 3, .int 4, .int 11, .int 14]) = A2 at a2 p2 ⊢
    have g2 := f1.trans a2
    refine ⟨t2, rfl, ⟨_, SqT.of p2⟩, fun D2 hD2 => lc_it walk_tup (fun i H' => Same A2 H' ∧ H' D2 = some (.lst (List.replicate i x))) ⟨same1 hD2, upd_same⟩ (fun i H' _ e => SqT.of (e.1 _ _ p2)) (fun i v H1 H2 hi e yy => ?_) (fun R2 e2 => ?_)⟩
    · obtain ⟨c1, kD⟩ := e
      obtain ⟨rfl, hv⟩ := yy
      have hi : i < 4 := hi
      obtain ⟨s, rfl, hs, nf, fs, hfs, hlk⟩ := key2 i v hv
      obtain ⟨e, he⟩ : ∃ e, es4[s]? = some e := ⟨_, List.getElem?_eq_getElem (by rw [eS4.1]; exact hs)⟩
      have er : ErrOk B4 (Cs s) e (fldOf x y z s) := eS s e he
      rw [hfs] at er
      have im : (es4.map V.ref)[s]? = some (.ref e) := by rw [List.getElem?_map, he]; rfl
      have cc := (b5.trans g2).trans c1
      refine ⟨rfl, _, rfl, _, rfl, L4, _, _, _, rfl, rfl, SqL.of (cc _ _ kL4), atI_nat im, e, Cs s, fs, x, rfl, G.xf s hs, nf, ErAt.mono er cc, hlk, ?_⟩
      refine ⟨_, kD, by rw [List.length_replicate]; exact Nat.lt_trans hi (by decide), fun b o hb => ?_, ?_⟩
      · rw [upd_ne (ne_of_none hb hD2)]
        exact c1 _ _ hb
      · rw [upd_same, List.replicate_succ']
    obtain ⟨c2, k2⟩ := e2
    have k2 : R2 D2 = some (.lst (List.replicate 4 x)) := k2
    refine ⟨D1, D2, _, _, rfl, rfl, c2 _ _ (a2 _ _ k1), k2, by rw [List.length_replicate, List.length_replicate]; decide, fun Kp hKp => ?_⟩
    refine ⟨Kp, rfl, (g2.trans c2).trans (same1 hKp), ?_⟩
    rw [upd_same]
    rfl
  rintro σ6 B6 ⟨Kp, rfl, b6, kp⟩
  have b46 := b5.trans b6
  have l17 : List.replicate 11 x ++ [x, x, x, x, x, x] = List.replicate 17 x := rfl
  refine ⟨fun σ' H' => ∃ Kp, σ' = [some x, some y, some z, some (.ref L4), u4, u5, some (.ref Kp), none, none] ∧ Same B6 H' ∧ H Kp = none ∧ H' Kp = some (.lst (List.replicate 17 x)), ?_, ?_⟩
  · refine ⟨_, rfl, _, rfl, L4, _, _, _, rfl, rfl, SqL.of (b46 _ _ kL4), atI_nat I6, e6, Cs 6, _, x, rfl, G.xf 6 (by decide), M.n6_most, ErAt.mono E6 b46, rfl, _, rfl, L4, _, _, _, rfl, rfl, SqL.of (b46 _ _ kL4), atI_nat I8, e8, Cs 8, _, x, rfl, G.xf 8 (by decide), M.n8_at, ErAt.mono E8 b46, rfl, _, rfl, L4, _, _, _, rfl, rfl, SqL.of (b46 _ _ kL4), atI_nat I15, e15, Cs 15, _, x, rfl, G.xf 15 (by decide), M.n15_at, ErAt.mono E15 b46, rfl, _, rfl, L4, _, _, _, rfl, rfl, SqL.of (b46 _ _ kL4), atI_nat I9, e9, Cs 9, _, x, rfl, G.xf 9 (by decide), M.n9_k, ErAt.mono E9 b46, rfl, _, rfl, L4, _, _, _, rfl, rfl, SqL.of (b46 _ _ kL4), atI_nat I10, e10, Cs 10, _, x, rfl, G.xf 10 (by decide), M.n10_ring, ErAt.mono E10 b46, rfl, _, rfl, L4, _, _, _, rfl, rfl, SqL.of (b46 _ _ kL4), atI_nat I23, e23, Cs 23, _, x, rfl, G.xf 23 (by decide), M.n23_word, ErAt.mono E23 b46, rfl, by show 6 ≤ sizeLine; decide, fun m hm => ?_⟩
    have cm := same1 (o := .lst [x, x, x, x, x, x]) hm
    have km : upd B6 m (.lst [x, x, x, x, x, x]) m = some (.lst [x, x, x, x, x, x]) := upd_same
    generalize upd B6 m (.lst [x, x, x, x, x, x]) = B7 at cm km ⊢
    refine ⟨Kp, m, _, _, rfl, rfl, cm _ _ kp, km, by rw [List.length_replicate]; show 11 + 6 ≤ sizeLine; decide, fun K2 hK2 => ⟨K2, rfl, cm.trans (same1 hK2), none_of ((b4.trans b46).trans cm) hK2, ?_⟩⟩
    rw [upd_same, l17]
  rintro σ7 B7 ⟨K2, rfl, b7, n2, k2⟩
  have b47 := b46.trans b7
  have b07 := b4.trans b47
  obtain ⟨T1, hT1⟩ := rep_list (X := (cxOf CX0 P w K mg base Ner "_law_errors_right" (defScope sEr) f cdv A outer s H E).nox) W (H := H) (zs := List.replicate 17 x) (fun u hu => by rw [List.eq_of_mem_replicate hu]; exact hx) (by simp) (by simp)
  have r17 : (List.replicate (17 : Int).toNat [x]).flatten = List.replicate 17 x := rfl
  refine ⟨_, rfl, nil_ok (hT1 K2 B7 _ b07 n2 k2 fun H2 c2 => ?_)⟩
  have b02 := b07.trans c2
  refine ⟨_, rfl, by show 1 ≤ sizeLine; decide, fun p3 hp3 => ?_⟩
  have c3 := same1 (o := .lst [x]) hp3
  have k3 : upd H2 p3 (.lst [x]) p3 = some (.lst [x]) := upd_same
  generalize upd H2 p3 (.lst [x]) = H3 at c3 k3 ⊢
  refine ⟨p3, 17, [x], rfl, rfl, k3, by decide, by decide, (by show 1 * 17 ≤ sizeLine; decide), fun p4 hp4 => ?_⟩
  rw [r17]
  have c4 := same1 (o := .lst (List.replicate 17 x)) hp4
  refine nil_ok (hT1 p4 _ _ ((b02.trans c3).trans c4) (none_of (b02.trans c3) hp4) upd_same fun H5 c5 => ⟨rfl, _, rfl, iteNS rfl ?_⟩)
  have b25 := ((c2.trans c3).trans c4).trans c5
  have b45 := b47.trans b25
  have b05 := b4.trans b45
  refine ⟨_, rfl, L4, _, _, _, rfl, rfl, SqL.of (b45 _ _ kL4), atI_nat I17, e17, Cs 17, _, x, rfl, G.xf 17 (by decide), M.n17_place, ErAt.mono E17 b45, rfl, _, rfl, L4, _, _, _, rfl, rfl, SqL.of (b45 _ _ kL4), atI_nat I17, e17, Cs 17, _, y, rfl, G.xf 17 (by decide), M.n17_column, ErAt.mono E17 b45, rfl, _, rfl, L4, _, _, _, rfl, rfl, SqL.of (b45 _ _ kL4), atI_nat I17, e17, Cs 17, _, z, rfl, G.xf 17 (by decide), M.n17_heard, ErAt.mono E17 b45, rfl, _, rfl, L4, _, _, _, rfl, rfl, SqL.of (b45 _ _ kL4), atI_nat I18, e18, Cs 18, _, x, rfl, G.xf 18 (by decide), M.n18_number, ErAt.mono E18 b45, rfl, _, rfl, L4, _, _, _, rfl, rfl, SqL.of (b45 _ _ kL4), atI_nat I18, e18, Cs 18, _, y, rfl, G.xf 18 (by decide), M.n18_ahead, ErAt.mono E18 b45, rfl, by show 5 ≤ sizeLine; decide, fun K3 hK3 => ?_⟩
  have c6 := same1 (o := .lst [x, y, z, x, y]) hK3
  have k6 : upd H5 K3 (.lst [x, y, z, x, y]) K3 = some (.lst [x, y, z, x, y]) := upd_same
  generalize upd H5 K3 (.lst [x, y, z, x, y]) = H6 at c6 k6 ⊢
  have b46' := b45.trans c6
  have b06 := b4.trans b46'
  obtain ⟨T2, hT2⟩ := rep_list (X := (cxOf CX0 P w K mg base Ner "_law_errors_right" (defScope sEr) f cdv A outer s H E).nox) W (H := H) (zs := [x, y, z, x, y, x, y]) (fun u hu => by
    simp only [List.mem_cons, List.not_mem_nil, or_false] at hu
    rcases hu with h | h | h | h | h | h | h <;> (rw [h]; assumption)) (by simp) (by simp)
  refine ⟨_, rfl, _, rfl, L4, _, _, _, rfl, rfl, SqL.of (b46' _ _ kL4), atI_nat I22, e22, Cs 22, _, x, rfl, G.xf 22 (by decide), M.n22_line, ErAt.mono E22 b46', rfl, _, rfl, L4, _, _, _, rfl, rfl, SqL.of (b46' _ _ kL4), atI_nat I22, e22, Cs 22, _, y, rfl, G.xf 22 (by decide), M.n22_word, ErAt.mono E22 b46', rfl, by show 2 ≤ sizeLine; decide, fun m hm => ?_⟩
  have c7 := same1 (o := .lst [x, y]) hm
  have k7 : upd H6 m (.lst [x, y]) m = some (.lst [x, y]) := upd_same
  generalize upd H6 m (.lst [x, y]) = H7 at c7 k7 ⊢
  refine ⟨K3, m, _, _, rfl, rfl, c7 _ _ k6, k7, by show 5 + 2 ≤ sizeLine; decide, fun K4 hK4 => ?_⟩
  have c8 := same1 (o := .lst ([x, y, z, x, y] ++ [x, y])) hK4
  have b07' := b06.trans c7
  refine nil_ok (hT2 K4 _ _ (b07'.trans c8) (none_of b07' hK4) upd_same fun H9 c9 => ?_)
  have b09 := (b07'.trans c8).trans c9
  refine ⟨_, rfl, _, rfl, _, rfl, _, rfl, _, rfl, _, rfl, _, rfl, by show 7 ≤ sizeLine; decide, fun K5 hK5 => ?_⟩
  have cA := same1 (o := .lst [x, y, z, x, y, x, y]) hK5
  refine nil_ok (hT2 K5 _ _ (b09.trans cA) (none_of b09 hK5) upd_same fun HB cB => ⟨rfl, ?_⟩)
  rw [decide_eq_true rfl]
  exact q _ (b09.trans (cA.trans cB))
end
end Pl

namespace Pl
open PySem L2 Own TL RZ LamX
/-! ### errors made by the names of their attributes keep them -/
abbrev sNr : Stmt := top 46
abbrev Nnr : List Str := ["_law_first", "_law_second", "_law_last", "_law_some", "_law_kept", "_law_said_so", "_law_early", "_law_bad", "_law_error"]
theorem scNr : FnScope Nnr ["_law_first", "_law_second", "_law_last"] (defScope sNr) := ⟨rfl, rfl, rfl, by decide +kernel, rfl, by decide +kernel, by decide +kernel⟩
/-- errors with one field that holds x -/
def ErL (K : PySem.W.Frag) (H : Hp) (es : List Addr) (fld : Str) (x : V) (n : Nat) : Prop := es.length = n ∧ ∀ (i : Nat) (e : Addr), es[i]? = some e → ∃ C, XfC K C ∧ PySem.W.findIn K (.ref C) fld = some none ∧ ErAt H e C [(fld, x)]
theorem ErL.mono {K : PySem.W.Frag} {H H' : Hp} {es : List Addr} {fld : Str} {x : V} {n : Nat} (h : ErL K H es fld x n) (s : Same H H') : ErL K H' es fld x n := ⟨h.1, fun i e he => by
  obtain ⟨C, h1, h2, h3⟩ := h.2 i e he
  exact ⟨C, h1, h2, ErAt.mono h3 s⟩⟩
section
variable {P : Program} {w : World} {K : PySem.W.Frag} {mg : Str → Option Value} {base : Heap} {a : Ad} {f : Addr} {fd : FuncData} {Cs fI : Nat → Addr} {fdI : Nat → FuncData} {CT : Addr}
theorem gNr (W : Wo P w K mg base a) (G : ErrG K mg Cs CT) (M : ErrM P w K mg base Cs fI fdI) (F : Fun K "_law_named_right" "_law_named_right" sNr f fd) (bF : L2.Binds K fd ["_law_first", "_law_second", "_law_last"] []) : FnG P w K mg base CX0 8 f (spEr a) := by
  refine fnG_of F scNr bF (fun vs H Q E h => ?_) (fun cdv A outer s H vs Q E hr hg h => ?_)
  · obtain ⟨x, y, z, rfl, _⟩ := h
    rfl
  obtain ⟨x, y, z, rfl, hx, hy, hz, q⟩ := h
  have hr2 : Room 2 _ := hr.mono (by decide)
  have hr6 : Room 6 _ := hr.mono (by decide)
  refine ⟨_, PSs.nox (C8.pss_cut (ps_set (i := 3) scNr.nd rfl (by first | exact Or.inl rfl | exact Or.inr rfl) (pe_lst (pa_cons (pe_ek (gV := same) M.e0 hr2 (by rfl) (pk_cons (pv 0) pk_nil) (fun _ _ => perm_same)) (pa_cons (pe_ek (gV := same) M.e1 hr2 (by rfl) (pk_cons (pv 0) pk_nil) (fun _ _ => perm_same)) (pa_cons (pe_ek (gV := same) M.e2 hr2 (by rfl) (pk_cons (pv 0) pk_nil) (fun _ _ => perm_same)) (pa_cons (pe_ek (gV := same) M.e7 hr2 (by rfl) (pk_cons (pv 0) pk_nil) (fun _ _ => perm_same)) pa_nil))))))
    (C8.pss_cut (ps_set (i := 3) scNr.nd rfl (by first | exact Or.inl rfl | exact Or.inr rfl) (pe_op op_cat (pv 3) (pe_lst (pa_cons (pe_ek (gV := same) M.e12 hr2 (by rfl) (pk_cons (pv 0) pk_nil) (fun _ _ => perm_same)) (pa_cons (pe_ek (gV := same) M.e16 hr2 (by rfl) (pk_cons (pv 0) pk_nil) (fun _ _ => perm_same)) (pa_cons (pe_ek (gV := same) M.e21 hr2 (by rfl) (pk_cons (pv 0) pk_nil) (fun _ _ => perm_same)) pa_nil))))))
    (pss_cons (ps_if (pt_cmpR op_ne (pe_callB (call_repr (k := 4) hg hr6) (by rfl) W.repr (by decide +kernel) (pa_cons (pe_lc (own := [("_law_error", 8)]) (g := gName 8) (tt := tYes) rfl scNr.nd (pi_list (pv 3)) (blkOk_by (own := [("_law_error", 8)]) (N := Nnr) (sc := defScope sNr) (by decide +kernel)) (fun _ _ _ _ _ => pg_name (i := 8) scNr.nd rfl (by first | exact Or.inl rfl | exact Or.inr rfl)) (fun _ _ _ _ _ => pts_nil) (fun _ _ _ _ _ => pe_kxK (K := K) rfl (pv 8))) pa_nil)) (pe_callB (call_repr (k := 4) hg hr6) (by rfl) W.repr (by decide +kernel) (pa_cons (pe_op op_rep (pe_lst (pa_cons (pv 0) pa_nil)) pe_int) pa_nil)) (nomark _)) (pss_one (ps_ret pe_bl)) pss_nil)
    (C8.pss_cut (ps_set (i := 3) scNr.nd rfl (by first | exact Or.inl rfl | exact Or.inr rfl) (pe_lst (pa_cons (pe_ek (gV := same) M.e3 hr2 (by rfl) (pk_cons (pv 0) pk_nil) (fun _ _ => perm_same)) (pa_cons (pe_ek (gV := same) M.e4 hr2 (by rfl) (pk_cons (pv 0) pk_nil) (fun _ _ => perm_same)) (pa_cons (pe_ek (gV := same) M.e11 hr2 (by rfl) (pk_cons (pv 0) pk_nil) (fun _ _ => perm_same)) (pa_cons (pe_ek (gV := same) M.e14 hr2 (by rfl) (pk_cons (pv 0) pk_nil) (fun _ _ => perm_same)) pa_nil))))))
    (pss_cons (ps_if (pt_cmpR op_ne (pe_callB (call_repr (k := 4) hg hr6) (by rfl) W.repr (by decide +kernel) (pa_cons (pe_lc (own := [("_law_error", 8)]) (g := gName 8) (tt := tYes) rfl scNr.nd (pi_list (pv 3)) (blkOk_by (own := [("_law_error", 8)]) (N := Nnr) (sc := defScope sNr) (by decide +kernel)) (fun _ _ _ _ _ => pg_name (i := 8) scNr.nd rfl (by first | exact Or.inl rfl | exact Or.inr rfl)) (fun _ _ _ _ _ => pts_nil) (fun _ _ _ _ _ => pe_kxK (K := K) rfl (pv 8))) pa_nil)) (pe_callB (call_repr (k := 4) hg hr6) (by rfl) W.repr (by decide +kernel) (pa_cons (pe_op op_rep (pe_lst (pa_cons (pv 0) pa_nil)) pe_int) pa_nil)) (nomark _)) (pss_one (ps_ret pe_bl)) pss_nil)
    (C8.pss_cut (ps_set (i := 4) scNr.nd rfl (by first | exact Or.inl rfl | exact Or.inr rfl) (pe_lst (pa_cons (pe_kxK (K := K) rfl (pe_ek (gV := same) M.e6 hr2 (by rfl) (pk_cons (pv 0) pk_nil) (fun _ _ => perm_same))) (pa_cons (pe_kxK (K := K) rfl (pe_ek (gV := same) M.e8 hr2 (by rfl) (pk_cons (pv 0) pk_nil) (fun _ _ => perm_same))) (pa_cons (pe_kxK (K := K) rfl (pe_ek (gV := same) M.e15 hr2 (by rfl) (pk_cons (pv 0) pk_nil) (fun _ _ => perm_same))) (pa_cons (pe_kxK (K := K) rfl (pe_ek (gV := same) M.e9 hr2 (by rfl) (pk_cons (pv 0) pk_nil) (fun _ _ => perm_same))) pa_nil))))))
    (pss_cons (ps_if (pt_cmpR op_ne (pe_callB (call_repr (k := 4) hg hr6) (by rfl) W.repr (by decide +kernel) (pa_cons (pe_op op_cat (pv 4) (pe_lst (pa_cons (pe_kxK (K := K) rfl (pe_ek (gV := same) M.e10 hr2 (by rfl) (pk_cons (pv 0) pk_nil) (fun _ _ => perm_same))) (pa_cons (pe_kxK (K := K) rfl (pe_ek (gV := same) M.e23 hr2 (by rfl) (pk_cons (pv 0) pk_nil) (fun _ _ => perm_same))) pa_nil)))) pa_nil)) (pe_callB (call_repr (k := 4) hg hr6) (by rfl) W.repr (by decide +kernel) (pa_cons (pe_op op_rep (pe_lst (pa_cons (pv 0) pa_nil)) pe_int) pa_nil)) (nomark _)) (pss_one (ps_ret pe_bl)) pss_nil)
    (pss_cons (ps_par (i := 5) (j := 6) rfl scNr.nd rfl rfl (by decide) rfl rfl (pa_cons (pe_ek (gV := rot3) M.e17 hr2 (by rfl) (pk_cons (pv 2) (pk_cons (pv 0) (pk_cons (pv 1) pk_nil))) (fun _ _ => perm_rot)) (pa_cons (pe_ek (gV := swap2) M.e18 hr2 (by rfl) (pk_cons (pv 1) (pk_cons (pv 0) pk_nil)) (fun _ _ => perm_swap)) pa_nil)) (by rfl))
    (pss_cons (ps_set (i := 7) scNr.nd rfl (by first | exact Or.inl rfl | exact Or.inr rfl) (pe_ek (gV := swap2) M.e22 hr2 (by rfl) (pk_cons (pv 1) (pk_cons (pv 0) pk_nil)) (fun _ _ => perm_swap)))
    (pss_cons (ps_set (i := 4) scNr.nd rfl (by first | exact Or.inl rfl | exact Or.inr rfl) (pe_lst (pa_cons (pe_kxK (K := K) rfl (pv 5)) (pa_cons (pe_kxK (K := K) rfl (pv 5)) (pa_cons (pe_kxK (K := K) rfl (pv 5)) (pa_cons (pe_kxK (K := K) rfl (pv 6)) (pa_cons (pe_kxK (K := K) rfl (pv 6)) (pa_cons (pe_kxK (K := K) rfl (pv 7)) (pa_cons (pe_kxK (K := K) rfl (pv 7)) pa_nil)))))))))
    (pss_one (ps_ret (pe_cmpR op_eq (pe_callB (call_repr (k := 4) hg hr6) (by rfl) W.repr (by decide +kernel) (pa_cons (pv 4) pa_nil)) (pe_callB (call_repr (k := 4) hg hr6) (by rfl) W.repr (by decide +kernel) (pa_cons (pe_lst (pa_cons (pv 0) (pa_cons (pv 1) (pa_cons (pv 2) (pa_cons (pv 0) (pa_cons (pv 1) (pa_cons (pv 0) (pa_cons (pv 1) pa_nil)))))))) pa_nil)) (nomark _)))))))))))))), ?_⟩
  refine ⟨fun σ' H' => ∃ (L : Addr) (es : List Addr), σ' = [some x, some y, some z, some (.ref L), none, none, none, none, none] ∧ Same H H' ∧ H' L = some (.lst (es.map V.ref)) ∧ ErL K H' es "value" x 4, ?_, ?_⟩
  · refine ⟨_, rfl, rfl, mkw1 fun e0 H0 c0 E0 n0 => ?_⟩
    refine ⟨_, rfl, rfl, mkw1 fun e1 H1 c1 E1 n1 => ?_⟩
    refine ⟨_, rfl, rfl, mkw1 fun e2 H2 c2 E2 n2 => ?_⟩
    refine ⟨_, rfl, rfl, mkw1 fun e7 H7 c7 E7 n7 => ?_⟩
    refine ⟨by show 4 ≤ sizeLine; decide, fun m hm => ?_⟩
    have cm := same1 (o := .lst [V.ref e0, .ref e1, .ref e2, .ref e7]) hm
    have km : upd H7 m (.lst [V.ref e0, .ref e1, .ref e2, .ref e7]) m = some (.lst [V.ref e0, .ref e1, .ref e2, .ref e7]) := upd_same
    generalize upd H7 m (.lst [V.ref e0, .ref e1, .ref e2, .ref e7]) = HM at cm km ⊢
    have s7 := cm
    have s2 := c7.trans s7
    have s1 := c2.trans s2
    have s0 := c1.trans s1
    have sB := c0.trans s0
    refine ⟨m, [e0, e1, e2, e7], rfl, sB, km, rfl, fun i e he => ?_⟩
    match i, he with
    | 0, he => cases he; exact ⟨Cs 0, G.xf 0 (by decide), M.n0_value, ErAt.mono E0 s0⟩
    | 1, he => cases he; exact ⟨Cs 1, G.xf 1 (by decide), M.n1_value, ErAt.mono E1 s1⟩
    | 2, he => cases he; exact ⟨Cs 2, G.xf 2 (by decide), M.n2_value, ErAt.mono E2 s2⟩
    | 3, he => cases he; exact ⟨Cs 7, G.xf 7 (by decide), M.n7_value, ErAt.mono E7 s7⟩
    | n + 4, he => cases he
  rintro σ0 B0 ⟨L0, es0, rfl, b0, kL0, SL0⟩
  refine ⟨fun σ' H' => ∃ (L : Addr) (es : List Addr), σ' = [some x, some y, some z, some (.ref L), none, none, none, none, none] ∧ Same B0 H' ∧ H' L = some (.lst (es.map V.ref)) ∧ ErL K H' es "value" x 7, ?_, ?_⟩
  · refine ⟨_, rfl, ?_⟩
    refine ⟨_, rfl, rfl, mkw1 fun e12 H12 c12 E12 n12 => ?_⟩
    refine ⟨_, rfl, rfl, mkw1 fun e16 H16 c16 E16 n16 => ?_⟩
    refine ⟨_, rfl, rfl, mkw1 fun e21 H21 c21 E21 n21 => ?_⟩
    refine ⟨by show 3 ≤ sizeLine; decide, fun m hm => ?_⟩
    have cm := same1 (o := .lst [V.ref e12, .ref e16, .ref e21]) hm
    have km : upd H21 m (.lst [V.ref e12, .ref e16, .ref e21]) m = some (.lst [V.ref e12, .ref e16, .ref e21]) := upd_same
    generalize upd H21 m (.lst [V.ref e12, .ref e16, .ref e21]) = HM at cm km ⊢
    have s21 := cm
    have s16 := c21.trans s21
    have s12 := c16.trans s16
    have sB := c12.trans s12
    refine ⟨_, m, _, _, rfl, rfl, sB _ _ kL0, km, by rw [List.length_map, SL0.1]; show 4 + 3 ≤ sizeLine; decide, fun L hL => ?_⟩
    have cL := same1 (o := .lst (es0.map V.ref ++ [V.ref e12, .ref e16, .ref e21])) hL
    refine ⟨L, es0 ++ [e12, e16, e21], rfl, sB.trans cL, by rw [upd_same, List.map_append]; rfl, by rw [List.length_append, SL0.1]; rfl, fun i e he => ?_⟩
    rcases Nat.lt_or_ge i 4 with hlt | hge
    · rw [List.getElem?_append_left (by rw [SL0.1]; exact hlt)] at he
      exact (ErL.mono SL0 (sB.trans cL)).2 i e he
    · rw [List.getElem?_append_right (by rw [SL0.1]; exact hge), SL0.1] at he
      obtain ⟨j, rfl⟩ : ∃ j, i = 4 + j := ⟨i - 4, by omega⟩
      rw [Nat.add_sub_cancel_left] at he
      match j, he with
      | 0, he => cases he; exact ⟨Cs 12, G.xf 12 (by decide), M.n12_value, ErAt.mono E12 (s12.trans cL)⟩
      | 1, he => cases he; exact ⟨Cs 16, G.xf 16 (by decide), M.n16_value, ErAt.mono E16 (s16.trans cL)⟩
      | 2, he => cases he; exact ⟨Cs 21, G.xf 21 (by decide), M.n21_value, ErAt.mono E21 (s21.trans cL)⟩
      | n + 3, he => cases he
  rintro σ1 B1 ⟨L1, es1, rfl, b1, kL1, SL1⟩
  have b01 := b0.trans b1
  obtain ⟨TA, hTA⟩ := rep_list (X := (cxOf CX0 P w K mg base Nnr "_law_named_right" (defScope sNr) f cdv A outer s H E).nox) W (H := H) (zs := List.replicate 7 x) (fun u hu => by rw [List.eq_of_mem_replicate hu]; exact hx) (by simp) (by simp)
  have lenA : (es1.map V.ref).length = 7 := by rw [List.length_map, SL1.1]
  refine ⟨_, rfl, L1, rfl, ⟨_, SqL.of kL1⟩, fun DA hDA => lc_it (walk_list (K := K) (a := L1) (xs := es1.map V.ref)) (fun i H' => Same B1 H' ∧ H' DA = some (.lst (List.replicate i x))) ⟨same1 hDA, upd_same⟩ (fun i H' _ e => SqL.of (e.1 _ _ kL1)) (fun i v H1 H2 hi e yy => ?_) (fun RA eA => ?_)⟩
  · obtain ⟨c1, kD⟩ := e
    obtain ⟨rfl, hv⟩ := yy
    rw [lenA] at hi
    rw [List.getElem?_map] at hv
    obtain ⟨e, he, rfl⟩ := Option.map_eq_some_iff.mp hv
    obtain ⟨C, xf, nf, er⟩ := SL1.2 i e he
    refine ⟨rfl, _, rfl, e, C, _, x, rfl, xf, nf, ErAt.mono er c1, by simp [List.lookup], ?_⟩
    refine ⟨_, kD, by rw [List.length_replicate]; exact Nat.lt_trans hi (by decide), fun b o hb => ?_, ?_⟩
    · rw [upd_ne (ne_of_none hb hDA)]
      exact c1 _ _ hb
    · rw [upd_same, List.replicate_succ']
  obtain ⟨rA, kDA⟩ := eA
  rw [lenA] at kDA
  have rrA := b01.trans rA
  refine nil_ok (hTA DA RA _ rrA (none_of b01 hDA) kDA fun YA yyA => ?_)
  have xA := rrA.trans yyA
  refine ⟨_, rfl, by show 1 ≤ sizeLine; decide, fun pa hpa => ?_⟩
  have ua := same1 (o := .lst [x]) hpa
  have va : upd YA pa (.lst [x]) pa = some (.lst [x]) := upd_same
  generalize upd YA pa (.lst [x]) = Ua at ua va ⊢
  refine ⟨pa, 7, [x], rfl, rfl, va, by decide, by decide, (by show 1 * 7 ≤ sizeLine; decide), fun qa hqa => ?_⟩
  rw [show (List.replicate (7 : Int).toNat [x]).flatten = List.replicate 7 x from rfl]
  have wa := same1 (o := .lst (List.replicate 7 x)) hqa
  refine nil_ok (hTA qa _ _ ((xA.trans ua).trans wa) (none_of (xA.trans ua) hqa) upd_same fun Za za => ⟨rfl, _, rfl, iteNS rfl ?_⟩)
  have ya := ((xA.trans ua).trans wa).trans za
  refine ⟨fun σ' H' => ∃ (L : Addr) (es : List Addr), σ' = [some x, some y, some z, some (.ref L), none, none, none, none, none] ∧ Same Za H' ∧ H' L = some (.lst (es.map V.ref)) ∧ ErL K H' es "place" x 4, ?_, ?_⟩
  · refine ⟨_, rfl, rfl, mkw1 fun e3 H3 c3 E3 n3 => ?_⟩
    refine ⟨_, rfl, rfl, mkw1 fun e4 H4 c4 E4 n4 => ?_⟩
    refine ⟨_, rfl, rfl, mkw1 fun e11 H11 c11 E11 n11 => ?_⟩
    refine ⟨_, rfl, rfl, mkw1 fun e14 H14 c14 E14 n14 => ?_⟩
    refine ⟨by show 4 ≤ sizeLine; decide, fun m hm => ?_⟩
    have cm := same1 (o := .lst [V.ref e3, .ref e4, .ref e11, .ref e14]) hm
    have km : upd H14 m (.lst [V.ref e3, .ref e4, .ref e11, .ref e14]) m = some (.lst [V.ref e3, .ref e4, .ref e11, .ref e14]) := upd_same
    generalize upd H14 m (.lst [V.ref e3, .ref e4, .ref e11, .ref e14]) = HM at cm km ⊢
    have s14 := cm
    have s11 := c14.trans s14
    have s4 := c11.trans s11
    have s3 := c4.trans s4
    have sB := c3.trans s3
    refine ⟨m, [e3, e4, e11, e14], rfl, sB, km, rfl, fun i e he => ?_⟩
    match i, he with
    | 0, he => cases he; exact ⟨Cs 3, G.xf 3 (by decide), M.n3_place, ErAt.mono E3 s3⟩
    | 1, he => cases he; exact ⟨Cs 4, G.xf 4 (by decide), M.n4_place, ErAt.mono E4 s4⟩
    | 2, he => cases he; exact ⟨Cs 11, G.xf 11 (by decide), M.n11_place, ErAt.mono E11 s11⟩
    | 3, he => cases he; exact ⟨Cs 14, G.xf 14 (by decide), M.n14_place, ErAt.mono E14 s14⟩
    | n + 4, he => cases he
  rintro σ2 B2 ⟨L2, es2, rfl, b2, kL2, SL2⟩
  have b02 := ya.trans b2
  obtain ⟨TB, hTB⟩ := rep_list (X := (cxOf CX0 P w K mg base Nnr "_law_named_right" (defScope sNr) f cdv A outer s H E).nox) W (H := H) (zs := List.replicate 4 x) (fun u hu => by rw [List.eq_of_mem_replicate hu]; exact hx) (by simp) (by simp)
  have lenB : (es2.map V.ref).length = 4 := by rw [List.length_map, SL2.1]
  refine ⟨_, rfl, L2, rfl, ⟨_, SqL.of kL2⟩, fun DB hDB => lc_it (walk_list (K := K) (a := L2) (xs := es2.map V.ref)) (fun i H' => Same B2 H' ∧ H' DB = some (.lst (List.replicate i x))) ⟨same1 hDB, upd_same⟩ (fun i H' _ e => SqL.of (e.1 _ _ kL2)) (fun i v H1 H2 hi e yy => ?_) (fun RB eB => ?_)⟩
  · obtain ⟨c1, kD⟩ := e
    obtain ⟨rfl, hv⟩ := yy
    rw [lenB] at hi
    rw [List.getElem?_map] at hv
    obtain ⟨e, he, rfl⟩ := Option.map_eq_some_iff.mp hv
    obtain ⟨C, xf, nf, er⟩ := SL2.2 i e he
    refine ⟨rfl, _, rfl, e, C, _, x, rfl, xf, nf, ErAt.mono er c1, by simp [List.lookup], ?_⟩
    refine ⟨_, kD, by rw [List.length_replicate]; exact Nat.lt_trans hi (by decide), fun b o hb => ?_, ?_⟩
    · rw [upd_ne (ne_of_none hb hDB)]
      exact c1 _ _ hb
    · rw [upd_same, List.replicate_succ']
  obtain ⟨rB, kDB⟩ := eB
  rw [lenB] at kDB
  have rrB := b02.trans rB
  refine nil_ok (hTB DB RB _ rrB (none_of b02 hDB) kDB fun YB yyB => ?_)
  have xB := rrB.trans yyB
  refine ⟨_, rfl, by show 1 ≤ sizeLine; decide, fun pb hpb => ?_⟩
  have ub := same1 (o := .lst [x]) hpb
  have vb : upd YB pb (.lst [x]) pb = some (.lst [x]) := upd_same
  generalize upd YB pb (.lst [x]) = Ub at ub vb ⊢
  refine ⟨pb, 4, [x], rfl, rfl, vb, by decide, by decide, (by show 1 * 4 ≤ sizeLine; decide), fun qb hqb => ?_⟩
  rw [show (List.replicate (4 : Int).toNat [x]).flatten = List.replicate 4 x from rfl]
  have wb := same1 (o := .lst (List.replicate 4 x)) hqb
  refine nil_ok (hTB qb _ _ ((xB.trans ub).trans wb) (none_of (xB.trans ub) hqb) upd_same fun Zb zb => ⟨rfl, _, rfl, iteNS rfl ?_⟩)
  have yb := ((xB.trans ub).trans wb).trans zb
  refine ⟨fun σ' H' => ∃ (Kp : Addr), σ' = [some x, some y, some z, some (.ref L2), some (.ref Kp), none, none, none, none] ∧ Same Zb H' ∧ H' Kp = some (.lst [x, x, x, x]), ?_, ?_⟩
  · refine ⟨_, rfl, rfl, mkw1 fun e6 H6 c6 E6 n6 => ⟨e6, Cs 6, _, x, rfl, G.xf 6 (by decide), M.n6_most, E6, rfl, ?_⟩⟩
    refine ⟨_, rfl, rfl, mkw1 fun e8 H8 c8 E8 n8 => ⟨e8, Cs 8, _, x, rfl, G.xf 8 (by decide), M.n8_at, E8, rfl, ?_⟩⟩
    refine ⟨_, rfl, rfl, mkw1 fun e15 H15 c15 E15 n15 => ⟨e15, Cs 15, _, x, rfl, G.xf 15 (by decide), M.n15_at, E15, rfl, ?_⟩⟩
    refine ⟨_, rfl, rfl, mkw1 fun e9 H9 c9 E9 n9 => ⟨e9, Cs 9, _, x, rfl, G.xf 9 (by decide), M.n9_k, E9, rfl, ?_⟩⟩
    refine ⟨by show 4 ≤ sizeLine; decide, fun m hm => ?_⟩
    exact ⟨m, rfl, (((c6.trans c8).trans c15).trans c9).trans (same1 hm), upd_same⟩
  rintro σ4 B4 ⟨Kp, rfl, b4, kp⟩
  have b04 := yb.trans b4
  obtain ⟨TC, hTC⟩ := rep_list (X := (cxOf CX0 P w K mg base Nnr "_law_named_right" (defScope sNr) f cdv A outer s H E).nox) W (H := H) (zs := List.replicate 6 x) (fun u hu => by rw [List.eq_of_mem_replicate hu]; exact hx) (by simp) (by simp)
  refine ⟨_, rfl, ?_⟩
  refine ⟨_, rfl, rfl, mkw1 fun e10 H10 c10 E10 n10 => ⟨e10, Cs 10, _, x, rfl, G.xf 10 (by decide), M.n10_ring, E10, rfl, ?_⟩⟩
  refine ⟨_, rfl, rfl, mkw1 fun e23 H23 c23 E23 n23 => ⟨e23, Cs 23, _, x, rfl, G.xf 23 (by decide), M.n23_word, E23, rfl, ?_⟩⟩
  refine ⟨by show 2 ≤ sizeLine; decide, fun m hm => ?_⟩
  have cm := same1 (o := .lst [x, x]) hm
  have km : upd H23 m (.lst [x, x]) m = some (.lst [x, x]) := upd_same
  generalize upd H23 m (.lst [x, x]) = HM at cm km ⊢
  have d4 := (c10.trans c23).trans cm
  refine ⟨Kp, m, _, _, rfl, rfl, d4 _ _ kp, km, by show 4 + 2 ≤ sizeLine; decide, fun K2 hK2 => ?_⟩
  have c2 := same1 (o := .lst ([x, x, x, x] ++ [x, x])) hK2
  have b05 := b04.trans d4
  refine nil_ok (hTC K2 _ _ (b05.trans c2) (none_of b05 hK2) upd_same fun YC yC => ?_)
  have xC := (b05.trans c2).trans yC
  refine ⟨_, rfl, by show 1 ≤ sizeLine; decide, fun pc hpc => ?_⟩
  have uc := same1 (o := .lst [x]) hpc
  have vc : upd YC pc (.lst [x]) pc = some (.lst [x]) := upd_same
  generalize upd YC pc (.lst [x]) = Uc at uc vc ⊢
  refine ⟨pc, 6, [x], rfl, rfl, vc, by decide, by decide, (by show 1 * 6 ≤ sizeLine; decide), fun qc hqc => ?_⟩
  rw [show (List.replicate (6 : Int).toNat [x]).flatten = List.replicate 6 x from rfl]
  have wc := same1 (o := .lst (List.replicate 6 x)) hqc
  refine nil_ok (hTC qc _ _ ((xC.trans uc).trans wc) (none_of (xC.trans uc) hqc) upd_same fun Zc zc => ⟨rfl, _, rfl, iteNS rfl ?_⟩)
  have yc := ((xC.trans uc).trans wc).trans zc
  -- of two and three fields
  refine ⟨_, rfl, _, rfl, _, rfl, rfl, mkw3 fun e17 H17 c17 E17 n17 => ?_⟩
  refine ⟨_, rfl, _, rfl, rfl, mkw2 fun e18 H18 c18 E18 n18 => ⟨_, _, rfl, ?_⟩⟩
  refine ⟨_, rfl, _, rfl, rfl, mkw2 fun e22 H22 c22 E22 n22 => ?_⟩
  have E18 := ErAt.mono E18 c22
  have E17 := ErAt.mono E17 (c18.trans c22)
  refine ⟨_, rfl, e17, Cs 17, _, x, rfl, G.xf 17 (by decide), M.n17_place, E17, rfl, _, rfl, e17, Cs 17, _, y, rfl, G.xf 17 (by decide), M.n17_column, E17, rfl, _, rfl, e17, Cs 17, _, z, rfl, G.xf 17 (by decide), M.n17_heard, E17, rfl, ?_⟩
  refine ⟨_, rfl, e18, Cs 18, _, x, rfl, G.xf 18 (by decide), M.n18_number, E18, rfl, _, rfl, e18, Cs 18, _, y, rfl, G.xf 18 (by decide), M.n18_ahead, E18, rfl, ?_⟩
  refine ⟨_, rfl, e22, Cs 22, _, x, rfl, G.xf 22 (by decide), M.n22_line, E22, rfl, _, rfl, e22, Cs 22, _, y, rfl, G.xf 22 (by decide), M.n22_word, E22, rfl, ?_⟩
  obtain ⟨TD, hTD⟩ := rep_list (X := (cxOf CX0 P w K mg base Nnr "_law_named_right" (defScope sNr) f cdv A outer s H E).nox) W (H := H) (zs := [x, y, z, x, y, x, y]) (fun u hu => by
    simp only [List.mem_cons, List.not_mem_nil, or_false] at hu
    rcases hu with h | h | h | h | h | h | h <;> (rw [h]; assumption)) (by simp) (by simp)
  have b22 := ((yc.trans c17).trans c18).trans c22
  refine ⟨by show 7 ≤ sizeLine; decide, fun K3 hK3 => ?_⟩
  have c3 := same1 (o := .lst [x, y, z, x, y, x, y]) hK3
  refine ⟨_, rfl, nil_ok (hTD K3 _ _ (b22.trans c3) (none_of b22 hK3) upd_same fun YD yD => ?_)⟩
  have b23 := (b22.trans c3).trans yD
  refine ⟨_, rfl, _, rfl, _, rfl, _, rfl, _, rfl, _, rfl, _, rfl, by show 7 ≤ sizeLine; decide, fun K5 hK5 => ?_⟩
  have cA := same1 (o := .lst [x, y, z, x, y, x, y]) hK5
  refine nil_ok (hTD K5 _ _ (b23.trans cA) (none_of b23 hK5) upd_same fun HB cB => ⟨rfl, ?_⟩)
  rw [decide_eq_true rfl]
  exact q _ (b23.trans (cA.trans cB))
end
end Pl

namespace Pl
open PySem L2 Own TL RZ LamX
/-! ### things beside lists that change -/
def Apart (H : Hp) (S : List Addr) (x : V) : Prop := ∀ b xs, x = .ref b → H b = some (.lst xs) → b ∉ S
def ButS (S : List Addr) (H H' : Hp) : Prop := ∀ b o, H b = some o → b ∉ S → H' b = some o
theorem ButS.refl {S : List Addr} {H : Hp} : ButS S H H := fun _ _ h _ => h
theorem ButS.trans {S : List Addr} {H H1 H2 : Hp} (h1 : ButS S H H1) (h2 : ButS S H1 H2) : ButS S H H2 := fun b o h n => h2 b o (h1 b o h n) n
theorem ButS.same {S : List Addr} {H H1 : Hp} (h : Same H H1) : ButS S H H1 := fun b o hb _ => h b o hb
theorem ButS.but {S : List Addr} {l : Addr} {H H1 : Hp} (h : But l H H1) (hl : l ∈ S) : ButS S H H1 := fun b o hb hn => h b o hb fun z => hn (z ▸ hl)
section
variable {a : Ad} {H H' : Hp} {S : List Addr} {x : V}
theorem Th.at (h : Th a H x) {b : Addr} (e : x = .ref b) : ∃ o, H b = some o := by
  cases q : H b with
  | some o => exact ⟨o, rfl⟩
  | none => exact absurd q (h.nn e)
theorem Th.keep (h : Th a H x) (ap : Apart H S x) (hS : ∀ b ∈ S, ∃ xs, H b = some (.lst xs)) (k : ButS S H H') : Th a H' x := by
  have off : ∀ {b : Addr} {o : HO}, H b = some o → (∀ xs, o ≠ .lst xs) → H' b = some o := fun {b o} e n => k _ _ e fun hb => by
    obtain ⟨xs, z⟩ := hS _ hb
    rw [e] at z
    exact n xs (Option.some.inj z)
  rcases h with h | ⟨p, ns, rfl, ⟨dx, t, h1, h2⟩, hn⟩
  · refine .inl ?_
    cases h with
    | non => exact .non
    | int i h => exact .int i h
    | bl b => exact .bl b
    | str y h h2 => exact .str y h h2
    | lst t ys e h hl => exact .lst t ys (k _ _ e (ap t _ rfl e)) h hl
    | tup t ys e h hl => exact .tup t ys (off e (by intro _ z; cases z)) h hl
    | dct t e => exact .dct t (off e (by intro _ z; cases z))
    | dct1 t y e h => exact .dct1 t y (off e (by intro _ z; cases z)) h
  · exact .inr ⟨p, ns, rfl, ⟨dx, t, off h1 (by intro _ z; cases z), off h2 (by intro _ z; cases z)⟩, hn⟩
theorem Apart.keep (ap : Apart H S x) (h : Th a H x) (hS : ∀ b ∈ S, ∃ xs, H b = some (.lst xs)) (k : ButS S H H') : Apart H' S x := fun b xs e hb hm => by
  obtain ⟨o, ho⟩ := h.at e
  obtain ⟨ys, hy⟩ := hS b hm
  exact ap b ys e hy hm
theorem Th.ne_pair (h : Th a H x) {p : Addr} {u v : V} (hp : H p = some (.tup [u, v])) : x ≠ .ref p := fun e => by
  rcases h with h | ⟨q, ns, rfl, ⟨dx, t, h1, h2⟩, hn⟩
  · cases h with
    | non => cases e
    | int i h => cases e
    | bl b => cases e
    | str y h h2 => cases e
    | lst t ys e1 h hl => cases e; rw [e1] at hp; cases hp
    | tup t ys e1 h hl =>
      cases e
      rw [e1] at hp
      have z := congrArg List.length (HO.tup.inj (Option.some.inj hp))
      rw [List.length_map] at z
      simp at z
      omega
    | dct t e1 => cases e; rw [e1] at hp; cases hp
    | dct1 t y e1 h => cases e; rw [e1] at hp; cases hp
  · cases e
    rw [h1] at hp
    cases hp
end
theorem Odd.noNm {a : Ad} {P : Program} {w : World} {K : PySem.W.Frag} {mg : Str → Option Value} {base : Heap} (W : Wo P w K mg base a) (ty : PySem.W.typeIn K (.ref a.C) = some (.type "type")) {H : Hp} {x : V} (h : Odd a H x) : NoNm K H x := by
  obtain ⟨th, n⟩ := h
  rcases th with s | ⟨p, ns, rfl, hp, hn⟩
  · exact s.noNm ty W.U.hm n
  · exact ⟨rfl, .inr ⟨.ref a.C, fun H' s' => (hp.mono s').ty W.U, W.U.kCs⟩⟩
/-! ### the values drawn -/
def Item (a : Ad) (H : Hp) (S : List Addr) (x : V) (k : Bool) : Prop := (k = true ∧ ∃ s, x = .str s ∧ okN s = true) ∨ (k = false ∧ Odd a H x ∧ Apart H S x)
theorem Item.keep {a : Ad} {H H' : Hp} {S : List Addr} {x : V} {k : Bool} (h : Item a H S x k) (hS : ∀ b ∈ S, ∃ ys, H b = some (.lst ys)) (e : ButS S H H') : Item a H' S x k := by
  rcases h with z | ⟨e0, o, ap⟩
  · exact .inl z
  · exact .inr ⟨e0, ⟨o.1.keep ap hS e, o.2⟩, ap.keep o.1 hS e⟩
def Items (a : Ad) (H : Hp) (S : List Addr) (xs : List V) (ks : List Bool) : Prop := xs.length = ks.length ∧ ∀ (i : Nat) (x : V) (k : Bool), xs[i]? = some x → ks[i]? = some k → Item a H S x k
theorem Items.keep {a : Ad} {H H' : Hp} {S : List Addr} {xs : List V} {ks : List Bool} (h : Items a H S xs ks) (hS : ∀ b ∈ S, ∃ ys, H b = some (.lst ys)) (k : ButS S H H') : Items a H' S xs ks := by
  refine ⟨h.1, fun i x kk hx hk => ?_⟩
  rcases h.2 i x kk hx hk with z | ⟨e, o, ap⟩
  · exact .inl z
  · exact .inr ⟨e, ⟨o.1.keep ap hS k, o.2⟩, ap.keep o.1 hS k⟩
theorem Items.snoc {a : Ad} {H : Hp} {S : List Addr} {xs : List V} {ks : List Bool} {x : V} {k : Bool} (h : Items a H S xs ks) (z : Item a H S x k) : Items a H S (xs ++ [x]) (ks ++ [k]) := by
  refine ⟨by rw [List.length_append, List.length_append, h.1]; rfl, fun i y kk hy hk => ?_⟩
  rcases Nat.lt_or_ge i xs.length with hlt | hge
  · rw [List.getElem?_append_left hlt] at hy
    rw [List.getElem?_append_left (by rw [← h.1]; exact hlt)] at hk
    exact h.2 i y kk hy hk
  · rw [List.getElem?_append_right hge] at hy
    rw [List.getElem?_append_right (by rw [← h.1]; exact hge)] at hk
    rw [← h.1] at hk
    rcases Nat.eq_zero_or_pos (i - xs.length) with e | e
    · rw [e] at hy hk
      cases Option.some.inj hy
      cases Option.some.inj hk
      exact z
    · rw [List.getElem?_eq_none (by simp; omega)] at hy
      cases hy
theorem Items.split {a : Ad} {H : Hp} {S : List Addr} : ∀ {xs : List V} {ks : List Bool}, Items a H S xs ks → (∃ ns, Good xs ks ns) ∨ ∃ ns x, Bad xs ks ns x ∧ Odd a H x ∧ Apart H S x := by
  intro xs
  induction xs with
  | nil =>
    intro ks h
    have e : ks = [] := List.length_eq_zero_iff.mp h.1.symm
    subst e
    exact .inl ⟨[], rfl, rfl, by simp⟩
  | cons x xs ih =>
    intro ks h
    match ks, h with
    | [], h => exact absurd h.1 (by simp)
    | k :: ks, h =>
      have tail : Items a H S xs ks := ⟨by have := h.1; simpa using this, fun i y kk hy hk => h.2 (i + 1) y kk hy hk⟩
      rcases h.2 0 x k rfl rfl with ⟨rfl, s, rfl, hs⟩ | ⟨rfl, o, ap⟩
      · rcases ih tail with ⟨ns, rfl, rfl, hn⟩ | ⟨ns, y, ⟨rest, ks', rfl, rfl, e, hn⟩, o⟩
        · refine .inl ⟨s :: ns, rfl, rfl, fun n hm => ?_⟩
          rcases List.mem_cons.mp hm with rfl | hm
          · exact hs
          · exact hn n hm
        · refine .inr ⟨s :: ns, y, ⟨rest, ks', rfl, rfl, e, fun n hm => ?_⟩, o⟩
          rcases List.mem_cons.mp hm with rfl | hm
          · exact hs
          · exact hn n hm
      · exact .inr ⟨[], x, ⟨xs, ks, rfl, rfl, by have := h.1; simpa using this, by simp⟩, o, ap⟩
/-! ### a value that is no number of names, drawn -/
inductive Od (a : Ad) (H : Hp) (ns : List Str) : V → Prop where
  | int (i : Int) (h : i.natAbs.log2 < 1920) (h2 : ((toString i : String) : Str).length ≤ 100) (h3 : ¬ (0 ≤ i ∧ i ≤ (ns.length : Nat))) : Od a H ns (.int i)
  | non : Od a H ns .non
  | bl (b : Bool) : Od a H ns (.bl b)
  | str : Od a H ns (.str "0")
  | tup (t : Addr) (e : H t = some (.tup [.int 0])) : Od a H ns (.ref t)
  | lst (t : Addr) (e : H t = some (.lst [])) : Od a H ns (.ref t)
  | plc (p : Addr) (ms : List Str) (h : PlA a.C H p ms) (hm : Nms ms) : Od a H ns (.ref p)
section
variable {X : Cx} {a : Ad} {H H' : Hp} {ns : List Str} {x : V}
theorem Od.extN (h : Od a H ns x) (e : ExtN H H') : Od a H' ns x := by
  cases h with
  | int i h h2 h3 => exact .int i h h2 h3
  | non => exact .non
  | bl b => exact .bl b
  | str => exact .str
  | tup t h => exact .tup t (extn_tup e h)
  | lst t h => exact .lst t (extn_lst e h)
  | plc p ms h hm => exact .plc p ms (h.extN e) hm
theorem Od.badK {P : Program} {w : World} {K : PySem.W.Frag} {mg : Str → Option Value} {base : Heap} (W : Wo P w K mg base a) (hi : PySem.W.mroIn K a.C (.type "int") = some false) (hb : PySem.W.mroIn K a.C (.type "bool") = some false) (h : Od a H ns x) : BadK K H ns x := by
  cases h with
  | int i h h2 h3 => exact .inl ⟨i, rfl, h3⟩
  | non => exact .inr ⟨_, false, false, .base .non, kit_ty (by decide +kernel), kit_ty (by decide +kernel), rfl⟩
  | bl b => exact .inr ⟨_, true, true, .base (.bl b), kit_ty (by decide +kernel), kit_ty (by decide +kernel), rfl⟩
  | str => exact .inr ⟨_, false, false, .base (.str _), kit_ty (by decide +kernel), kit_ty (by decide +kernel), rfl⟩
  | tup t e => exact .inr ⟨_, false, false, .base (.tup e), kit_ty (by decide +kernel), kit_ty (by decide +kernel), rfl⟩
  | lst t e => exact .inr ⟨_, false, false, .base (.lst e), kit_ty (by decide +kernel), kit_ty (by decide +kernel), rfl⟩
  | plc p ms h hm => exact .inr ⟨_, false, false, h.ty W.U, kit_Cty (by decide +kernel) hi, kit_Cty (by decide +kernel) hb, rfl⟩
/-- what can be read as a text -/
def Rd (X : Cx) (H : Hp) (x : V) : Prop := ∃ as t, RU X as 4 H x t ∧ t.length ≤ 10000 ∧ ∀ b ∈ as, x = .ref b
theorem Th.rd (W : Wo X.prog X.w X.K X.mg X.base a) (h : Th a H x) : Rd X H x := h.ru (X := X) W
theorem Od.rd (W : Wo X.prog X.w X.K X.mg X.base a) (h : Od a H ns x) : Rd X H x := by
  cases h with
  | int i h h2 h3 => exact ⟨[], _, RU.int i h, by omega, by simp⟩
  | non => exact ⟨[], _, RU.non, by decide, by simp⟩
  | bl b => exact ⟨[], _, RU.bl b, by cases b <;> decide +kernel, by simp⟩
  | str => exact ⟨[], _, RU.str _ (by decide +kernel), by decide +kernel, by simp⟩
  | tup t e => exact ⟨[t], _, RU.tuple (as := []) (k := 3) e (by simp) (.cons (RU.int 0 (by decide +kernel)) .nil), by decide +kernel, fun b hb => by rw [List.mem_singleton.mp hb]⟩
  | lst t e => exact ⟨[], _, RU.list0 e, by decide +kernel, by simp⟩
  | plc p ms h hm => exact Th.rd W (.inr ⟨p, ms, rfl, h, hm⟩)
theorem Od.ne_pair (h : Od a H ns x) {p : Addr} {u v : V} (hp : H p = some (.tup [u, v])) : x ≠ .ref p := fun e => by
  cases h with
  | int i h h2 h3 => cases e
  | non => cases e
  | bl b => cases e
  | str => cases e
  | tup t e1 => cases e; rw [e1] at hp; cases hp
  | lst t e1 => cases e; rw [e1] at hp; cases hp
  | plc q ms h hm =>
    cases e
    obtain ⟨dx, t, h1, _⟩ := h
    rw [h1] at hp
    cases hp
theorem rep_tag {tag : Str} (htag : (reprText tag).length ≤ 100) {H0 : Hp} (r : Rd X H0 x) : ∃ T : Str, ∀ (p : Addr) (H1 : Hp) (Q : VK), Same H0 H1 → x ≠ .ref p → H1 p = some (.tup [.str tag, x]) → (∀ H2, Same H1 H2 → Q (.str T) H2) → rRepr X 4 [.ref p] H1 Q := by
  obtain ⟨as, t, ru, hl, nz⟩ := r
  refine ⟨tupleText [reprText tag, t], fun p H1 Q s hne hp k => ⟨p, _, [reprText tag, t], as, _, rfl, fun hm => hne (nz p hm), .cons (RU.str _ (Nat.le_trans htag (by decide))) (.cons (ru.mono s) .nil), .inl ⟨hp, rfl⟩, rep_len hl htag, k⟩⟩
end
end Pl

namespace Pl
open PySem L2 Own TL RZ LamX
/-! ### the law -/
abbrev sLaw : Stmt := top 47
abbrev Nlaw : List Str := ["_law_script", "_law_pen_here", "_law_turn", "_law_some", "_law_kept", "_law_many", "_law_step", "_law_label", "_law_is_fine", "_law_due_here", "_law_found", "_law_odd_here"]
theorem scLaw : FnScope Nlaw ["_law_script"] (defScope sLaw) := ⟨rfl, rfl, rfl, by decide +kernel, rfl, by decide +kernel, by decide +kernel⟩
def qLaw : Str := (PyProof.Rows.envOfC "law" (defScope sLaw) 0 0 .none).qual ++ "<lambda>"
def spLaw (K : PySem.W.Frag) (Tb : List (Addr × Str)) : Sp := fun vs H Q _ => ∃ (a : Addr) (ns : List Int), vs = [.ref a] ∧ SqL K H a (ns.map V.int) ∧ ns.length ≤ 63 ∧ Tabs Tb H ∧ ∀ H', Q (.bl true) H'
theorem tabs_put {Tb : List (Addr × Str)} {H : Hp} {D : Addr} {xs ys : List V} (T : Tabs Tb H) (h : H D = some (.lst xs)) : Tabs Tb (upd H D (.lst ys)) := fun pr hpr => by
  obtain ⟨ps, x1, x2, x3⟩ := T pr hpr
  refine ⟨ps, by rw [upd_ne (ne_of x1 h (by intro z; cases z))]; exact x1, x2, fun po cv hc => ?_⟩
  obtain ⟨cc, e1, e2⟩ := x3 po cv hc
  exact ⟨cc, e1, by rw [upd_ne (ne_of e2 h (by intro z; cases z))]; exact e2⟩
theorem mk0_ok {C : Addr} {σ : L2.St} {H : Hp} {Q : VK} {E : XK} (k : ∀ p H', Same H H' → PlA C H' p [] → Q (.ref p) H') : StX.tMakeR C (spMk C) E tNil σ H Q := make_ok (ns := []) ⟨by decide, by simp⟩ k
section
variable {P : Program} {w : World} {K : PySem.W.Frag} {mg : Str → Option Value} {base : Heap} {a : Ad} {f : Addr}
theorem gLaw {gW gO gD gP gI gE gN gH c0 P0 : Addr} {fdW fdO fdD : FuncData} {Tb : List (Addr × Str)} {oc kV doc pm ct oc2 kV2 doc2 pm2 cd2 ct2 : Value} {od an od2 an2 : Option Addr} {osl osl2 : Array (Option Value)} (W : Wo P w K mg base a)
    (ty : PySem.W.typeIn K (.ref a.C) = some (.type "type")) (mi : PySem.W.mroIn K a.C (.type "int") = some false) (mb : PySem.W.mroIn K a.C (.type "bool") = some false)
    (lk : K.lookup f = some ⟨oc, od, .func (PySem.W.fnOf "law" "law" (defArgs sLaw) (defBody sLaw) (defScope sLaw) .none kV doc pm an (.ref c0) ct), osl⟩) (hcd : PySem.W.codeIn K (.ref c0) "law" = true)
    (bF : L2.Binds K (PySem.W.fnOf "law" "law" (defArgs sLaw) (defBody sLaw) (defScope sLaw) .none kV doc pm an (.ref c0) ct) ["_law_script"] [])
    (GW : FnOk P w K mg base CX0 3 gW fdW ["_law_pen_here"] spWord) (mW : mg "_law_word" = some (.ref gW)) (kW : PySem.W.keepIn K (.ref gW) = true) (bW : L2.Binds K fdW ["_law_pen_here"] [])
    (GO : FnOk P w K mg base CX0 4 gO fdO ["_law_pen_here", "_law_label"] (spOdd a)) (mO : mg "_law_odd" = some (.ref gO)) (kO : PySem.W.keepIn K (.ref gO) = true) (bO : L2.Binds K fdO ["_law_pen_here", "_law_label"] [])
    (GD : FnOk P w K mg base CX0 1 gD fdD ["_law_some", "_law_kept"] spDue) (mD : mg "_law_due" = some (.ref gD)) (kD : PySem.W.keepIn K (.ref gD) = true) (bD : L2.Binds K fdD ["_law_some", "_law_kept"] [])
    (GP : FnR P w K mg base (L2.CX P w) 6 gP (spPlc K a Tb)) (mP : mg "_law_placed" = some (.ref gP)) (kP : PySem.W.keepIn K (.ref gP) = true)
    (GI : FnG P w K mg base CX0 8 gI (spIsP a)) (mI : mg "_law_is" = some (.ref gI)) (kI : PySem.W.keepIn K (.ref gI) = true)
    (GE : FnG P w K mg base CX0 8 gE (spEr a)) (mE : mg "_law_errors_right" = some (.ref gE)) (kE : PySem.W.keepIn K (.ref gE) = true)
    (GN : FnG P w K mg base CX0 8 gN (spEr a)) (mN : mg "_law_named_right" = some (.ref gN)) (kN : PySem.W.keepIn K (.ref gN) = true)
    (mH : mg "_law_heard" = some (.ref gH)) (kH : PySem.W.keepIn K (.ref gH) = true) (lkH : K.lookup gH = some ⟨oc2, od2, .func (PySem.W.fnOf "_law_heard" "_law_heard" (defArgs sHeard) (defBody sHeard) (defScope sHeard) .none kV2 doc2 pm2 an2 cd2 ct2), osl2⟩) (hcH : PySem.W.codeIn K cd2 "_law_heard" = true)
    (bH : L2.Binds K (PySem.W.fnOf "_law_heard" "_law_heard" (defArgs sHeard) (defBody sHeard) (defScope sHeard) .none kV2 doc2 pm2 an2 cd2 ct2) ["_law_ask"] [])
    (TB : TabB base mg c0 P0) (hmT : (P0, qLaw) ∈ Tb) (hu : ∀ p ∈ Tb, p.1 = P0 → p.2 = qLaw) : FnG P w K mg base CX0 10 f (spLaw K Tb) := by
  refine fnG_lk lk hcd scLaw bF (fun vs H Q E h => ?_) (fun A outer s H vs Q E hr hg h => ?_)
  · obtain ⟨a, ns, rfl, _⟩ := h
    rfl
  obtain ⟨ad, sc, rfl, hS, hlen, hT, q⟩ := h
  have hr1 : Room 1 _ := hr.mono (by decide)
  have hr2 : Room 2 _ := hr.mono (by decide)
  have hr3 : Room 3 _ := hr.mono (by decide)
  have hr4 : Room 4 _ := hr.mono (by decide)
  have hr6 : Room 6 _ := hr.mono (by decide)
  have hr8 : Room 8 _ := hr.mono (by decide)
  refine ⟨_, PSs.nox (pss_cons (ps_set (i := 1) scLaw.nd rfl (by first | exact Or.inl rfl | exact Or.inr rfl) (pe_call W.cPen hr1 (by rfl) W.mPen W.kPen W.bPen .nil pass0 (pa_cons (pv 0) pa_nil)))
    (pss_cons (ps_for PassesOwn.never rfl (pi_range1 (by rfl) W.T.b.range (pa_cons pe_int pa_nil)) (pg_name (i := 2) scLaw.nd rfl (by first | exact Or.inl rfl | exact Or.inr rfl)) (pss_cons (ps_asg (pe_tup (pa_cons (pe_lst pa_nil) (pa_cons (pe_lst pa_nil) pa_nil))) (pg_tup rfl (pgs_cons (pg_name (i := 3) scLaw.nd rfl (by first | exact Or.inl rfl | exact Or.inr rfl)) (pgs_cons (pg_name (i := 4) scLaw.nd rfl (by first | exact Or.inl rfl | exact Or.inr rfl)) pgs_nil))))
      (pss_cons (ps_set (i := 5) scLaw.nd rfl (by first | exact Or.inl rfl | exact Or.inr rfl) (pe_call W.cPick hr2 (by rfl) W.mPick W.kPick W.bPick .nil pass0 (pa_cons (pv 1) (pa_cons (pe_lst (pa_cons pe_int (pa_cons pe_int (pa_cons pe_int (pa_cons pe_int (pa_cons pe_int (pa_cons pe_int (pa_cons pe_int (pa_cons pe_int (pa_cons pe_int (pa_cons pe_int (pa_cons pe_int (pa_cons pe_int pa_nil))))))))))))) pa_nil))))
      (C8.pss_cut (ps_for PassesOwn.never rfl (pi_range1 (by rfl) W.T.b.range (pa_cons (pv 5) pa_nil)) (pg_name (i := 6) scLaw.nd rfl (by first | exact Or.inl rfl | exact Or.inr rfl))
          (pss_cons (ps_set (i := 7) scLaw.nd rfl (by first | exact Or.inl rfl | exact Or.inr rfl) (pe_call GW hr3 (by rfl) mW kW bW .nil pass0 (pa_cons (pv 1) pa_nil)))
          (pss_cons (ps_set (i := 8) scLaw.nd rfl (by first | exact Or.inl rfl | exact Or.inr rfl) (pe_cmpR op_gt (pe_call W.cDraw hr1 (by rfl) W.mDraw W.kDraw W.bDraw .nil pass0 (pa_cons (pv 1) (pa_cons pe_int pa_nil))) pe_int (nomark _)))
          (C8.pss_cut (ps_expr (pe_bm PySem.F.plainAttrs_list PySem.F.slot_list_append PySem.F.type_list_append mt_append (pv 3) (pa_cons (pe_ifExp (pt_val (pv 8)) (pv 7) (pe_call GO hr4 (by rfl) mO kO bO .nil pass0 (pa_cons (pv 1) (pa_cons (pv 7) pa_nil)))) pa_nil)))
          (pss_one (ps_expr (pe_bm PySem.F.plainAttrs_list PySem.F.slot_list_append PySem.F.type_list_append mt_append (pv 4) (pa_cons (pv 8) pa_nil))))))))
      (C8.pss_cut (ps_set (i := 9) scLaw.nd rfl (by first | exact Or.inl rfl | exact Or.inr rfl) (pe_call GD hr1 (by rfl) mD kD bD .nil pass0 (pa_cons (pv 3) (pa_cons (pv 4) pa_nil))))
      (C8.pss_cut (ps_set (i := 10) scLaw.nd rfl (by first | exact Or.inl rfl | exact Or.inr rfl) (pe_lamcall (T := Tb) (TT := TTh a) (x := "_law_heard") (a := "_law_ask") (g := gH) (c := c0) (P := P0) (k := 6) (Ng := Ngh) (by rfl) mH kH lkH hcH bH scHeard rfl (.inl rfl) (heard_gives W) TB rfl hmT hu hr8 (lamS_by (sc := defScope sLaw) (by decide +kernel)) rfl (fun _ _ _ _ _ => rfl)
              (fun A' outer' s' H' E' f' c' hr' => pe_callRef (call_R GP hr' (passes_call (takes_of rfl rfl rfl rfl) fun _ _ _ _ h => h)) (by rfl) mP kP (pa_cons (pv 3) pa_nil))))
      (pss_one (ps_if (pt_cmpR op_isN (pv 9) pe_non (nomark _)) (pss_cons (ps_if (PW.pt (pw_or (pt_not (pt_val (pe_callB call_isi (by rfl) W.T.b.isi (by decide +kernel) (pa_cons (pv 10) (pa_cons (pe_bltn (v := .ty "list") (by rfl) W.T.b.list (by decide +kernel) rfl) pa_nil))))) (pw_or1 (pt_not (pt_val (pe_callRef (callG GI hr8 hg pass0) (by rfl) mI kI (pa_cons (pe_ix ix_list (pv 10) pe_int (fun _ _ => rfl)) (pa_cons (pv 3) pa_nil)))))))) (pss_one (ps_ret pe_bl)) pss_nil)
          (C8.pss_cut (ps_set (i := 11) scLaw.nd rfl (by first | exact Or.inl rfl | exact Or.inr rfl) (pe_call W.cPick hr2 (by rfl) W.mPick W.kPick W.bPick .nil pass0 (pa_cons (pv 1) (pa_cons (pe_lst (pa_cons (pe_un un_neg pe_int) (pa_cons (pe_op op_add (pv 5) pe_int) (pa_cons pe_non (pa_cons pe_bl (pa_cons pe_str (pa_cons (pe_op op_pow pe_int pe_int) (pa_cons (pe_tup (pa_cons pe_int pa_nil)) (pa_cons (pe_lst pa_nil) (pa_cons (pe_ix ix_list (pv 10) pe_int (fun _ _ => rfl)) pa_nil)))))))))) pa_nil))))
          (pss_one (ps_if (PW.pt (pw_or (pt_cmpR op_ne (pe_callB (call_repr (k := 4) hg hr6) (by rfl) W.repr (by decide +kernel) (pa_cons (pe_lamcall (T := Tb) (TT := TTh a) (x := "_law_heard") (a := "_law_ask") (g := gH) (c := c0) (P := P0) (k := 6) (Ng := Ngh) (by rfl) mH kH lkH hcH bH scHeard rfl (.inl rfl) (heard_gives W) TB rfl hmT hu hr8 (lamS_by (sc := defScope sLaw) (by decide +kernel)) rfl (fun _ _ _ _ _ => rfl)
              (fun A' outer' s' H' E' f' c' hr' => pe_meth (pe_ix (ix_listK (K := K) rfl) (pv 10) pe_int (fun _ _ => rfl)) W.U.cl W.mHead W.cHeadB (hr'.mono (by decide)) W.bHead .nil (passes_call (takes_of rfl rfl rfl rfl) fun _ _ _ _ h => h) (pa_cons (pv 11) pa_nil))) pa_nil)) (pe_callB (call_repr (k := 4) hg hr6) (by rfl) W.repr (by decide +kernel) (pa_cons (pe_tup (pa_cons pe_str (pa_cons (pv 11) pa_nil))) pa_nil)) (nomark _)) (pw_or1 (pt_not (pt_val (pe_callRef (callG GI hr8 hg pass0) (by rfl) mI kI (pa_cons (pe_ix ix_list (pv 10) pe_int (fun _ _ => rfl)) (pa_cons (pv 3) pa_nil)))))))) (pss_one (ps_ret pe_bl)) pss_nil))))
         (pss_one (ps_if (pt_cmpR op_ne (pe_callB (call_repr (k := 4) hg hr6) (by rfl) W.repr (by decide +kernel) (pa_cons (pv 10) pa_nil)) (pe_callB (call_repr (k := 4) hg hr6) (by rfl) W.repr (by decide +kernel) (pa_cons (pv 9) pa_nil)) (nomark _)) (pss_one (ps_ret pe_bl)) pss_nil))))))))))
    (pss_cons (ps_set (i := 3) scLaw.nd rfl (by first | exact Or.inl rfl | exact Or.inr rfl) (pe_lst (pa_cons (pe_call GO hr4 (by rfl) mO kO bO .nil pass0 (pa_cons (pv 1) (pa_cons pe_str pa_nil))) (pa_cons (pe_call GO hr4 (by rfl) mO kO bO .nil pass0 (pa_cons (pv 1) (pa_cons pe_str pa_nil))) (pa_cons (pe_call GO hr4 (by rfl) mO kO bO .nil pass0 (pa_cons (pv 1) (pa_cons pe_str pa_nil))) pa_nil)))))
    (pss_cons (ps_if (PW.pt (pw_or (pt_not (pt_val (pe_callRef (callG GE hr8 hg pass0) (by rfl) mE kE (pa_cons (pe_ix ix_list (pv 3) pe_int (fun _ _ => rfl)) (pa_cons (pe_ix ix_list (pv 3) pe_int (fun _ _ => rfl)) (pa_cons (pe_ix ix_list (pv 3) pe_int (fun _ _ => rfl)) pa_nil)))))) (pw_or1 (pt_not (pt_val (pe_callRef (callG GN hr8 hg pass0) (by rfl) mN kN (pa_cons (pe_ix ix_list (pv 3) pe_int (fun _ _ => rfl)) (pa_cons (pe_ix ix_list (pv 3) pe_int (fun _ _ => rfl)) (pa_cons (pe_ix ix_list (pv 3) pe_int (fun _ _ => rfl)) pa_nil))))))))) (pss_one (ps_ret pe_bl)) pss_nil)
    (pss_one (ps_ret (pe_and (pe_cmpR op_eq (ClX.pe_cval (pe_glob (v := .ref a.C) (by rfl) W.U.mgC rfl)) pe_int (nomark _)) (pe_one (pe_callRef (callG GI hr8 hg pass0) (by rfl) mI kI (pa_cons (pe_makeR0 W.mMk W.cMk hr3 (by rfl) W.U.mgC pass0) (pa_cons (pe_lst pa_nil) pa_nil))))))))))), ?_⟩
  refine ⟨_, rfl, ad, sc, rfl, hS, hlen, fun l c H1 s1 nl PN => ?_⟩
  have T1 : Tabs Tb H1 := hT.ext s1
  refine ⟨6, rfl, by decide, by decide, for_it (walk_range (lo := 0) (n := (6 : Int).toNat)) (fun i σ H' => (∃ v2 v3 v4 v5 v6 v7 v8 v9 v10 v11, σ = [some (.ref ad), some (.ref l), v2, v3, v4, v5, v6, v7, v8, v9, v10, v11]) ∧ Tabs Tb H' ∧ PenAt H' l c (i * 300))
    ⟨⟨none, none, none, none, none, none, none, none, none, none, rfl⟩, T1, PN⟩ (fun _ _ _ _ _ => trivial) (fun i x σ H3 H2 hi e y => ?_) (fun σ H2 e => ?_)⟩
  · obtain ⟨⟨v2, v3, v4, v5, v6, v7, v8, v9, v10, v11, rfl⟩, T2, PN2⟩ := e
    obtain ⟨rfl, rfl⟩ := y
    have hi6 : i < 6 := hi
    obtain ⟨lx, hlx⟩ := PN2.lst
    obtain ⟨lc, hlc⟩ := PN2.cell
    -- two new lists
    refine ⟨Nat.zero_le _, fun sm hsm => ?_⟩
    have c1 := same1 (o := .lst []) hsm
    have k1 : upd H2 sm (.lst []) sm = some (.lst []) := upd_same
    generalize upd H2 sm (.lst []) = HA at c1 k1 ⊢
    refine ⟨Nat.zero_le _, fun kk hkk => ?_⟩
    have c2 := same1 (o := .lst []) hkk
    have k2 : upd HA kk (.lst []) kk = some (.lst []) := upd_same
    generalize upd HA kk (.lst []) = HB at c2 k2 ⊢
    refine ⟨by show 2 ≤ sizeLine; decide, fun tp htp => ?_⟩
    have c3 := same1 (o := .tup [V.ref sm, .ref kk]) htp
    have k3 : upd HB tp (.tup [V.ref sm, .ref kk]) tp = some (.tup [V.ref sm, .ref kk]) := upd_same
    generalize upd HB tp (.tup [V.ref sm, .ref kk]) = HC at c3 k3 ⊢
    refine ⟨tp, _, rfl, SqT.of k3, rfl, _, _, rfl, _, _, rfl, rfl, ?_⟩
    have nsl : sm ≠ l := (ne_of_none hlx hsm).symm
    have nsc : sm ≠ c := (ne_of_none hlc hsm).symm
    have nkl : kk ≠ l := (ne_of_none (c1 _ _ hlx) hkk).symm
    have nkc : kk ≠ c := (ne_of_none (c1 _ _ hlc) hkk).symm
    have nsk : sm ≠ kk := ne_of_none k1 hkk
    have c13 := (c1.trans c2).trans c3
    have T3 := T2.ext c13
    -- how many
    refine ⟨_, rfl, by show 12 ≤ sizeLine; decide, fun m hm => ?_⟩
    have nml : m ≠ l := (ne_of_none (c13 _ _ hlx) hm).symm
    refine ⟨l, c, m, _, i * 300, rfl, PN2.mono (c13.trans (same1 hm)) (Nat.le_refl _), by omega, upd_same, nml, by show 0 < 12; decide, by show 12 < 1000000; decide, fun j0 v H4 hj0 b4 p4 => ?_⟩
    obtain ⟨n, rfl, hn10⟩ : ∃ n : Nat, v = .int n ∧ n ≤ 10 := by
      have hx := List.mem_of_getElem? hj0
      simp only [List.mem_cons, List.not_mem_nil, or_false] at hx
      rcases hx with h | h | h | h | h | h | h | h | h | h | h | h
      · exact ⟨0, h, by omega⟩
      · exact ⟨1, h, by omega⟩
      · exact ⟨2, h, by omega⟩
      · exact ⟨3, h, by omega⟩
      · exact ⟨4, h, by omega⟩
      · exact ⟨5, h, by omega⟩
      · exact ⟨6, h, by omega⟩
      · exact ⟨7, h, by omega⟩
      · exact ⟨8, h, by omega⟩
      · exact ⟨8, h, by omega⟩
      · exact ⟨9, h, by omega⟩
      · exact ⟨10, h, by omega⟩
    have k4 : ∀ b o, HC b = some o → b ≠ l → H4 b = some o := fun b o hb hn => b4 _ _ (same1 hm _ _ hb) hn
    have T4 : Tabs Tb H4 := tabs_but T3 k4 (c13 _ _ hlx)
    have s4 := k4 _ _ (c3 _ _ (c2 _ _ k1)) nsl
    have q4 := k4 _ _ (c3 _ _ k2) nkl
    -- the values drawn
    refine ⟨fun σ' H' => ∃ v6 v7 v8 xs ks, σ' = [some (.ref ad), some (.ref l), some (.int (0 + (i : Nat))), some (.ref sm), some (.ref kk), some (.int n), v6, v7, v8, v9, v10, v11] ∧ Tabs Tb H' ∧ PenAt H' l c (i * 300 + 1 + 11 * n) ∧ H' sm = some (.lst xs) ∧ H' kk = some (.lst (ks.map V.bl)) ∧ xs.length = n ∧ Items a H' [l, sm, kk] xs ks, ?_, ?_⟩
    · refine ⟨_, rfl, (n : Nat), rfl, by omega, by omega, for_it (walk_range (lo := 0) (n := ((n : Nat) : Int).toNat)) (fun j σ' H' => ∃ v6 v7 v8 xs ks, σ' = [some (.ref ad), some (.ref l), some (.int (0 + (i : Nat))), some (.ref sm), some (.ref kk), some (.int n), v6, v7, v8, v9, v10, v11] ∧ Tabs Tb H' ∧ PenAt H' l c (i * 300 + 1 + 11 * j) ∧ H' sm = some (.lst xs) ∧ H' kk = some (.lst (ks.map V.bl)) ∧ xs.length = j ∧ Items a H' [l, sm, kk] xs ks)
        ⟨v6, v7, v8, [], [], rfl, T4, p4, s4, q4, rfl, rfl, fun i x k h => by simp at h⟩ (fun _ _ _ _ _ => trivial) (fun j x σ H5 H6 hj e y => ?_) (fun σ H6 e => ?_)⟩
      · obtain ⟨v6, v7, v8, xs, ks, rfl, T6, p6, s6, q6, hxj, it6⟩ := e
        obtain ⟨rfl, rfl⟩ := y
        have hjn : j < n := by omega
        obtain ⟨lx6, hlx6⟩ := p6.lst
        refine ⟨_, rfl, l, c, _, rfl, p6, by omega, fun w7 H7 b7 ow p7 => ?_⟩
        obtain ⟨lx7, hlx7⟩ := p7.lst
        refine ⟨_, rfl, l, c, 14, _, rfl, p7, by omega, by decide, by decide, fun r H8 r0 r1 b8 p8 => ⟨_, _, rfl, rfl, ?_⟩⟩
        have b68 := b7.trans b8
        have s8 := b68 _ _ s6 nsl
        have q8 := b68 _ _ q6 nkl
        obtain ⟨lx8, hlx8⟩ := p8.lst
        have hS6 : ∀ b ∈ [l, sm, kk], ∃ ys, H6 b = some (.lst ys) := fun b hb => by
          simp only [List.mem_cons, List.not_mem_nil, or_false] at hb
          rcases hb with rfl | rfl | rfl
          · exact ⟨_, hlx6⟩
          · exact ⟨_, s6⟩
          · exact ⟨_, q6⟩
        have hS8 : ∀ b ∈ [l, sm, kk], ∃ ys, H8 b = some (.lst ys) := fun b hb => by
          simp only [List.mem_cons, List.not_mem_nil, or_false] at hb
          rcases hb with rfl | rfl | rfl
          · exact ⟨_, hlx8⟩
          · exact ⟨_, s8⟩
          · exact ⟨_, q8⟩
        have it8 := it6.keep hS6 (ButS.but b68 (by simp))
        have T8 := tabs_but T6 b68 hlx6
        have lks : ks.length = j := by rw [← it6.1]; exact hxj
        have sz1 : xs.length < sizeLine := Nat.lt_of_le_of_lt (show xs.length ≤ 10 by omega) (by decide)
        have sz2 : (ks.map V.bl).length < sizeLine := Nat.lt_of_le_of_lt (show (ks.map V.bl).length ≤ 10 by rw [List.length_map]; omega) (by decide)
        refine ⟨fun σ' H' => ∃ x, σ' = [some (.ref ad), some (.ref l), some (.int (0 + (i : Nat))), some (.ref sm), some (.ref kk), some (.int n), some (.int (0 + (j : Nat))), some (.str w7), some (.bl (decide (r > 0))), v9, v10, v11] ∧ Tabs Tb H' ∧ PenAt H' l c (i * 300 + 1 + 11 * (j + 1)) ∧ H' sm = some (.lst (xs ++ [x])) ∧ H' kk = some (.lst (ks.map V.bl)) ∧ Items a H' [l, sm, kk] xs ks ∧ Item a H' [l, sm, kk] x (decide (r > 0)), ?_, ?_⟩
        · refine ⟨_, rfl, .inl ⟨rfl, _, SqL.of s8⟩, _, rfl, _, rfl, ite2 (fun h => ?_) (fun h => ?_)⟩
          · refine ⟨_, rfl, sm, _, _, rfl, rfl, s8, sz1, ?_⟩
            have bs : ButS [l, sm, kk] H8 (upd H8 sm (.lst (xs ++ [.str w7]))) := fun b o hb hn => by rw [upd_ne (fun z => hn (by rw [z]; simp))]; exact hb
            refine ⟨.str w7, rfl, tabs_put T8 s8, p8.put nsl nsc |>.mono (Same.refl _) (by omega), upd_same, by rw [upd_ne nsk.symm]; exact q8, it8.keep hS8 bs, .inl ⟨h, w7, rfl, ow⟩⟩
          · refine ⟨_, rfl, _, rfl, l, c, w7, _, rfl, p8, by omega, ow, fun x H9 b9 od fr p9 => ?_⟩
            have s9 := b9 _ _ s8 nsl
            have q9 := b9 _ _ q8 nkl
            obtain ⟨lx9, hlx9⟩ := p9.lst
            have hS9 : ∀ b ∈ [l, sm, kk], ∃ ys, H9 b = some (.lst ys) := fun b hb => by
              simp only [List.mem_cons, List.not_mem_nil, or_false] at hb
              rcases hb with rfl | rfl | rfl
              · exact ⟨_, hlx9⟩
              · exact ⟨_, s9⟩
              · exact ⟨_, q9⟩
            have ap : Apart H9 [l, sm, kk] x := fun b ys e hb hm => by
              have z := fr b ys e hb
              obtain ⟨zs, hz⟩ := hS8 b hm
              rw [hz] at z
              cases z
            have it9 := it8.keep hS8 (ButS.but b9 (by simp))
            refine ⟨sm, _, _, rfl, rfl, s9, sz1, ?_⟩
            have bs : ButS [l, sm, kk] H9 (upd H9 sm (.lst (xs ++ [x]))) := fun b o hb hn => by rw [upd_ne (fun z => hn (by rw [z]; simp))]; exact hb
            have i9 : Item a H9 [l, sm, kk] x (decide (r > 0)) := .inr ⟨by simpa using h, od, ap⟩
            refine ⟨x, rfl, tabs_put (tabs_but T8 b9 hlx8) s9, p9.put nsl nsc |>.mono (Same.refl _) (by omega), upd_same, by rw [upd_ne nsk.symm]; exact q9, it9.keep hS9 bs, i9.keep hS9 bs⟩
        · rintro σ9 H9 ⟨x, rfl, T9, p9, s9, q9, it9, i9⟩
          obtain ⟨lx9, hlx9⟩ := p9.lst
          have hS9 : ∀ b ∈ [l, sm, kk], ∃ ys, H9 b = some (.lst ys) := fun b hb => by
            simp only [List.mem_cons, List.not_mem_nil, or_false] at hb
            rcases hb with rfl | rfl | rfl
            · exact ⟨_, hlx9⟩
            · exact ⟨_, s9⟩
            · exact ⟨_, q9⟩
          have bs : ButS [l, sm, kk] H9 (upd H9 kk (.lst (ks.map V.bl ++ [.bl (decide (r > 0))]))) := fun b o hb hn => by rw [upd_ne (fun z => hn (by rw [z]; simp))]; exact hb
          refine ⟨_, rfl, .inl ⟨rfl, _, SqL.of q9⟩, _, rfl, kk, _, _, rfl, rfl, q9, sz2, ?_⟩
          refine ⟨_, _, _, xs ++ [x], ks ++ [decide (r > 0)], rfl, tabs_put T9 q9, p9.put nkl nkc, by rw [upd_ne nsk]; exact s9, by rw [upd_same, List.map_append]; rfl, by rw [List.length_append, hxj]; rfl, (it9.snoc i9).keep hS9 bs⟩
      · obtain ⟨v6, v7, v8, xs, ks, rfl, T6, p6, s6, q6, hxj, it6⟩ := e
        rw [Int.toNat_natCast] at p6 hxj
        exact ⟨v6, v7, v8, xs, ks, rfl, T6, p6, s6, q6, hxj, it6⟩
    rintro σ5 H5 ⟨v6, v7, v8, xs, ks, rfl, T5, p5, s5, q5, hxn, it5⟩
    have sp := it5.split
    -- what is due
    refine ⟨fun σ' H' => ∃ dv, σ' = [some (.ref ad), some (.ref l), some (.int (0 + (i : Nat))), some (.ref sm), some (.ref kk), some (.int n), v6, v7, v8, some dv, v10, v11] ∧ Same H5 H' ∧
      ((∃ ns, Good xs ks ns ∧ ns.length ≤ 8 ∧ dv = .non) ∨ ∃ pd tag v, dv = .ref pd ∧ H' pd = some (.tup [.str tag, v]) ∧ ((∃ ns, Good xs ks ns ∧ 8 < ns.length ∧ tag = ("many" : Str) ∧ v = .int 8) ∨ ∃ ns, Bad xs ks ns v ∧ Odd a H5 v ∧ tag = ("name" : Str))), ?_, ?_⟩
    · refine ⟨_, rfl, _, rfl, sm, kk, xs, ks, rfl, s5, q5, by omega, ?_⟩
      rcases sp with ⟨ns, g⟩ | ⟨ns, x, b, od, ap⟩
      · exact .inl ⟨ns, g, fun h8 H' c => ⟨_, rfl, c, .inl ⟨ns, g, h8, rfl⟩⟩, fun h8 p H' c _ hp => ⟨_, rfl, c, .inr ⟨p, _, _, rfl, hp, .inl ⟨ns, g, h8, rfl, rfl⟩⟩⟩⟩
      · exact .inr ⟨ns, x, b, fun p H' c _ hp => ⟨_, rfl, c, .inr ⟨p, _, _, rfl, hp, .inr ⟨ns, b, od, rfl⟩⟩⟩⟩
    rintro σ6 H6 ⟨dv, rfl, c6, hdv⟩
    have T6 := T5.ext c6
    have p6 := p5.mono c6 (Nat.le_refl _)
    have s6 := c6 _ _ s5
    -- what is heard
    refine ⟨fun σ' H' => ∃ fv, σ' = [some (.ref ad), some (.ref l), some (.int (0 + (i : Nat))), some (.ref sm), some (.ref kk), some (.int n), v6, v7, v8, some dv, some fv, v11] ∧ ExtN H6 H' ∧ Tabs Tb H' ∧
      ((∃ ns fnd p, Good xs ks ns ∧ ns.length ≤ 8 ∧ dv = .non ∧ fv = .ref fnd ∧ H' fnd = some (.lst [.ref p]) ∧ PlA a.C H' p ns) ∨
        ∃ pd pf tag v, dv = .ref pd ∧ fv = .ref pf ∧ H' pd = some (.tup [.str tag, v]) ∧ H' pf = some (.tup [.str tag, v]) ∧ (v = .int 8 ∨ Th a H' v) ∧ (reprText tag).length ≤ 100), ?_, ?_⟩
    · refine ⟨T6, fun H7 e7 T7 K1 hK1 => ⟨_, rfl, sm, xs, rfl, extn_lst e7 s6, by omega, T7, fun H8 e8 T8 => ?_⟩⟩
      have e7 : ExtN H6 H7 := e7
      have e68 := e7.trans e8
      rcases hdv with ⟨ns, g, h8, rfl⟩ | ⟨pd, tag, v, rfl, hpd, ⟨ns, g, h8, rfl, rfl⟩ | ⟨ns, ⟨rest, ks', ex, ek, el, hn⟩, od, rfl⟩⟩
      · refine .inl ⟨ns, g.1, ⟨h8, g.2.2⟩, fun p H9 c9 Pp => hK1 _ _ fun L HZ cZ nL hL => ?_⟩
        exact ⟨_, rfl, e68.trans (ExtN.of (c9.trans cZ)), T8.ext (c9.trans cZ), .inl ⟨ns, L, p, g, h8, rfl, rfl, hL, Pp.mono cZ⟩⟩
      · refine .inr (.inr ⟨ns, g.1, h8, by have := g.1; rw [this, List.length_map] at hxn; omega, g.2.2, fun d H9 c9 hd => ⟨"many", .int 8, ⟨.inr (.inl ⟨d, rfl, rfl, hd, rfl⟩)⟩, fun p HZ cZ nL hL => ?_⟩⟩)
        have eZ := e68.trans (ExtN.of (c9.trans cZ))
        exact ⟨_, rfl, eZ, T8.ext (c9.trans cZ), .inr ⟨pd, p, _, _, rfl, rfl, extn_tup eZ hpd, hL, .inl rfl, by decide +kernel⟩⟩
      · have od8 : Odd a H8 v := ⟨(od.1.same c6).extN e68, od.2⟩
        refine .inr (.inl ⟨ns, v, rest, ex, by omega, hn, od8.noNm W ty, fun d H9 c9 hd => ⟨"name", v, ⟨.inl ⟨d, rfl, rfl, hd, rfl⟩⟩, fun p HZ cZ nL hL => ?_⟩⟩)
        have eZ := e68.trans (ExtN.of (c9.trans cZ))
        exact ⟨_, rfl, eZ, T8.ext (c9.trans cZ), .inr ⟨pd, p, _, _, rfl, rfl, extn_tup eZ hpd, hL, .inr (od8.1.same (c9.trans cZ)), by decide +kernel⟩⟩
    rintro σ7 H7 ⟨fv, rfl, e7, T7, hfv⟩
    have p7 := p6.extN e7 (Nat.le_refl _)
    have s7 := extn_lst e7 s6
    obtain ⟨lx7, hlx7⟩ := p7.lst
    rcases hfv with ⟨ns, fnd, p, g, h8, rfl, rfl, hf, Pp⟩ | ⟨pd, pf, tag, v, rfl, rfl, hpd, hpf, hv, htag⟩
    · have hn : Nms ns := ⟨h8, g.2.2⟩
      have sm7 : H7 sm = some (.lst (ns.map V.str)) := by rw [← g.1]; exact s7
      refine ⟨_, rfl, rfl, _, rfl, iteT ?_⟩
      refine ⟨_, rfl, _, _, _, _, true, rfl, .ty "list", .base (.lst hf), kit_ty (by decide +kernel), true, rfl, iteF ?_⟩
      refine ⟨_, rfl, fnd, _, _, _, rfl, rfl, SqL.of hf, rfl, _, rfl, p, sm, ns, rfl, Pp, hn, sm7, fun H8 c8 => ⟨_, rfl, iteF ?_⟩⟩
      have f8 := c8 _ _ hf
      have P8 := Pp.mono c8
      have nfl : fnd ≠ l := fun z => by
        obtain ⟨cells, idx, gg, x1, _⟩ := p7.ex
        rw [z, x1] at hf
        cases hf
      have ens : ns.length = n := by rw [← hxn, g.1, List.length_map]
      -- a value that is no number of names
      refine ⟨fun σ' H' => ∃ ov, σ' = [some (.ref ad), some (.ref l), some (.int (0 + (i : Nat))), some (.ref sm), some (.ref kk), some (.int n), v6, v7, v8, some .non, some (.ref fnd), some ov] ∧ Tabs Tb H' ∧ PenAt H' l c (i * 300 + 2 + 11 * n) ∧ Od a H' ns ov ∧ H' fnd = some (.lst [.ref p]) ∧ PlA a.C H' p ns ∧ H' sm = some (.lst (ns.map V.str)), ?_, ?_⟩
      · refine ⟨_, rfl, _, rfl, _, rfl, _, _, rfl, rfl, _, _, rfl, rfl, ⟨by decide, by decide, by decide⟩, by show 1 ≤ sizeLine; decide, fun t9 ht9 => ?_⟩
        have c9 := same1 (o := .tup [V.int 0]) ht9
        have k9 : upd H8 t9 (.tup [V.int 0]) t9 = some (.tup [V.int 0]) := upd_same
        generalize upd H8 t9 (.tup [V.int 0]) = H9 at c9 k9 ⊢
        refine ⟨Nat.zero_le _, fun t10 ht10 => ?_⟩
        have c10 := same1 (o := .lst []) ht10
        have k10 : upd H9 t10 (.lst []) t10 = some (.lst []) := upd_same
        generalize upd H9 t10 (.lst []) = H10 at c10 k10 ⊢
        have c810 := c9.trans c10
        refine ⟨_, rfl, fnd, _, _, _, rfl, rfl, SqL.of (c810 _ _ f8), rfl, by show 9 ≤ sizeLine; decide, fun m9 hm9 => ?_⟩
        have l8 := c8 _ _ hlx7
        have l10 := c810 _ _ l8
        have nm9 : m9 ≠ l := (ne_of_none l10 hm9).symm
        have c11 := c810.trans (same1 (o := .lst [V.int (-1), .int ((n : Nat) + 1), .non, .bl true, .str "0", .int ((10 : Int) ^ (40 : Int).toNat), .ref t9, .ref t10, .ref p]) hm9)
        refine ⟨l, c, m9, _, _, rfl, p7.mono (c8.trans c11) (Nat.le_refl _), by omega, upd_same, nm9, by show 0 < 9; decide, by show 9 < 1000000; decide, fun j9 ov H11 hj9 b11 p11 => ?_⟩
        have k11 : ∀ b o, H10 b = some o → b ≠ l → H11 b = some o := fun b o hb hne => b11 _ _ (same1 hm9 _ _ hb) hne
        have n10 : t10 ≠ l := (ne_of_none (c9 _ _ l8) ht10).symm
        obtain ⟨dp, up, gp, gp2⟩ := id P8
        have P11 : PlA a.C H11 p ns := ⟨dp, up, k11 _ _ (c810 _ _ gp) (ne_of gp l8 (by intro z; cases z)), k11 _ _ (c810 _ _ gp2) (ne_of gp2 l8 (by intro z; cases z))⟩
        refine ⟨ov, rfl, tabs_but ((T7.ext c8).ext c810) k11 l10, p11.mono (Same.refl _) (by omega), ?_, k11 _ _ (c810 _ _ f8) nfl, P11, k11 _ _ (c810 _ _ (c8 _ _ sm7)) nsl⟩
        have hx := List.mem_of_getElem? hj9
        simp only [List.mem_cons, List.not_mem_nil, or_false] at hx
        have sml : ∀ q : Fin 12, ((q.val : Nat) : Int).natAbs.log2 < 1920 ∧ ((toString ((q.val : Nat) : Int) : String) : Str).length ≤ 100 := by decide +kernel
        rcases hx with h | h | h | h | h | h | h | h | h
        · rw [h]; exact .int _ (by decide +kernel) (by decide +kernel) (by omega)
        · rw [h]
          have z := sml ⟨n + 1, by omega⟩
          exact .int _ z.1 z.2 (by omega)
        · rw [h]; exact .non
        · rw [h]; exact .bl true
        · rw [h]; exact .str
        · rw [h]
          have big : ((10 : Int) ^ (40 : Int).toNat) > 8 := by decide +kernel
          exact .int _ (by decide +kernel) (by decide +kernel) (by omega)
        · rw [h]; exact .tup t9 (k11 _ _ (c10 _ _ k9) (ne_of k9 (c9 _ _ l8) (by intro z; cases z)))
        · rw [h]; exact .lst t10 (k11 _ _ k10 n10)
        · rw [h]; exact .plc p ns P11 hn
      rintro σ8 H12 ⟨ov, rfl, T12, p12, od12, f12, P12, s12⟩
      refine ⟨T12, fun H13 e13 T13 K1 hK1 => ?_⟩
      have e13 : ExtN H12 H13 := e13
      have f13 := extn_lst e13 f12
      have P13 := P12.extN e13
      obtain ⟨dp, up, gp, gp2⟩ := id P13
      refine ⟨_, rfl, fnd, _, _, _, rfl, rfl, SqL.of f13, rfl, p, dp, _, rfl, gp, pf_no _ (by decide +kernel), _, rfl, p, ns, ov, rfl, P13, (od12.extN e13).badK W mi mb, fun d H14 c14 hd => ⟨"place", ov, ⟨.inr (.inr ⟨d, rfl, rfl, hd, rfl⟩)⟩, fun pp H15 c15 n15 h15 => ?_⟩⟩
      have eS := c14.trans c15
      have od15 := od12.extN (e13.trans (ExtN.of eS))
      obtain ⟨R, hR⟩ := rep_tag (X := (cxOf CX0 P w K mg base Nlaw "law" (defScope sLaw) f (.ref c0) A outer s H E).nox) (tag := "place") (by decide +kernel) (Od.rd W od15)
      refine nil_ok (hR pp H15 _ (Same.refl _) (od15.ne_pair h15) h15 fun H16 c16 => ?_)
      refine ⟨_, rfl, by show 2 ≤ sizeLine; decide, fun q1 hq1 => ?_⟩
      have c17 := same1 (o := .tup [V.str "place", ov]) hq1
      have k17 : upd H16 q1 (.tup [V.str "place", ov]) q1 = some (.tup [V.str "place", ov]) := upd_same
      generalize upd H16 q1 (.tup [V.str "place", ov]) = H17 at c17 k17 ⊢
      have od17 := (od15.extN (ExtN.of c16)).extN (ExtN.of c17)
      refine nil_ok (hR q1 H17 _ (c16.trans c17) (od17.ne_pair k17) k17 fun H18 c18 => ⟨rfl, _, rfl, iteNS rfl ?_⟩)
      have cZ := ((eS.trans c16).trans c17).trans c18
      have eZ := e13.trans (ExtN.of cZ)
      refine ⟨_, rfl, fnd, _, _, _, rfl, rfl, SqL.of (cZ _ _ f13), rfl, _, rfl, p, sm, ns, rfl, P13.mono cZ, hn, extn_lst eZ s12, fun H19 c19 => ⟨_, rfl, iteF ?_⟩⟩
      exact ⟨⟨_, _, _, _, _, _, _, _, _, _, rfl⟩, (T13.ext cZ).ext c19, (p12.extN (eZ.trans (ExtN.of c19)) (by omega))⟩
    · have rd : Rd (cxOf CX0 P w K mg base Nlaw "law" (defScope sLaw) f (.ref c0) A outer s H E).nox H7 v := by
        rcases hv with rfl | h
        · exact ⟨[], _, RU.int 8 (by decide +kernel), by decide +kernel, by simp⟩
        · exact Th.rd (X := (cxOf CX0 P w K mg base Nlaw "law" (defScope sLaw) f (.ref c0) A outer s H E).nox) W h
      have ne : ∀ {q : Addr}, H7 q = some (.tup [.str tag, v]) → v ≠ .ref q := fun hq => by
        rcases hv with rfl | h
        · intro z
          cases z
        · exact h.ne_pair hq
      obtain ⟨R, hR⟩ := rep_tag htag rd
      refine ⟨_, rfl, rfl, _, rfl, iteF ⟨_, rfl, nil_ok (hR pf H7 _ (Same.refl _) (ne hpf) hpf fun H8 c8 => ⟨_, rfl, nil_ok (hR pd H8 _ c8 (ne hpd) (c8 _ _ hpd) fun H9 c9 => ⟨rfl, _, rfl, iteNS rfl ?_⟩)⟩)⟩⟩
      have c89 := c8.trans c9
      exact ⟨⟨_, _, _, _, _, _, _, _, _, _, rfl⟩, T7.ext c89, p7.mono c89 (by omega)⟩
  · obtain ⟨⟨v2, v3, v4, v5, v6, v7, v8, v9, v10, v11, rfl⟩, T2, PN2⟩ := e
    obtain ⟨lx, hlx⟩ := PN2.lst
    have ok1 : okN ("a" : Str) = true := by decide +kernel
    have ok2 : okN ("b" : Str) = true := by decide +kernel
    have ok3 : okN ("c7" : Str) = true := by decide +kernel
    refine ⟨_, rfl, l, c, "a", _, rfl, PN2, by decide, ok1, fun x HX bx ox fx px => ?_⟩
    obtain ⟨lx1, hlx1⟩ := px.lst
    refine ⟨_, rfl, l, c, "b", _, rfl, px, by decide, ok2, fun y HY by_ oy fy py => ?_⟩
    obtain ⟨lx2, hlx2⟩ := py.lst
    refine ⟨_, rfl, l, c, "c7", _, rfl, py, by decide, ok3, fun z HZ bz oz fz pz => ?_⟩
    have axl : Apart HX [l] x := fun b ys e hb hm => by
      have q := fx b ys e hb
      rw [List.mem_singleton.mp hm, hlx] at q
      cases q
    have ayl : Apart HY [l] y := fun b ys e hb hm => by
      have q := fy b ys e hb
      rw [List.mem_singleton.mp hm, hlx1] at q
      cases q
    have s1 : ∀ b ∈ [l], ∃ ys, HX b = some (.lst ys) := fun b hb => by rw [List.mem_singleton.mp hb]; exact ⟨_, hlx1⟩
    have s2 : ∀ b ∈ [l], ∃ ys, HY b = some (.lst ys) := fun b hb => by rw [List.mem_singleton.mp hb]; exact ⟨_, hlx2⟩
    have u1 : ButS [l] HX HY := ButS.but by_ (by simp)
    have u2 : ButS [l] HY HZ := ButS.but bz (by simp)
    have tx := (ox.1.keep axl s1 u1).keep (axl.keep ox.1 s1 u1) s2 u2
    have ty' := oy.1.keep ayl s2 u2
    refine ⟨by show 3 ≤ sizeLine; decide, fun m hm => ?_⟩
    have cm := same1 (o := .lst [x, y, z]) hm
    have km : upd HZ m (.lst [x, y, z]) m = some (.lst [x, y, z]) := upd_same
    generalize upd HZ m (.lst [x, y, z]) = H3 at cm km ⊢
    have tx := tx.same cm
    have ty' := ty'.same cm
    have tz := oz.1.same cm
    refine ⟨_, rfl, m, _, _, _, rfl, rfl, SqL.of km, rfl, _, rfl, m, _, _, _, rfl, rfl, SqL.of km, rfl, _, rfl, m, _, _, _, rfl, rfl, SqL.of km, rfl, x, y, z, rfl, tx, ty', tz, fun H4 c4 => ⟨_, rfl, iteF ?_⟩⟩
    have k4 := c4 _ _ km
    refine ⟨_, rfl, m, _, _, _, rfl, rfl, SqL.of k4, rfl, _, rfl, m, _, _, _, rfl, rfl, SqL.of k4, rfl, _, rfl, m, _, _, _, rfl, rfl, SqL.of k4, rfl, z, x, y, rfl, tz.same c4, tx.same c4, ty'.same c4, fun H5 c5 => ⟨_, rfl, iteF ?_⟩⟩
    obtain ⟨um, cv⟩ := W.U.most
    refine ⟨a.C, a.mc, .int 8, um, rfl, W.U.rd, cv, rfl, _, rfl, iteT ?_⟩
    refine mk0_ok fun p H6 c6 Pp => ?_
    refine ⟨Nat.zero_le _, fun e0 he0 => ?_⟩
    have c7 := same1 (o := .lst []) he0
    exact ⟨p, e0, [], rfl, Pp.mono c7, ⟨by decide, by simp⟩, upd_same, fun H8 c8 => q H8⟩
end
end Pl

namespace Pl
open PySem PySem.Spec PyProof.Rows L2 Own TL RZ LamX
/-! ### the errors' classes, as they stand -/
abbrev bmE (CT : Addr) : List Value := [.ref CT, .type "ValueError", .type "Exception", .type "BaseException", .type "object"]
def CoAt (K : PySem.W.Frag) (C CT : Addr) : Prop := ∃ (nm qn : Str) (N : Addr) (bs : List Value) (sn : List Str) (sb : List Value) (ab : Bool) (co : Option Bool) (dd : Option Addr) (u0 u1 u2 u3 u5 : Option Value),
  K.lookup C = some (excClassObj nm qn C N bs (bmE CT) true sn sb ab co dd u0 u1 u2 u3 u5 "ValueError.__new__")
def FnAt (K : PySem.W.Frag) (qual : Str) (st : Stmt) (f : Addr) : Prop := ∃ (oc kV dc pm cd ct : Value) (od an : Option Addr) (sl : Array (Option Value)),
  K.lookup f = some ⟨oc, od, .func (PySem.W.fnOf "__init__" qual (defArgs st) (defBody st) (defScope st) .none kV dc pm an cd ct), sl⟩ ∧ PySem.W.codeIn K cd qual = true ∧ PySem.W.keepIn K (.ref f) = true
theorem CoAt.mk {K : PySem.W.Frag} {C CT : Addr} {nm qn : Str} {N : Addr} {bs : List Value} {sn : List Str} {sb : List Value} {ab : Bool} {co : Option Bool} {dd : Option Addr} {u0 u1 u2 u3 u5 : Option Value}
    (h : K.lookup C = some (excClassObj nm qn C N bs [.ref CT, .type "ValueError", .type "Exception", .type "BaseException", .type "object"] true sn sb ab co dd u0 u1 u2 u3 u5 "ValueError.__new__")) : CoAt K C CT := ⟨nm, qn, N, bs, sn, sb, ab, co, dd, u0, u1, u2, u3, u5, h⟩
theorem FnAt.mk {K : PySem.W.Frag} {qual : Str} {st : Stmt} {f : Addr} {oc kV dc pm cd ct : Value} {od an : Option Addr} {sl : Array (Option Value)}
    (h1 : K.lookup f = some ⟨oc, od, .func (PySem.W.fnOf "__init__" qual (defArgs st) (defBody st) (defScope st) .none kV dc pm an cd ct), sl⟩) (h2 : PySem.W.codeIn K cd qual = true) (h3 : PySem.W.keepIn K (.ref f) = true) : FnAt K qual st f :=
  ⟨oc, kV, dc, pm, cd, ct, od, an, sl, h1, h2, h3⟩
section
variable {K : PySem.W.Frag} {C D CT : Addr}
theorem mro_of (h : CoAt K C CT) (x : Value) : PySem.W.mroIn K C x = some ((Value.ref C :: bmE CT).contains x) := by
  obtain ⟨nm, qn, N, bs, sn, sb, ab, co, dd, u0, u1, u2, u3, u5, e⟩ := h
  unfold PySem.W.mroIn PySem.W.clsIn
  rw [e]
  rfl
theorem refsE : PySem.HandSPX.refsVE (bmE CT) = true := rfl
theorem mro_obj (h : CoAt K C CT) : PySem.W.mroIn K C (.type "object") = some true := by
  rw [mro_of h]
  rfl
theorem mro_other (h : CoAt K C CT) (n1 : D ≠ C) (n2 : D ≠ CT) : PySem.W.mroIn K C (.ref D) = some false := by
  rw [mro_of h]
  congr 1
  rw [Bool.eq_false_iff]
  intro z
  rw [List.contains_iff_mem] at z
  unfold bmE at z
  simp only [List.mem_cons, List.not_mem_nil, or_false] at z
  rcases z with z | z | z | z | z | z
  · exact n1 (Value.ref.inj z)
  · exact n2 (Value.ref.inj z)
  · cases z
  · cases z
  · cases z
  · cases z
theorem mro_top (h : CoAt K C CT) : PySem.W.mroIn K C (.ref CT) = some true := by
  rw [mro_of h]
  congr 1
  rw [List.contains_iff_mem]
  unfold bmE
  simp
theorem mro_self (h : CoAt K C CT) : PySem.W.mroIn K C (.ref C) = some true := by
  rw [mro_of h]
  congr 1
  rw [List.contains_iff_mem]
  simp
theorem kit_eq (h : CoAt K C CT) (hD : CoAt K D CT) (ty : PySem.W.typeIn K (.ref D) = some (.type "type")) (n2 : D ≠ CT) : PySem.W.kitOne K (.ref C) (.ref D) = some (decide (C = D)) := by
  by_cases e : C = D
  · subst e
    rw [decide_eq_true rfl]
    exact kit_self ty (mro_self h)
  · rw [decide_eq_false e]
    exact kit_other e ty (mro_obj hD) (mro_other h (fun z => e z.symm) n2)
theorem kit_top (h : CoAt K C CT) (ty : PySem.W.typeIn K (.ref CT) = some (.type "type")) (mo : PySem.W.mroIn K CT (.type "object") = some true) (n : C ≠ CT) : PySem.W.kitOne K (.ref C) (.ref CT) = some true := kit_other n ty mo (mro_top h)
theorem kit_val (h : CoAt K C CT) : PySem.W.kitOne K (.ref C) (.type "ValueError") = some true := kit_Cty (by decide +kernel) (by rw [mro_of h]; rfl)
end
/-- the class of an error, its facts -/
structure CFa (K : PySem.W.Frag) (C CT : Addr) : Prop where
  co : CoAt K C CT
  ty : PySem.W.typeIn K (.ref C) = some (.type "type")
  kc : PySem.W.keepIn K (.ref C) = true
  ga : PySem.W.findIn K (.ref C) "__getattribute__" = some (some (.builtin "BaseException.__getattribute__"))
  gg : PySem.W.findIn K (.ref C) "__getattr__" = some none
  sx : PySem.W.subIn K (.ref C) (.type "BaseException") = some true
  hd : PySem.W.hasDictIn K C = true
  ha : PySem.W.findIn K (.ref C) "__class__" = some (some (.builtin "object.__class__"))
  sa : PySem.W.findIn K (.ref C) "__setattr__" = some (some (.builtin "object.__setattr__"))
section
variable {P : Program} {w : World} {K : PySem.W.Frag} {mg : Str → Option Value} {base : Heap} {C CT fI : Addr}
theorem CFa.xf (h : CFa K C CT) : XfC K C := ⟨h.ga, h.gg, h.sx, h.hd⟩
theorem CFa.xc (h : CFa K C CT) (hn : PySem.W.specialIn K (.builtin "object.__class__") "__get__" = some (some (.builtin "getset_descriptor.__get__"))) (ht : PySem.W.takesIn K (.builtin "object.__class__") = some true) : ExcC K C := ⟨h.ga, h.gg, h.sx, h.hd, h.ha, hn, ht, mro_obj h.co⟩
theorem CFa.oex (h : CFa K C CT) : OexC K C := by
  obtain ⟨nm, qn, N, bs, sn, sb, ab, co, dd, u0, u1, u2, u3, u5, e⟩ := h.co
  exact ⟨⟨nm, qn, N, bs, bmE CT, sn, sb, ab, co, dd, u0, u1, u2, u3, u5, e, refsE⟩, h.sa, h.sx, h.ty, h.kc⟩
theorem mkE1 {x qual f : Str} {st : Stmt} {p1 p2 p3 p4 : Pos} (h : CFa K C CT) (mgC : mg x = some (.ref C)) (ini : PySem.W.findIn K (.ref C) "__init__" = some (some (.ref fI))) (tyI : PySem.W.typeIn K (.ref fI) = some (.type "function")) (fa : FnAt K qual st fI)
    (nf : PySem.W.findIn K (.ref C) f = some none) (sc : FnScope ["self", f] ["self", f] (defScope st)) (hb : defBody st = [.Assign [.Attribute (.Name "self" p1) f p2] (.Name f p3) p4]) (hd1 : (f == ("__debug__" : Str)) = false) (hd2 : (f == ("__classdict__" : Str)) = false)
    (b1 : ∀ (kV doc pm : Value) (an : Option Addr) (cdv ct : Value) (u v : Value), bindArgs (PySem.W.fnOf "__init__" qual (defArgs st) (defBody st) (defScope st) .none kV doc pm an cdv ct) ⟨[u, v], []⟩ = pure [(("self" : Str), u), (f, v)])
    (b2 : ∀ (kV doc pm : Value) (an : Option Addr) (cdv ct : Value) (u v : Value), bindArgs (PySem.W.fnOf "__init__" qual (defArgs st) (defBody st) (defScope st) .none kV doc pm an cdv ct) ⟨[u], [(f, v)]⟩ = pure [(("self" : Str), u), (f, v)]) :
    ∃ fd, Er K mg x qual f st C fI fd ∧ MkE P w K mg base x [f] [f] same (spErr C f) C fI fd := by
  obtain ⟨oc, kV, dc, pm, cd, ct, od, an, sl, l, c, k⟩ := fa
  have F := fun_mk (st := st) l c k
  have bi : L2.Binds K (PySem.W.fnOf "__init__" qual (defArgs st) (defBody st) (defScope st) .none kV dc pm an cd ct) ["self", f] [] := F.binds (ps := ["self", f]) fun kV' doc' pm' an' cdv' ct' us hl => by
    match us, hl with
    | [u, v], _ => exact b1 kV' doc' pm' an' cdv' ct' u v
  have E : Er K mg x qual f st C fI _ := ⟨h.oex, mgC, ini, tyI, F, bi, nf, h.xf⟩
  exact ⟨_, E, ⟨h.oex, mgC, ini, tyI, ok_err E sc hb hd1 hd2, bi, fun s' a ws hl => by
    match ws, hl with
    | [v], _ => exact .of_eq (b2 kV dc pm an cd ct (.ref a) v)⟩⟩
end
abbrev sIni17 : Stmt := inClass (top 20) 0
abbrev sIni18 : Stmt := inClass (top 21) 0
abbrev sIni22 : Stmt := inClass (top 25) 0
section
variable {P : Program} {w : World} {K : PySem.W.Frag} {mg : Str → Option Value} {base : Heap} {C CT fI : Addr}
theorem exA {H : Hp} {dx a : Addr} {fs : List (Str × V)} : upd (upd H dx (exd dx fs)) a (exo a C (some dx)) a = some (exo a C (some dx)) := upd_same
theorem sc18 : FnScope ["self", "number", "ahead"] ["self", "number", "ahead"] (defScope sIni18) := ⟨rfl, rfl, rfl, by decide +kernel, rfl, by decide +kernel, by decide +kernel⟩
theorem sc22 : FnScope ["self", "line", "word"] ["self", "line", "word"] (defScope sIni22) := ⟨rfl, rfl, rfl, by decide +kernel, rfl, by decide +kernel, by decide +kernel⟩
theorem sc17 : FnScope ["self", "place", "column", "heard"] ["self", "place", "column", "heard"] (defScope sIni17) := ⟨rfl, rfl, rfl, by decide +kernel, rfl, by decide +kernel, by decide +kernel⟩
theorem ok18 {fd : FuncData} (h : CFa K C CT) (F : Fun K "__init__" "TooEarly.__init__" sIni18 fI fd) (n1 : PySem.W.findIn K (.ref C) "number" = some none) (n2 : PySem.W.findIn K (.ref C) "ahead" = some none) : FnOk P w K mg base CX0 1 fI fd ["self", "number", "ahead"] (spErr2 C "number" "ahead") := by
  refine F.ok sc18 (fun vs H Q E z => ?_) (fun cdv A outer s H vs Q E hr z => ?_)
  · obtain ⟨a, v, u, rfl, _⟩ := z
    rfl
  · obtain ⟨a, v, u, rfl, ha, k⟩ := z
    refine ⟨_, pss_cons (ps_ost (pv 0) (pv 1)) (pss_one (ps_ost (pv 0) (pv 2))), ?_⟩
    refine ⟨v, rfl, .ref a, rfl, a, C, rfl, h.oex, n1, .inl ⟨ha, fun dx hdx hne => ?_⟩⟩
    exact ⟨u, rfl, .ref a, rfl, a, C, rfl, h.oex, n2, .inr ⟨dx, _, upd_same, by rw [upd_ne hne]; exact upd_same, by show 1 ≤ 900; decide, k dx hdx hne⟩⟩
theorem ok22 {fd : FuncData} (h : CFa K C CT) (F : Fun K "__init__" "BadText.__init__" sIni22 fI fd) (n1 : PySem.W.findIn K (.ref C) "line" = some none) (n2 : PySem.W.findIn K (.ref C) "word" = some none) : FnOk P w K mg base CX0 1 fI fd ["self", "line", "word"] (spErr2 C "line" "word") := by
  refine F.ok sc22 (fun vs H Q E z => ?_) (fun cdv A outer s H vs Q E hr z => ?_)
  · obtain ⟨a, v, u, rfl, _⟩ := z
    rfl
  · obtain ⟨a, v, u, rfl, ha, k⟩ := z
    refine ⟨_, pss_cons (ps_ost (pv 0) (pv 1)) (pss_one (ps_ost (pv 0) (pv 2))), ?_⟩
    refine ⟨v, rfl, .ref a, rfl, a, C, rfl, h.oex, n1, .inl ⟨ha, fun dx hdx hne => ?_⟩⟩
    exact ⟨u, rfl, .ref a, rfl, a, C, rfl, h.oex, n2, .inr ⟨dx, _, upd_same, by rw [upd_ne hne]; exact upd_same, by show 1 ≤ 900; decide, k dx hdx hne⟩⟩
theorem ok17 {fd : FuncData} (h : CFa K C CT) (F : Fun K "__init__" "ThirdAnswer.__init__" sIni17 fI fd) (n1 : PySem.W.findIn K (.ref C) "place" = some none) (n2 : PySem.W.findIn K (.ref C) "column" = some none) (n3 : PySem.W.findIn K (.ref C) "heard" = some none) :
    FnOk P w K mg base CX0 1 fI fd ["self", "place", "column", "heard"] (spErr3 C "place" "column" "heard") := by
  refine F.ok sc17 (fun vs H Q E z => ?_) (fun cdv A outer s H vs Q E hr z => ?_)
  · obtain ⟨a, v, u, y, rfl, _⟩ := z
    rfl
  · obtain ⟨a, v, u, y, rfl, ha, k⟩ := z
    refine ⟨_, pss_cons (ps_ost (pv 0) (pv 1)) (pss_cons (ps_ost (pv 0) (pv 2)) (pss_one (ps_ost (pv 0) (pv 3)))), ?_⟩
    refine ⟨v, rfl, .ref a, rfl, a, C, rfl, h.oex, n1, .inl ⟨ha, fun dx hdx hne => ?_⟩⟩
    refine ⟨u, rfl, .ref a, rfl, a, C, rfl, h.oex, n2, .inr ⟨dx, _, upd_same, by rw [upd_ne hne]; exact upd_same, by show 1 ≤ 900; decide, ?_⟩⟩
    exact ⟨y, rfl, .ref a, rfl, a, C, rfl, h.oex, n3, .inr ⟨dx, _, by rw [upd_ne hne.symm]; exact upd_same, upd_same, by show 2 ≤ 900; decide, k dx hdx hne⟩⟩
theorem mkE18 (h : CFa K C CT) (mgC : mg "TooEarly" = some (.ref C)) (ini : PySem.W.findIn K (.ref C) "__init__" = some (some (.ref fI))) (tyI : PySem.W.typeIn K (.ref fI) = some (.type "function")) (fa : FnAt K "TooEarly.__init__" sIni18 fI)
    (n1 : PySem.W.findIn K (.ref C) "number" = some none) (n2 : PySem.W.findIn K (.ref C) "ahead" = some none) : ∃ fd, MkE P w K mg base "TooEarly" ["number", "ahead"] ["ahead", "number"] swap2 (spErr2 C "number" "ahead") C fI fd := by
  obtain ⟨oc, kV, dc, pm, cd, ct, od, an, sl, l, c, k⟩ := fa
  have F := fun_mk (st := sIni18) l c k
  exact ⟨_, h.oex, mgC, ini, tyI, ok18 h F n1 n2, F.binds (ps := ["self", "number", "ahead"]) fun _ _ _ _ _ _ us hl => match us, hl with | [_, _, _], _ => rfl, fun s' a ws hl => match ws, hl with | [_, _], _ => .of_eq rfl⟩
theorem mkE22 (h : CFa K C CT) (mgC : mg "BadText" = some (.ref C)) (ini : PySem.W.findIn K (.ref C) "__init__" = some (some (.ref fI))) (tyI : PySem.W.typeIn K (.ref fI) = some (.type "function")) (fa : FnAt K "BadText.__init__" sIni22 fI)
    (n1 : PySem.W.findIn K (.ref C) "line" = some none) (n2 : PySem.W.findIn K (.ref C) "word" = some none) : ∃ fd, MkE P w K mg base "BadText" ["line", "word"] ["word", "line"] swap2 (spErr2 C "line" "word") C fI fd := by
  obtain ⟨oc, kV, dc, pm, cd, ct, od, an, sl, l, c, k⟩ := fa
  have F := fun_mk (st := sIni22) l c k
  exact ⟨_, h.oex, mgC, ini, tyI, ok22 h F n1 n2, F.binds (ps := ["self", "line", "word"]) fun _ _ _ _ _ _ us hl => match us, hl with | [_, _, _], _ => rfl, fun s' a ws hl => match ws, hl with | [_, _], _ => .of_eq rfl⟩
theorem mkE17 (h : CFa K C CT) (mgC : mg "ThirdAnswer" = some (.ref C)) (ini : PySem.W.findIn K (.ref C) "__init__" = some (some (.ref fI))) (tyI : PySem.W.typeIn K (.ref fI) = some (.type "function")) (fa : FnAt K "ThirdAnswer.__init__" sIni17 fI)
    (n1 : PySem.W.findIn K (.ref C) "place" = some none) (n2 : PySem.W.findIn K (.ref C) "column" = some none) (n3 : PySem.W.findIn K (.ref C) "heard" = some none) : ∃ fd, MkE P w K mg base "ThirdAnswer" ["place", "column", "heard"] ["heard", "place", "column"] rot3 (spErr3 C "place" "column" "heard") C fI fd := by
  obtain ⟨oc, kV, dc, pm, cd, ct, od, an, sl, l, c, k⟩ := fa
  have F := fun_mk (st := sIni17) l c k
  exact ⟨_, h.oex, mgC, ini, tyI, ok17 h F n1 n2 n3, F.binds (ps := ["self", "place", "column", "heard"]) fun _ _ _ _ _ _ us hl => match us, hl with | [_, _, _, _], _ => rfl, fun s' a ws hl => match ws, hl with | [_, _, _], _ => .of_eq rfl⟩
end
end Pl

namespace Pl
open PySem PySem.Spec PyProof.Rows L2 Own TL RZ LamX
theorem sub_top {K : PySem.W.Frag} {C CT : Addr} (h : CoAt K C CT) : PySem.W.subIn K (.ref C) (.ref CT) = some true := by
  unfold PySem.W.subIn
  exact mro_top h
theorem sce2 : FnScope ["self", "value"] ["self", "value"] (defScope (inClass (top 5) 0)) := ⟨rfl, rfl, rfl, by decide +kernel, rfl, by decide +kernel, by decide +kernel⟩
theorem sce3 : FnScope ["self", "place"] ["self", "place"] (defScope (inClass (top 6) 0)) := ⟨rfl, rfl, rfl, by decide +kernel, rfl, by decide +kernel, by decide +kernel⟩
theorem sce4 : FnScope ["self", "place"] ["self", "place"] (defScope (inClass (top 7) 0)) := ⟨rfl, rfl, rfl, by decide +kernel, rfl, by decide +kernel, by decide +kernel⟩
theorem sce7 : FnScope ["self", "value"] ["self", "value"] (defScope (inClass (top 10) 0)) := ⟨rfl, rfl, rfl, by decide +kernel, rfl, by decide +kernel, by decide +kernel⟩
theorem sce8 : FnScope ["self", "at"] ["self", "at"] (defScope (inClass (top 11) 0)) := ⟨rfl, rfl, rfl, by decide +kernel, rfl, by decide +kernel, by decide +kernel⟩
theorem sce9 : FnScope ["self", "k"] ["self", "k"] (defScope (inClass (top 12) 0)) := ⟨rfl, rfl, rfl, by decide +kernel, rfl, by decide +kernel, by decide +kernel⟩
theorem sce10 : FnScope ["self", "ring"] ["self", "ring"] (defScope (inClass (top 13) 0)) := ⟨rfl, rfl, rfl, by decide +kernel, rfl, by decide +kernel, by decide +kernel⟩
theorem sce11 : FnScope ["self", "place"] ["self", "place"] (defScope (inClass (top 14) 0)) := ⟨rfl, rfl, rfl, by decide +kernel, rfl, by decide +kernel, by decide +kernel⟩
theorem sce12 : FnScope ["self", "value"] ["self", "value"] (defScope (inClass (top 15) 0)) := ⟨rfl, rfl, rfl, by decide +kernel, rfl, by decide +kernel, by decide +kernel⟩
theorem sce14 : FnScope ["self", "place"] ["self", "place"] (defScope (inClass (top 17) 0)) := ⟨rfl, rfl, rfl, by decide +kernel, rfl, by decide +kernel, by decide +kernel⟩
theorem sce15 : FnScope ["self", "at"] ["self", "at"] (defScope (inClass (top 18) 0)) := ⟨rfl, rfl, rfl, by decide +kernel, rfl, by decide +kernel, by decide +kernel⟩
theorem sce16 : FnScope ["self", "value"] ["self", "value"] (defScope (inClass (top 19) 0)) := ⟨rfl, rfl, rfl, by decide +kernel, rfl, by decide +kernel, by decide +kernel⟩
theorem sce21 : FnScope ["self", "value"] ["self", "value"] (defScope (inClass (top 24) 0)) := ⟨rfl, rfl, rfl, by decide +kernel, rfl, by decide +kernel, by decide +kernel⟩
theorem sce23 : FnScope ["self", "word"] ["self", "word"] (defScope (inClass (top 26) 0)) := ⟨rfl, rfl, rfl, by decide +kernel, rfl, by decide +kernel, by decide +kernel⟩
theorem all_mk {l : PySem.W.OpenLaw} {w : World} {K : PySem.W.Frag} {h : Heap} {mg : Str → Option Value} {q : Program} {fa C fInt fNam fPen fDrw fPck fWrd fOdd fHea fIsP fDue fMrk fErr fNmd fPlc fLaw fIni fNms pNms fTxt pTxt fUp pUp fHd fLen fBoo fStr fRep CTE C0 fI0 C1 fI1 C2 fI2 C3 fI3 C4 fI4 C5 C6 fI6 C7 fI7 C8 fI8 C9 fI9 C10 fI10 C11 fI11 C12 fI12 C13 C14 fI14 C15 fI15 C16 fI16 C17 fI17 C18 fI18 C19 C20 C21 fI21 C22 fI22 C23 fI23 c0Plc P0Plc c0Law P0Law : Addr} (X : K.In h) (G : h.Ns mainGlobals mg) (hfa : mg "law" = some (.ref fa)) (hT : TabsOf q K h) (hq1 : ((recsOf q).find? fun e => e.name == ("_law_placed" : Str)).isSome = true) (hq2 : ((recsOf q).find? fun e => e.name == ("law" : Str)).isSome = true)
    {odInt anInt odNam anNam odPen anPen odDrw anDrw odPck anPck odWrd anWrd odOdd anOdd odHea anHea odIsP anIsP odDue anDue odMrk anMrk odErr anErr odNmd anNmd odPlc anPlc odLaw anLaw odIni anIni odNms anNms odTxt anTxt odUp anUp odHd anHd odLen anLen odBoo anBoo odStr anStr odRep anRep dc0Plc dc0Law : Option Addr} {slInt slNam slPen slDrw slPck slWrd slOdd slHea slIsP slDue slMrk slErr slNmd slPlc slLaw slIni slNms slTxt slUp slHd slLen slBoo slStr slRep scPlc scLaw : Array (Option Value)} {ocInt kVInt dcInt pmInt ctInt cdInt ocNam kVNam dcNam pmNam ctNam cdNam ocPen kVPen dcPen pmPen ctPen cdPen ocDrw kVDrw dcDrw pmDrw ctDrw cdDrw ocPck kVPck dcPck pmPck ctPck cdPck ocWrd kVWrd dcWrd pmWrd ctWrd cdWrd ocOdd kVOdd dcOdd pmOdd ctOdd cdOdd ocHea kVHea dcHea pmHea ctHea cdHea ocIsP kVIsP dcIsP pmIsP ctIsP cdIsP ocDue kVDue dcDue pmDue ctDue cdDue ocMrk kVMrk dcMrk pmMrk ctMrk cdMrk ocErr kVErr dcErr pmErr ctErr cdErr ocNmd kVNmd dcNmd pmNmd ctNmd cdNmd ocPlc kVPlc dcPlc pmPlc ctPlc ocLaw kVLaw dcLaw pmLaw ctLaw ocIni kVIni dcIni pmIni ctIni cdIni ocNms kVNms dcNms pmNms ctNms cdNms ocTxt kVTxt dcTxt pmTxt ctTxt cdTxt ocUp kVUp dcUp pmUp ctUp cdUp ocHd kVHd dcHd pmHd ctHd cdHd ocLen kVLen dcLen pmLen ctLen cdLen ocBoo kVBoo dcBoo pmBoo ctBoo cdBoo ocStr kVStr dcStr pmStr ctStr cdStr ocRep kVRep dcRep pmRep ctRep cdRep ecPlc ecLaw : Value} {rrNms rrTxt rrUp : List Value} {tM tL : Tok} {vcPlc : Array Value} {vcLaw : Array Value}
    (aInt : PySem.W.nsIn K mainGlobals "is_integer" = some (some (.ref fInt)))
    (lInt : K.lookup fInt = some ⟨ocInt, odInt, .func (PySem.W.fnOf "is_integer" "is_integer" (defArgs sIsInt) (defBody sIsInt) (defScope sIsInt) .none kVInt dcInt pmInt anInt cdInt ctInt), slInt⟩)
    (cInt : PySem.W.codeIn K cdInt "is_integer" = true)
    (kInt : PySem.W.keepIn K (.ref fInt) = true)
    (aNam : PySem.W.nsIn K mainGlobals "is_name" = some (some (.ref fNam)))
    (lNam : K.lookup fNam = some ⟨ocNam, odNam, .func (PySem.W.fnOf "is_name" "is_name" (defArgs sIsName) (defBody sIsName) (defScope sIsName) .none kVNam dcNam pmNam anNam cdNam ctNam), slNam⟩)
    (cNam : PySem.W.codeIn K cdNam "is_name" = true)
    (kNam : PySem.W.keepIn K (.ref fNam) = true)
    (aPen : PySem.W.nsIn K mainGlobals "_law_pen" = some (some (.ref fPen)))
    (lPen : K.lookup fPen = some ⟨ocPen, odPen, .func (PySem.W.fnOf "_law_pen" "_law_pen" (defArgs sPen) (defBody sPen) (defScope sPen) .none kVPen dcPen pmPen anPen cdPen ctPen), slPen⟩)
    (cPen : PySem.W.codeIn K cdPen "_law_pen" = true)
    (kPen : PySem.W.keepIn K (.ref fPen) = true)
    (aDrw : PySem.W.nsIn K mainGlobals "_law_draw" = some (some (.ref fDrw)))
    (lDrw : K.lookup fDrw = some ⟨ocDrw, odDrw, .func (PySem.W.fnOf "_law_draw" "_law_draw" (defArgs sDraw) (defBody sDraw) (defScope sDraw) .none kVDrw dcDrw pmDrw anDrw cdDrw ctDrw), slDrw⟩)
    (cDrw : PySem.W.codeIn K cdDrw "_law_draw" = true)
    (kDrw : PySem.W.keepIn K (.ref fDrw) = true)
    (aPck : PySem.W.nsIn K mainGlobals "_law_pick" = some (some (.ref fPck)))
    (lPck : K.lookup fPck = some ⟨ocPck, odPck, .func (PySem.W.fnOf "_law_pick" "_law_pick" (defArgs sPick) (defBody sPick) (defScope sPick) .none kVPck dcPck pmPck anPck cdPck ctPck), slPck⟩)
    (cPck : PySem.W.codeIn K cdPck "_law_pick" = true)
    (kPck : PySem.W.keepIn K (.ref fPck) = true)
    (aWrd : PySem.W.nsIn K mainGlobals "_law_word" = some (some (.ref fWrd)))
    (lWrd : K.lookup fWrd = some ⟨ocWrd, odWrd, .func (PySem.W.fnOf "_law_word" "_law_word" (defArgs sWord) (defBody sWord) (defScope sWord) .none kVWrd dcWrd pmWrd anWrd cdWrd ctWrd), slWrd⟩)
    (cWrd : PySem.W.codeIn K cdWrd "_law_word" = true)
    (kWrd : PySem.W.keepIn K (.ref fWrd) = true)
    (aOdd : PySem.W.nsIn K mainGlobals "_law_odd" = some (some (.ref fOdd)))
    (lOdd : K.lookup fOdd = some ⟨ocOdd, odOdd, .func (PySem.W.fnOf "_law_odd" "_law_odd" (defArgs sOdd) (defBody sOdd) (defScope sOdd) .none kVOdd dcOdd pmOdd anOdd cdOdd ctOdd), slOdd⟩)
    (cOdd : PySem.W.codeIn K cdOdd "_law_odd" = true)
    (kOdd : PySem.W.keepIn K (.ref fOdd) = true)
    (aHea : PySem.W.nsIn K mainGlobals "_law_heard" = some (some (.ref fHea)))
    (lHea : K.lookup fHea = some ⟨ocHea, odHea, .func (PySem.W.fnOf "_law_heard" "_law_heard" (defArgs sHeard) (defBody sHeard) (defScope sHeard) .none kVHea dcHea pmHea anHea cdHea ctHea), slHea⟩)
    (cHea : PySem.W.codeIn K cdHea "_law_heard" = true)
    (kHea : PySem.W.keepIn K (.ref fHea) = true)
    (aIsP : PySem.W.nsIn K mainGlobals "_law_is" = some (some (.ref fIsP)))
    (lIsP : K.lookup fIsP = some ⟨ocIsP, odIsP, .func (PySem.W.fnOf "_law_is" "_law_is" (defArgs sIsP) (defBody sIsP) (defScope sIsP) .none kVIsP dcIsP pmIsP anIsP cdIsP ctIsP), slIsP⟩)
    (cIsP : PySem.W.codeIn K cdIsP "_law_is" = true)
    (kIsP : PySem.W.keepIn K (.ref fIsP) = true)
    (aDue : PySem.W.nsIn K mainGlobals "_law_due" = some (some (.ref fDue)))
    (lDue : K.lookup fDue = some ⟨ocDue, odDue, .func (PySem.W.fnOf "_law_due" "_law_due" (defArgs sDue) (defBody sDue) (defScope sDue) .none kVDue dcDue pmDue anDue cdDue ctDue), slDue⟩)
    (cDue : PySem.W.codeIn K cdDue "_law_due" = true)
    (kDue : PySem.W.keepIn K (.ref fDue) = true)
    (aMrk : PySem.W.nsIn K mainGlobals "_law_marks" = some (some (.ref fMrk)))
    (lMrk : K.lookup fMrk = some ⟨ocMrk, odMrk, .func (PySem.W.fnOf "_law_marks" "_law_marks" (defArgs sMrk) (defBody sMrk) (defScope sMrk) .none kVMrk dcMrk pmMrk anMrk cdMrk ctMrk), slMrk⟩)
    (cMrk : PySem.W.codeIn K cdMrk "_law_marks" = true)
    (kMrk : PySem.W.keepIn K (.ref fMrk) = true)
    (aErr : PySem.W.nsIn K mainGlobals "_law_errors_right" = some (some (.ref fErr)))
    (lErr : K.lookup fErr = some ⟨ocErr, odErr, .func (PySem.W.fnOf "_law_errors_right" "_law_errors_right" (defArgs sEr) (defBody sEr) (defScope sEr) .none kVErr dcErr pmErr anErr cdErr ctErr), slErr⟩)
    (cErr : PySem.W.codeIn K cdErr "_law_errors_right" = true)
    (kErr : PySem.W.keepIn K (.ref fErr) = true)
    (aNmd : PySem.W.nsIn K mainGlobals "_law_named_right" = some (some (.ref fNmd)))
    (lNmd : K.lookup fNmd = some ⟨ocNmd, odNmd, .func (PySem.W.fnOf "_law_named_right" "_law_named_right" (defArgs sNr) (defBody sNr) (defScope sNr) .none kVNmd dcNmd pmNmd anNmd cdNmd ctNmd), slNmd⟩)
    (cNmd : PySem.W.codeIn K cdNmd "_law_named_right" = true)
    (kNmd : PySem.W.keepIn K (.ref fNmd) = true)
    (aPlc : PySem.W.nsIn K mainGlobals "_law_placed" = some (some (.ref fPlc)))
    (lPlc : K.lookup fPlc = some ⟨ocPlc, odPlc, .func (PySem.W.fnOf "_law_placed" "_law_placed" (defArgs sPlc) (defBody sPlc) (defScope sPlc) .none kVPlc dcPlc pmPlc anPlc (.ref c0Plc) ctPlc), slPlc⟩)
    (cPlc : PySem.W.codeIn K (.ref c0Plc) "_law_placed" = true)
    (kPlc : PySem.W.keepIn K (.ref fPlc) = true)
    (aLaw : PySem.W.nsIn K mainGlobals "law" = some (some (.ref fLaw)))
    (lLaw : K.lookup fLaw = some ⟨ocLaw, odLaw, .func (PySem.W.fnOf "law" "law" (defArgs sLaw) (defBody sLaw) (defScope sLaw) .none kVLaw dcLaw pmLaw anLaw (.ref c0Law) ctLaw), slLaw⟩)
    (cLaw : PySem.W.codeIn K (.ref c0Law) "law" = true)
    (kLaw : PySem.W.keepIn K (.ref fLaw) = true)
    (lIni : K.lookup fIni = some ⟨ocIni, odIni, .func (PySem.W.fnOf "__init__" "Place.__init__" (defArgs sInit) (defBody sInit) (defScope sInit) .none kVIni dcIni pmIni anIni cdIni ctIni), slIni⟩)
    (cIni : PySem.W.codeIn K cdIni "Place.__init__" = true)
    (kIni : PySem.W.keepIn K (.ref fIni) = true)
    (aIni : PySem.W.findIn K (.ref C) "__init__" = some (some (.ref fIni)))
    (iIni : PySem.W.isFn K (.ref fIni) = true)
    (lNms : K.lookup fNms = some ⟨ocNms, odNms, .func (PySem.W.fnOf "names" "Place.names" (defArgs sNames) (defBody sNames) (defScope sNames) .none kVNms dcNms pmNms anNms cdNms ctNms), slNms⟩)
    (cNms : PySem.W.codeIn K cdNms "Place.names" = true)
    (kNms : PySem.W.keepIn K (.ref fNms) = true)
    (aNms : PySem.W.findIn K (.ref C) "names" = some (some (.ref pNms)))
    (gNms : PySem.W.specialIn K (.ref pNms) "__get__" = some (some (.builtin "property.__get__")))
    (tNms : PySem.W.takesIn K (.ref pNms) = some true)
    (rNms : PySem.W.recIn K pNms "property" = some (.ref fNms :: rrNms))
    (lTxt : K.lookup fTxt = some ⟨ocTxt, odTxt, .func (PySem.W.fnOf "text" "Place.text" (defArgs sText) (defBody sText) (defScope sText) .none kVTxt dcTxt pmTxt anTxt cdTxt ctTxt), slTxt⟩)
    (cTxt : PySem.W.codeIn K cdTxt "Place.text" = true)
    (kTxt : PySem.W.keepIn K (.ref fTxt) = true)
    (aTxt : PySem.W.findIn K (.ref C) "text" = some (some (.ref pTxt)))
    (gTxt : PySem.W.specialIn K (.ref pTxt) "__get__" = some (some (.builtin "property.__get__")))
    (tTxt : PySem.W.takesIn K (.ref pTxt) = some true)
    (rTxt : PySem.W.recIn K pTxt "property" = some (.ref fTxt :: rrTxt))
    (lUp : K.lookup fUp = some ⟨ocUp, odUp, .func (PySem.W.fnOf "up" "Place.up" (defArgs sUp) (defBody sUp) (defScope sUp) .none kVUp dcUp pmUp anUp cdUp ctUp), slUp⟩)
    (cUp : PySem.W.codeIn K cdUp "Place.up" = true)
    (kUp : PySem.W.keepIn K (.ref fUp) = true)
    (aUp : PySem.W.findIn K (.ref C) "up" = some (some (.ref pUp)))
    (gUp : PySem.W.specialIn K (.ref pUp) "__get__" = some (some (.builtin "property.__get__")))
    (tUp : PySem.W.takesIn K (.ref pUp) = some true)
    (rUp : PySem.W.recIn K pUp "property" = some (.ref fUp :: rrUp))
    (lHd : K.lookup fHd = some ⟨ocHd, odHd, .func (PySem.W.fnOf "head" "Place.head" (defArgs sHead) (defBody sHead) (defScope sHead) .none kVHd dcHd pmHd anHd cdHd ctHd), slHd⟩)
    (cHd : PySem.W.codeIn K cdHd "Place.head" = true)
    (kHd : PySem.W.keepIn K (.ref fHd) = true)
    (aHd : PySem.W.findIn K (.ref C) "head" = some (some (.ref fHd)))
    (iHd : PySem.W.isFn K (.ref fHd) = true)
    (lLen : K.lookup fLen = some ⟨ocLen, odLen, .func (PySem.W.fnOf "__len__" "Place.__len__" (defArgs sLen) (defBody sLen) (defScope sLen) .none kVLen dcLen pmLen anLen cdLen ctLen), slLen⟩)
    (cLen : PySem.W.codeIn K cdLen "Place.__len__" = true)
    (kLen : PySem.W.keepIn K (.ref fLen) = true)
    (aLen : PySem.W.findIn K (.ref C) "__len__" = some (some (.ref fLen)))
    (iLen : PySem.W.isFn K (.ref fLen) = true)
    (lBoo : K.lookup fBoo = some ⟨ocBoo, odBoo, .func (PySem.W.fnOf "__bool__" "Place.__bool__" (defArgs sBool) (defBody sBool) (defScope sBool) .none kVBoo dcBoo pmBoo anBoo cdBoo ctBoo), slBoo⟩)
    (cBoo : PySem.W.codeIn K cdBoo "Place.__bool__" = true)
    (kBoo : PySem.W.keepIn K (.ref fBoo) = true)
    (aBoo : PySem.W.findIn K (.ref C) "__bool__" = some (some (.ref fBoo)))
    (iBoo : PySem.W.isFn K (.ref fBoo) = true)
    (lStr : K.lookup fStr = some ⟨ocStr, odStr, .func (PySem.W.fnOf "__str__" "Place.__str__" (defArgs sStr) (defBody sStr) (defScope sStr) .none kVStr dcStr pmStr anStr cdStr ctStr), slStr⟩)
    (cStr : PySem.W.codeIn K cdStr "Place.__str__" = true)
    (kStr : PySem.W.keepIn K (.ref fStr) = true)
    (aStr : PySem.W.findIn K (.ref C) "__str__" = some (some (.ref fStr)))
    (iStr : PySem.W.isFn K (.ref fStr) = true)
    (lRep : K.lookup fRep = some ⟨ocRep, odRep, .func (PySem.W.fnOf "__repr__" "Place.__repr__" (defArgs sRepr) (defBody sRepr) (defScope sRepr) .none kVRep dcRep pmRep anRep cdRep ctRep), slRep⟩)
    (cRep : PySem.W.codeIn K cdRep "Place.__repr__" = true)
    (kRep : PySem.W.keepIn K (.ref fRep) = true)
    (aRep : PySem.W.findIn K (.ref C) "__repr__" = some (some (.ref fRep)))
    (iRep : PySem.W.isFn K (.ref fRep) = true)
    (aC : PySem.W.nsIn K mainGlobals "Place" = some (some (.ref C)))
    (pg : PySem.W.plainGet K C Str.empty = true)
    (hd : PySem.W.hasDictIn K C = true)
    (po : PySem.W.plainOver K C = true)
    (sa : PySem.W.findIn K (.ref C) "__setattr__" = some (some (.builtin "object.__setattr__")))
    (mk : PySem.W.makesIn K C = true)
    (kc : PySem.W.keepIn K (.ref C) = true)
    (nN : PySem.W.findIn K (.ref C) "_names" = some none)
    (rd : PySem.W.readsIn K C (.type "type") = true)
    (ga : PySem.W.specialIn K (.ref C) "__getattribute__" = some (some (.builtin "type.__getattribute__")))
    (mo : PySem.W.findCls K (.ref C) (.type "type") "MOST" = some (.val (.int 8 tM)))
    (mi : PySem.W.findIn K (.ref C) "MOST" = some (some (.int 8 tM)))
    (ms : PySem.W.specialIn K (.int 8 tM) "__get__" = some none)
    (ha : PySem.W.findIn K (.ref C) "__class__" = some (some (.builtin "object.__class__")))
    (hn : PySem.W.specialIn K (.builtin "object.__class__") "__get__" = some (some (.builtin "getset_descriptor.__get__")))
    (htk : PySem.W.takesIn K (.builtin "object.__class__") = some true)
    (hm : PySem.W.mroIn K C (.type "object") = some true)
    (ty : PySem.W.typeIn K (.ref C) = some (.type "type"))
    (mC : PySem.W.mroIn K C (.ref C) = some true)
    (mS : PySem.W.mroIn K C (.type "str") = some false)
    (sf : PySem.W.selfFirst K C = true)
    (nE : PySem.W.findIn K (.ref C) "__ne__" = some (some (.builtin "object.__ne__")))
    (sub : PySem.W.subIn K (.ref C) (.type "object") = some true)
    (lg : PySem.W.nsIn K mainGlobals "LONGEST_NAME" = some (some (.int 8 tL)))
    (aCT : PySem.W.nsIn K mainGlobals "TableError" = some (some (.ref CTE)))
    (sCT : PySem.W.subIn K (.ref CTE) (.type "BaseException") = some true)
    (dCT : PySem.W.hasDictIn K CTE = true)
    (tCT : PySem.W.typeIn K (.ref CTE) = some (.type "type"))
    (mI0 : PySem.W.mroIn K C (.type "int") = some false)
    (mB0 : PySem.W.mroIn K C (.type "bool") = some false)
    (moT : PySem.W.mroIn K CTE (.type "object") = some true)
    (aC0 : PySem.W.nsIn K mainGlobals "BadName" = some (some (.ref C0)))
    (co0 : CoAt K C0 CTE)
    (ty0 : PySem.W.typeIn K (.ref C0) = some (.type "type"))
    (kc0 : PySem.W.keepIn K (.ref C0) = true)
    (ga0 : PySem.W.findIn K (.ref C0) "__getattribute__" = some (some (.builtin "BaseException.__getattribute__")))
    (gg0 : PySem.W.findIn K (.ref C0) "__getattr__" = some none)
    (sx0 : PySem.W.subIn K (.ref C0) (.type "BaseException") = some true)
    (hd0 : PySem.W.hasDictIn K C0 = true)
    (ha0 : PySem.W.findIn K (.ref C0) "__class__" = some (some (.builtin "object.__class__")))
    (sa0 : PySem.W.findIn K (.ref C0) "__setattr__" = some (some (.builtin "object.__setattr__")))
    (aI0 : PySem.W.findIn K (.ref C0) "__init__" = some (some (.ref fI0)))
    (fa0 : FnAt K "BadName.__init__" sIniN fI0)
    (tI0 : PySem.W.typeIn K (.ref fI0) = some (.type "function"))
    (nf0_value : PySem.W.findIn K (.ref C0) "value" = some none)
    (aC1 : PySem.W.nsIn K mainGlobals "BadPlace" = some (some (.ref C1)))
    (co1 : CoAt K C1 CTE)
    (ty1 : PySem.W.typeIn K (.ref C1) = some (.type "type"))
    (kc1 : PySem.W.keepIn K (.ref C1) = true)
    (ga1 : PySem.W.findIn K (.ref C1) "__getattribute__" = some (some (.builtin "BaseException.__getattribute__")))
    (gg1 : PySem.W.findIn K (.ref C1) "__getattr__" = some none)
    (sx1 : PySem.W.subIn K (.ref C1) (.type "BaseException") = some true)
    (hd1 : PySem.W.hasDictIn K C1 = true)
    (ha1 : PySem.W.findIn K (.ref C1) "__class__" = some (some (.builtin "object.__class__")))
    (sa1 : PySem.W.findIn K (.ref C1) "__setattr__" = some (some (.builtin "object.__setattr__")))
    (aI1 : PySem.W.findIn K (.ref C1) "__init__" = some (some (.ref fI1)))
    (fa1 : FnAt K "BadPlace.__init__" sIniP fI1)
    (tI1 : PySem.W.typeIn K (.ref fI1) = some (.type "function"))
    (nf1_value : PySem.W.findIn K (.ref C1) "value" = some none)
    (aC2 : PySem.W.nsIn K mainGlobals "BadColumn" = some (some (.ref C2)))
    (co2 : CoAt K C2 CTE)
    (ty2 : PySem.W.typeIn K (.ref C2) = some (.type "type"))
    (kc2 : PySem.W.keepIn K (.ref C2) = true)
    (ga2 : PySem.W.findIn K (.ref C2) "__getattribute__" = some (some (.builtin "BaseException.__getattribute__")))
    (gg2 : PySem.W.findIn K (.ref C2) "__getattr__" = some none)
    (sx2 : PySem.W.subIn K (.ref C2) (.type "BaseException") = some true)
    (hd2 : PySem.W.hasDictIn K C2 = true)
    (ha2 : PySem.W.findIn K (.ref C2) "__class__" = some (some (.builtin "object.__class__")))
    (sa2 : PySem.W.findIn K (.ref C2) "__setattr__" = some (some (.builtin "object.__setattr__")))
    (aI2 : PySem.W.findIn K (.ref C2) "__init__" = some (some (.ref fI2)))
    (fa2 : FnAt K "BadColumn.__init__" (inClass (top 5) 0) fI2)
    (tI2 : PySem.W.typeIn K (.ref fI2) = some (.type "function"))
    (nf2_value : PySem.W.findIn K (.ref C2) "value" = some none)
    (aC3 : PySem.W.nsIn K mainGlobals "BadCells" = some (some (.ref C3)))
    (co3 : CoAt K C3 CTE)
    (ty3 : PySem.W.typeIn K (.ref C3) = some (.type "type"))
    (kc3 : PySem.W.keepIn K (.ref C3) = true)
    (ga3 : PySem.W.findIn K (.ref C3) "__getattribute__" = some (some (.builtin "BaseException.__getattribute__")))
    (gg3 : PySem.W.findIn K (.ref C3) "__getattr__" = some none)
    (sx3 : PySem.W.subIn K (.ref C3) (.type "BaseException") = some true)
    (hd3 : PySem.W.hasDictIn K C3 = true)
    (ha3 : PySem.W.findIn K (.ref C3) "__class__" = some (some (.builtin "object.__class__")))
    (sa3 : PySem.W.findIn K (.ref C3) "__setattr__" = some (some (.builtin "object.__setattr__")))
    (aI3 : PySem.W.findIn K (.ref C3) "__init__" = some (some (.ref fI3)))
    (fa3 : FnAt K "BadCells.__init__" (inClass (top 6) 0) fI3)
    (tI3 : PySem.W.typeIn K (.ref fI3) = some (.type "function"))
    (nf3_place : PySem.W.findIn K (.ref C3) "place" = some none)
    (aC4 : PySem.W.nsIn K mainGlobals "NoRow" = some (some (.ref C4)))
    (co4 : CoAt K C4 CTE)
    (ty4 : PySem.W.typeIn K (.ref C4) = some (.type "type"))
    (kc4 : PySem.W.keepIn K (.ref C4) = true)
    (ga4 : PySem.W.findIn K (.ref C4) "__getattribute__" = some (some (.builtin "BaseException.__getattribute__")))
    (gg4 : PySem.W.findIn K (.ref C4) "__getattr__" = some none)
    (sx4 : PySem.W.subIn K (.ref C4) (.type "BaseException") = some true)
    (hd4 : PySem.W.hasDictIn K C4 = true)
    (ha4 : PySem.W.findIn K (.ref C4) "__class__" = some (some (.builtin "object.__class__")))
    (sa4 : PySem.W.findIn K (.ref C4) "__setattr__" = some (some (.builtin "object.__setattr__")))
    (aI4 : PySem.W.findIn K (.ref C4) "__init__" = some (some (.ref fI4)))
    (fa4 : FnAt K "NoRow.__init__" (inClass (top 7) 0) fI4)
    (tI4 : PySem.W.typeIn K (.ref fI4) = some (.type "function"))
    (nf4_place : PySem.W.findIn K (.ref C4) "place" = some none)
    (aC5 : PySem.W.nsIn K mainGlobals "UnlikeColumns" = some (some (.ref C5)))
    (co5 : CoAt K C5 CTE)
    (ty5 : PySem.W.typeIn K (.ref C5) = some (.type "type"))
    (kc5 : PySem.W.keepIn K (.ref C5) = true)
    (ga5 : PySem.W.findIn K (.ref C5) "__getattribute__" = some (some (.builtin "BaseException.__getattribute__")))
    (gg5 : PySem.W.findIn K (.ref C5) "__getattr__" = some none)
    (sx5 : PySem.W.subIn K (.ref C5) (.type "BaseException") = some true)
    (hd5 : PySem.W.hasDictIn K C5 = true)
    (ha5 : PySem.W.findIn K (.ref C5) "__class__" = some (some (.builtin "object.__class__")))
    (sa5 : PySem.W.findIn K (.ref C5) "__setattr__" = some (some (.builtin "object.__setattr__")))
    (ex5 : PySem.W.excIn K C5 [.type "ValueError", .type "Exception", .type "BaseException", .type "object"] "ValueError.__new__" = true)
    (aC6 : PySem.W.nsIn K mainGlobals "TooMany" = some (some (.ref C6)))
    (co6 : CoAt K C6 CTE)
    (ty6 : PySem.W.typeIn K (.ref C6) = some (.type "type"))
    (kc6 : PySem.W.keepIn K (.ref C6) = true)
    (ga6 : PySem.W.findIn K (.ref C6) "__getattribute__" = some (some (.builtin "BaseException.__getattribute__")))
    (gg6 : PySem.W.findIn K (.ref C6) "__getattr__" = some none)
    (sx6 : PySem.W.subIn K (.ref C6) (.type "BaseException") = some true)
    (hd6 : PySem.W.hasDictIn K C6 = true)
    (ha6 : PySem.W.findIn K (.ref C6) "__class__" = some (some (.builtin "object.__class__")))
    (sa6 : PySem.W.findIn K (.ref C6) "__setattr__" = some (some (.builtin "object.__setattr__")))
    (aI6 : PySem.W.findIn K (.ref C6) "__init__" = some (some (.ref fI6)))
    (fa6 : FnAt K "TooMany.__init__" sIniM fI6)
    (tI6 : PySem.W.typeIn K (.ref fI6) = some (.type "function"))
    (nf6_most : PySem.W.findIn K (.ref C6) "most" = some none)
    (aC7 : PySem.W.nsIn K mainGlobals "NoStep" = some (some (.ref C7)))
    (co7 : CoAt K C7 CTE)
    (ty7 : PySem.W.typeIn K (.ref C7) = some (.type "type"))
    (kc7 : PySem.W.keepIn K (.ref C7) = true)
    (ga7 : PySem.W.findIn K (.ref C7) "__getattribute__" = some (some (.builtin "BaseException.__getattribute__")))
    (gg7 : PySem.W.findIn K (.ref C7) "__getattr__" = some none)
    (sx7 : PySem.W.subIn K (.ref C7) (.type "BaseException") = some true)
    (hd7 : PySem.W.hasDictIn K C7 = true)
    (ha7 : PySem.W.findIn K (.ref C7) "__class__" = some (some (.builtin "object.__class__")))
    (sa7 : PySem.W.findIn K (.ref C7) "__setattr__" = some (some (.builtin "object.__setattr__")))
    (aI7 : PySem.W.findIn K (.ref C7) "__init__" = some (some (.ref fI7)))
    (fa7 : FnAt K "NoStep.__init__" (inClass (top 10) 0) fI7)
    (tI7 : PySem.W.typeIn K (.ref fI7) = some (.type "function"))
    (nf7_value : PySem.W.findIn K (.ref C7) "value" = some none)
    (aC8 : PySem.W.nsIn K mainGlobals "BadPlan" = some (some (.ref C8)))
    (co8 : CoAt K C8 CTE)
    (ty8 : PySem.W.typeIn K (.ref C8) = some (.type "type"))
    (kc8 : PySem.W.keepIn K (.ref C8) = true)
    (ga8 : PySem.W.findIn K (.ref C8) "__getattribute__" = some (some (.builtin "BaseException.__getattribute__")))
    (gg8 : PySem.W.findIn K (.ref C8) "__getattr__" = some none)
    (sx8 : PySem.W.subIn K (.ref C8) (.type "BaseException") = some true)
    (hd8 : PySem.W.hasDictIn K C8 = true)
    (ha8 : PySem.W.findIn K (.ref C8) "__class__" = some (some (.builtin "object.__class__")))
    (sa8 : PySem.W.findIn K (.ref C8) "__setattr__" = some (some (.builtin "object.__setattr__")))
    (aI8 : PySem.W.findIn K (.ref C8) "__init__" = some (some (.ref fI8)))
    (fa8 : FnAt K "BadPlan.__init__" (inClass (top 11) 0) fI8)
    (tI8 : PySem.W.typeIn K (.ref fI8) = some (.type "function"))
    (nf8_at : PySem.W.findIn K (.ref C8) "at" = some none)
    (aC9 : PySem.W.nsIn K mainGlobals "NoOrder" = some (some (.ref C9)))
    (co9 : CoAt K C9 CTE)
    (ty9 : PySem.W.typeIn K (.ref C9) = some (.type "type"))
    (kc9 : PySem.W.keepIn K (.ref C9) = true)
    (ga9 : PySem.W.findIn K (.ref C9) "__getattribute__" = some (some (.builtin "BaseException.__getattribute__")))
    (gg9 : PySem.W.findIn K (.ref C9) "__getattr__" = some none)
    (sx9 : PySem.W.subIn K (.ref C9) (.type "BaseException") = some true)
    (hd9 : PySem.W.hasDictIn K C9 = true)
    (ha9 : PySem.W.findIn K (.ref C9) "__class__" = some (some (.builtin "object.__class__")))
    (sa9 : PySem.W.findIn K (.ref C9) "__setattr__" = some (some (.builtin "object.__setattr__")))
    (aI9 : PySem.W.findIn K (.ref C9) "__init__" = some (some (.ref fI9)))
    (fa9 : FnAt K "NoOrder.__init__" (inClass (top 12) 0) fI9)
    (tI9 : PySem.W.typeIn K (.ref fI9) = some (.type "function"))
    (nf9_k : PySem.W.findIn K (.ref C9) "k" = some none)
    (aC10 : PySem.W.nsIn K mainGlobals "Ringed" = some (some (.ref C10)))
    (co10 : CoAt K C10 CTE)
    (ty10 : PySem.W.typeIn K (.ref C10) = some (.type "type"))
    (kc10 : PySem.W.keepIn K (.ref C10) = true)
    (ga10 : PySem.W.findIn K (.ref C10) "__getattribute__" = some (some (.builtin "BaseException.__getattribute__")))
    (gg10 : PySem.W.findIn K (.ref C10) "__getattr__" = some none)
    (sx10 : PySem.W.subIn K (.ref C10) (.type "BaseException") = some true)
    (hd10 : PySem.W.hasDictIn K C10 = true)
    (ha10 : PySem.W.findIn K (.ref C10) "__class__" = some (some (.builtin "object.__class__")))
    (sa10 : PySem.W.findIn K (.ref C10) "__setattr__" = some (some (.builtin "object.__setattr__")))
    (aI10 : PySem.W.findIn K (.ref C10) "__init__" = some (some (.ref fI10)))
    (fa10 : FnAt K "Ringed.__init__" (inClass (top 13) 0) fI10)
    (tI10 : PySem.W.typeIn K (.ref fI10) = some (.type "function"))
    (nf10_ring : PySem.W.findIn K (.ref C10) "ring" = some none)
    (aC11 : PySem.W.nsIn K mainGlobals "Divided" = some (some (.ref C11)))
    (co11 : CoAt K C11 CTE)
    (ty11 : PySem.W.typeIn K (.ref C11) = some (.type "type"))
    (kc11 : PySem.W.keepIn K (.ref C11) = true)
    (ga11 : PySem.W.findIn K (.ref C11) "__getattribute__" = some (some (.builtin "BaseException.__getattribute__")))
    (gg11 : PySem.W.findIn K (.ref C11) "__getattr__" = some none)
    (sx11 : PySem.W.subIn K (.ref C11) (.type "BaseException") = some true)
    (hd11 : PySem.W.hasDictIn K C11 = true)
    (ha11 : PySem.W.findIn K (.ref C11) "__class__" = some (some (.builtin "object.__class__")))
    (sa11 : PySem.W.findIn K (.ref C11) "__setattr__" = some (some (.builtin "object.__setattr__")))
    (aI11 : PySem.W.findIn K (.ref C11) "__init__" = some (some (.ref fI11)))
    (fa11 : FnAt K "Divided.__init__" (inClass (top 14) 0) fI11)
    (tI11 : PySem.W.typeIn K (.ref fI11) = some (.type "function"))
    (nf11_place : PySem.W.findIn K (.ref C11) "place" = some none)
    (aC12 : PySem.W.nsIn K mainGlobals "BadStanding" = some (some (.ref C12)))
    (co12 : CoAt K C12 CTE)
    (ty12 : PySem.W.typeIn K (.ref C12) = some (.type "type"))
    (kc12 : PySem.W.keepIn K (.ref C12) = true)
    (ga12 : PySem.W.findIn K (.ref C12) "__getattribute__" = some (some (.builtin "BaseException.__getattribute__")))
    (gg12 : PySem.W.findIn K (.ref C12) "__getattr__" = some none)
    (sx12 : PySem.W.subIn K (.ref C12) (.type "BaseException") = some true)
    (hd12 : PySem.W.hasDictIn K C12 = true)
    (ha12 : PySem.W.findIn K (.ref C12) "__class__" = some (some (.builtin "object.__class__")))
    (sa12 : PySem.W.findIn K (.ref C12) "__setattr__" = some (some (.builtin "object.__setattr__")))
    (aI12 : PySem.W.findIn K (.ref C12) "__init__" = some (some (.ref fI12)))
    (fa12 : FnAt K "BadStanding.__init__" (inClass (top 15) 0) fI12)
    (tI12 : PySem.W.typeIn K (.ref fI12) = some (.type "function"))
    (nf12_value : PySem.W.findIn K (.ref C12) "value" = some none)
    (aC13 : PySem.W.nsIn K mainGlobals "ManyColumns" = some (some (.ref C13)))
    (co13 : CoAt K C13 CTE)
    (ty13 : PySem.W.typeIn K (.ref C13) = some (.type "type"))
    (kc13 : PySem.W.keepIn K (.ref C13) = true)
    (ga13 : PySem.W.findIn K (.ref C13) "__getattribute__" = some (some (.builtin "BaseException.__getattribute__")))
    (gg13 : PySem.W.findIn K (.ref C13) "__getattr__" = some none)
    (sx13 : PySem.W.subIn K (.ref C13) (.type "BaseException") = some true)
    (hd13 : PySem.W.hasDictIn K C13 = true)
    (ha13 : PySem.W.findIn K (.ref C13) "__class__" = some (some (.builtin "object.__class__")))
    (sa13 : PySem.W.findIn K (.ref C13) "__setattr__" = some (some (.builtin "object.__setattr__")))
    (ex13 : PySem.W.excIn K C13 [.type "ValueError", .type "Exception", .type "BaseException", .type "object"] "ValueError.__new__" = true)
    (aC14 : PySem.W.nsIn K mainGlobals "Clash" = some (some (.ref C14)))
    (co14 : CoAt K C14 CTE)
    (ty14 : PySem.W.typeIn K (.ref C14) = some (.type "type"))
    (kc14 : PySem.W.keepIn K (.ref C14) = true)
    (ga14 : PySem.W.findIn K (.ref C14) "__getattribute__" = some (some (.builtin "BaseException.__getattribute__")))
    (gg14 : PySem.W.findIn K (.ref C14) "__getattr__" = some none)
    (sx14 : PySem.W.subIn K (.ref C14) (.type "BaseException") = some true)
    (hd14 : PySem.W.hasDictIn K C14 = true)
    (ha14 : PySem.W.findIn K (.ref C14) "__class__" = some (some (.builtin "object.__class__")))
    (sa14 : PySem.W.findIn K (.ref C14) "__setattr__" = some (some (.builtin "object.__setattr__")))
    (aI14 : PySem.W.findIn K (.ref C14) "__init__" = some (some (.ref fI14)))
    (fa14 : FnAt K "Clash.__init__" (inClass (top 17) 0) fI14)
    (tI14 : PySem.W.typeIn K (.ref fI14) = some (.type "function"))
    (nf14_place : PySem.W.findIn K (.ref C14) "place" = some none)
    (aC15 : PySem.W.nsIn K mainGlobals "BadHearings" = some (some (.ref C15)))
    (co15 : CoAt K C15 CTE)
    (ty15 : PySem.W.typeIn K (.ref C15) = some (.type "type"))
    (kc15 : PySem.W.keepIn K (.ref C15) = true)
    (ga15 : PySem.W.findIn K (.ref C15) "__getattribute__" = some (some (.builtin "BaseException.__getattribute__")))
    (gg15 : PySem.W.findIn K (.ref C15) "__getattr__" = some none)
    (sx15 : PySem.W.subIn K (.ref C15) (.type "BaseException") = some true)
    (hd15 : PySem.W.hasDictIn K C15 = true)
    (ha15 : PySem.W.findIn K (.ref C15) "__class__" = some (some (.builtin "object.__class__")))
    (sa15 : PySem.W.findIn K (.ref C15) "__setattr__" = some (some (.builtin "object.__setattr__")))
    (aI15 : PySem.W.findIn K (.ref C15) "__init__" = some (some (.ref fI15)))
    (fa15 : FnAt K "BadHearings.__init__" (inClass (top 18) 0) fI15)
    (tI15 : PySem.W.typeIn K (.ref fI15) = some (.type "function"))
    (nf15_at : PySem.W.findIn K (.ref C15) "at" = some none)
    (aC16 : PySem.W.nsIn K mainGlobals "Contradiction" = some (some (.ref C16)))
    (co16 : CoAt K C16 CTE)
    (ty16 : PySem.W.typeIn K (.ref C16) = some (.type "type"))
    (kc16 : PySem.W.keepIn K (.ref C16) = true)
    (ga16 : PySem.W.findIn K (.ref C16) "__getattribute__" = some (some (.builtin "BaseException.__getattribute__")))
    (gg16 : PySem.W.findIn K (.ref C16) "__getattr__" = some none)
    (sx16 : PySem.W.subIn K (.ref C16) (.type "BaseException") = some true)
    (hd16 : PySem.W.hasDictIn K C16 = true)
    (ha16 : PySem.W.findIn K (.ref C16) "__class__" = some (some (.builtin "object.__class__")))
    (sa16 : PySem.W.findIn K (.ref C16) "__setattr__" = some (some (.builtin "object.__setattr__")))
    (aI16 : PySem.W.findIn K (.ref C16) "__init__" = some (some (.ref fI16)))
    (fa16 : FnAt K "Contradiction.__init__" (inClass (top 19) 0) fI16)
    (tI16 : PySem.W.typeIn K (.ref fI16) = some (.type "function"))
    (nf16_value : PySem.W.findIn K (.ref C16) "value" = some none)
    (aC17 : PySem.W.nsIn K mainGlobals "ThirdAnswer" = some (some (.ref C17)))
    (co17 : CoAt K C17 CTE)
    (ty17 : PySem.W.typeIn K (.ref C17) = some (.type "type"))
    (kc17 : PySem.W.keepIn K (.ref C17) = true)
    (ga17 : PySem.W.findIn K (.ref C17) "__getattribute__" = some (some (.builtin "BaseException.__getattribute__")))
    (gg17 : PySem.W.findIn K (.ref C17) "__getattr__" = some none)
    (sx17 : PySem.W.subIn K (.ref C17) (.type "BaseException") = some true)
    (hd17 : PySem.W.hasDictIn K C17 = true)
    (ha17 : PySem.W.findIn K (.ref C17) "__class__" = some (some (.builtin "object.__class__")))
    (sa17 : PySem.W.findIn K (.ref C17) "__setattr__" = some (some (.builtin "object.__setattr__")))
    (aI17 : PySem.W.findIn K (.ref C17) "__init__" = some (some (.ref fI17)))
    (fa17 : FnAt K "ThirdAnswer.__init__" sIni17 fI17)
    (tI17 : PySem.W.typeIn K (.ref fI17) = some (.type "function"))
    (nf17_place : PySem.W.findIn K (.ref C17) "place" = some none)
    (nf17_column : PySem.W.findIn K (.ref C17) "column" = some none)
    (nf17_heard : PySem.W.findIn K (.ref C17) "heard" = some none)
    (aC18 : PySem.W.nsIn K mainGlobals "TooEarly" = some (some (.ref C18)))
    (co18 : CoAt K C18 CTE)
    (ty18 : PySem.W.typeIn K (.ref C18) = some (.type "type"))
    (kc18 : PySem.W.keepIn K (.ref C18) = true)
    (ga18 : PySem.W.findIn K (.ref C18) "__getattribute__" = some (some (.builtin "BaseException.__getattribute__")))
    (gg18 : PySem.W.findIn K (.ref C18) "__getattr__" = some none)
    (sx18 : PySem.W.subIn K (.ref C18) (.type "BaseException") = some true)
    (hd18 : PySem.W.hasDictIn K C18 = true)
    (ha18 : PySem.W.findIn K (.ref C18) "__class__" = some (some (.builtin "object.__class__")))
    (sa18 : PySem.W.findIn K (.ref C18) "__setattr__" = some (some (.builtin "object.__setattr__")))
    (aI18 : PySem.W.findIn K (.ref C18) "__init__" = some (some (.ref fI18)))
    (fa18 : FnAt K "TooEarly.__init__" sIni18 fI18)
    (tI18 : PySem.W.typeIn K (.ref fI18) = some (.type "function"))
    (nf18_number : PySem.W.findIn K (.ref C18) "number" = some none)
    (nf18_ahead : PySem.W.findIn K (.ref C18) "ahead" = some none)
    (aC19 : PySem.W.nsIn K mainGlobals "NoExchange" = some (some (.ref C19)))
    (co19 : CoAt K C19 CTE)
    (ty19 : PySem.W.typeIn K (.ref C19) = some (.type "type"))
    (kc19 : PySem.W.keepIn K (.ref C19) = true)
    (ga19 : PySem.W.findIn K (.ref C19) "__getattribute__" = some (some (.builtin "BaseException.__getattribute__")))
    (gg19 : PySem.W.findIn K (.ref C19) "__getattr__" = some none)
    (sx19 : PySem.W.subIn K (.ref C19) (.type "BaseException") = some true)
    (hd19 : PySem.W.hasDictIn K C19 = true)
    (ha19 : PySem.W.findIn K (.ref C19) "__class__" = some (some (.builtin "object.__class__")))
    (sa19 : PySem.W.findIn K (.ref C19) "__setattr__" = some (some (.builtin "object.__setattr__")))
    (ex19 : PySem.W.excIn K C19 [.type "ValueError", .type "Exception", .type "BaseException", .type "object"] "ValueError.__new__" = true)
    (aC20 : PySem.W.nsIn K mainGlobals "Underway" = some (some (.ref C20)))
    (co20 : CoAt K C20 CTE)
    (ty20 : PySem.W.typeIn K (.ref C20) = some (.type "type"))
    (kc20 : PySem.W.keepIn K (.ref C20) = true)
    (ga20 : PySem.W.findIn K (.ref C20) "__getattribute__" = some (some (.builtin "BaseException.__getattribute__")))
    (gg20 : PySem.W.findIn K (.ref C20) "__getattr__" = some none)
    (sx20 : PySem.W.subIn K (.ref C20) (.type "BaseException") = some true)
    (hd20 : PySem.W.hasDictIn K C20 = true)
    (ha20 : PySem.W.findIn K (.ref C20) "__class__" = some (some (.builtin "object.__class__")))
    (sa20 : PySem.W.findIn K (.ref C20) "__setattr__" = some (some (.builtin "object.__setattr__")))
    (ex20 : PySem.W.excIn K C20 [.type "ValueError", .type "Exception", .type "BaseException", .type "object"] "ValueError.__new__" = true)
    (aC21 : PySem.W.nsIn K mainGlobals "BadRule" = some (some (.ref C21)))
    (co21 : CoAt K C21 CTE)
    (ty21 : PySem.W.typeIn K (.ref C21) = some (.type "type"))
    (kc21 : PySem.W.keepIn K (.ref C21) = true)
    (ga21 : PySem.W.findIn K (.ref C21) "__getattribute__" = some (some (.builtin "BaseException.__getattribute__")))
    (gg21 : PySem.W.findIn K (.ref C21) "__getattr__" = some none)
    (sx21 : PySem.W.subIn K (.ref C21) (.type "BaseException") = some true)
    (hd21 : PySem.W.hasDictIn K C21 = true)
    (ha21 : PySem.W.findIn K (.ref C21) "__class__" = some (some (.builtin "object.__class__")))
    (sa21 : PySem.W.findIn K (.ref C21) "__setattr__" = some (some (.builtin "object.__setattr__")))
    (aI21 : PySem.W.findIn K (.ref C21) "__init__" = some (some (.ref fI21)))
    (fa21 : FnAt K "BadRule.__init__" (inClass (top 24) 0) fI21)
    (tI21 : PySem.W.typeIn K (.ref fI21) = some (.type "function"))
    (nf21_value : PySem.W.findIn K (.ref C21) "value" = some none)
    (aC22 : PySem.W.nsIn K mainGlobals "BadText" = some (some (.ref C22)))
    (co22 : CoAt K C22 CTE)
    (ty22 : PySem.W.typeIn K (.ref C22) = some (.type "type"))
    (kc22 : PySem.W.keepIn K (.ref C22) = true)
    (ga22 : PySem.W.findIn K (.ref C22) "__getattribute__" = some (some (.builtin "BaseException.__getattribute__")))
    (gg22 : PySem.W.findIn K (.ref C22) "__getattr__" = some none)
    (sx22 : PySem.W.subIn K (.ref C22) (.type "BaseException") = some true)
    (hd22 : PySem.W.hasDictIn K C22 = true)
    (ha22 : PySem.W.findIn K (.ref C22) "__class__" = some (some (.builtin "object.__class__")))
    (sa22 : PySem.W.findIn K (.ref C22) "__setattr__" = some (some (.builtin "object.__setattr__")))
    (aI22 : PySem.W.findIn K (.ref C22) "__init__" = some (some (.ref fI22)))
    (fa22 : FnAt K "BadText.__init__" sIni22 fI22)
    (tI22 : PySem.W.typeIn K (.ref fI22) = some (.type "function"))
    (nf22_line : PySem.W.findIn K (.ref C22) "line" = some none)
    (nf22_word : PySem.W.findIn K (.ref C22) "word" = some none)
    (aC23 : PySem.W.nsIn K mainGlobals "BadLine" = some (some (.ref C23)))
    (co23 : CoAt K C23 CTE)
    (ty23 : PySem.W.typeIn K (.ref C23) = some (.type "type"))
    (kc23 : PySem.W.keepIn K (.ref C23) = true)
    (ga23 : PySem.W.findIn K (.ref C23) "__getattribute__" = some (some (.builtin "BaseException.__getattribute__")))
    (gg23 : PySem.W.findIn K (.ref C23) "__getattr__" = some none)
    (sx23 : PySem.W.subIn K (.ref C23) (.type "BaseException") = some true)
    (hd23 : PySem.W.hasDictIn K C23 = true)
    (ha23 : PySem.W.findIn K (.ref C23) "__class__" = some (some (.builtin "object.__class__")))
    (sa23 : PySem.W.findIn K (.ref C23) "__setattr__" = some (some (.builtin "object.__setattr__")))
    (aI23 : PySem.W.findIn K (.ref C23) "__init__" = some (some (.ref fI23)))
    (fa23 : FnAt K "BadLine.__init__" (inClass (top 26) 0) fI23)
    (tI23 : PySem.W.typeIn K (.ref fI23) = some (.type "function"))
    (nf23_word : PySem.W.findIn K (.ref C23) "word" = some none)
    (inj : ∀ i : Fin 24, ∀ j : Fin 24, ([C0, C1, C2, C3, C4, C5, C6, C7, C8, C9, C10, C11, C12, C13, C14, C15, C16, C17, C18, C19, C20, C21, C22, C23] : List Addr).getD i.val 0 = ([C0, C1, C2, C3, C4, C5, C6, C7, C8, C9, C10, C11, C12, C13, C14, C15, C16, C17, C18, C19, C20, C21, C22, C23] : List Addr).getD j.val 0 → i = j)
    (neT : ∀ i : Fin 24, ([C0, C1, C2, C3, C4, C5, C6, C7, C8, C9, C10, C11, C12, C13, C14, C15, C16, C17, C18, C19, C20, C21, C22, C23] : List Addr).getD i.val 0 ≠ CTE)
    (lcPlc : K.lookup c0Plc = some ⟨ecPlc, dc0Plc, .fields vcPlc, scPlc⟩)
    (tbPlc : vcPlc[11]? = some (.ref P0Plc))
    (tnPlc : K.lookup P0Plc = none)
    (lcLaw : K.lookup c0Law = some ⟨ecLaw, dc0Law, .fields vcLaw, scLaw⟩)
    (tbLaw : vcLaw[11]? = some (.ref P0Law))
    (tnLaw : K.lookup P0Law = none)
    (nePP : P0Plc ≠ P0Law)
    (z_isinstance : PySem.W.nsIn K mainGlobals "isinstance" = some none)
    (z_int : PySem.W.nsIn K mainGlobals "int" = some none)
    (z_bool : PySem.W.nsIn K mainGlobals "bool" = some none)
    (z_str : PySem.W.nsIn K mainGlobals "str" = some none)
    (z_len : PySem.W.nsIn K mainGlobals "len" = some none)
    (z_all : PySem.W.nsIn K mainGlobals "all" = some none)
    (z_zip : PySem.W.nsIn K mainGlobals "zip" = some none)
    (z_range : PySem.W.nsIn K mainGlobals "range" = some none)
    (z_enumerate : PySem.W.nsIn K mainGlobals "enumerate" = some none)
    (z_list : PySem.W.nsIn K mainGlobals "list" = some none)
    (z_abs : PySem.W.nsIn K mainGlobals "abs" = some none)
    (z_repr : PySem.W.nsIn K mainGlobals "repr" = some none)
    (z_tuple : PySem.W.nsIn K mainGlobals "tuple" = some none)
    (z_ValueError : PySem.W.nsIn K mainGlobals "ValueError" = some none)
    : LawG l w K 10 63 mg fa h := by
  have e := hfa.symm.trans (PySem.W.mg_of X G aLaw)
  cases e
  have FInt := fun_mk (st := sIsInt) lInt cInt kInt
  have mInt := PySem.W.mg_of X G aInt
  have bInt := FInt.binds (ps := ["value"]) fun _ _ _ _ _ _ us hl => match us, hl with | [_], _ => rfl
  have FNam := fun_mk (st := sIsName) lNam cNam kNam
  have mNam := PySem.W.mg_of X G aNam
  have bNam := FNam.binds (ps := ["value"]) fun _ _ _ _ _ _ us hl => match us, hl with | [_], _ => rfl
  have FPen := fun_mk (st := sPen) lPen cPen kPen
  have mPen := PySem.W.mg_of X G aPen
  have bPen := FPen.binds (ps := ["_law_script"]) fun _ _ _ _ _ _ us hl => match us, hl with | [_], _ => rfl
  have FDrw := fun_mk (st := sDraw) lDrw cDrw kDrw
  have mDrw := PySem.W.mg_of X G aDrw
  have bDrw := FDrw.binds (ps := ["_law_pen_here", "_law_many"]) fun _ _ _ _ _ _ us hl => match us, hl with | [_, _], _ => rfl
  have FPck := fun_mk (st := sPick) lPck cPck kPck
  have mPck := PySem.W.mg_of X G aPck
  have bPck := FPck.binds (ps := ["_law_pen_here", "_law_some"]) fun _ _ _ _ _ _ us hl => match us, hl with | [_, _], _ => rfl
  have FWrd := fun_mk (st := sWord) lWrd cWrd kWrd
  have mWrd := PySem.W.mg_of X G aWrd
  have bWrd := FWrd.binds (ps := ["_law_pen_here"]) fun _ _ _ _ _ _ us hl => match us, hl with | [_], _ => rfl
  have FOdd := fun_mk (st := sOdd) lOdd cOdd kOdd
  have mOdd := PySem.W.mg_of X G aOdd
  have bOdd := FOdd.binds (ps := ["_law_pen_here", "_law_label"]) fun _ _ _ _ _ _ us hl => match us, hl with | [_, _], _ => rfl
  have FHea := fun_mk (st := sHeard) lHea cHea kHea
  have mHea := PySem.W.mg_of X G aHea
  have bHea := FHea.binds (ps := ["_law_ask"]) fun _ _ _ _ _ _ us hl => match us, hl with | [_], _ => rfl
  have FIsP := fun_mk (st := sIsP) lIsP cIsP kIsP
  have mIsP := PySem.W.mg_of X G aIsP
  have bIsP := FIsP.binds (ps := ["_law_found", "_law_some"]) fun _ _ _ _ _ _ us hl => match us, hl with | [_, _], _ => rfl
  have FDue := fun_mk (st := sDue) lDue cDue kDue
  have mDue := PySem.W.mg_of X G aDue
  have bDue := FDue.binds (ps := ["_law_some", "_law_kept"]) fun _ _ _ _ _ _ us hl => match us, hl with | [_, _], _ => rfl
  have FMrk := fun_mk (st := sMrk) lMrk cMrk kMrk
  have mMrk := PySem.W.mg_of X G aMrk
  have bMrk := FMrk.binds (ps := ["_law_error"]) fun _ _ _ _ _ _ us hl => match us, hl with | [_], _ => rfl
  have FErr := fun_mk (st := sEr) lErr cErr kErr
  have mErr := PySem.W.mg_of X G aErr
  have bErr := FErr.binds (ps := ["_law_first", "_law_second", "_law_last"]) fun _ _ _ _ _ _ us hl => match us, hl with | [_, _, _], _ => rfl
  have FNmd := fun_mk (st := sNr) lNmd cNmd kNmd
  have mNmd := PySem.W.mg_of X G aNmd
  have bNmd := FNmd.binds (ps := ["_law_first", "_law_second", "_law_last"]) fun _ _ _ _ _ _ us hl => match us, hl with | [_, _, _], _ => rfl
  have FPlc := fun_mk (st := sPlc) lPlc cPlc kPlc
  have mPlc := PySem.W.mg_of X G aPlc
  have bPlc := FPlc.binds (ps := ["_law_some"]) fun _ _ _ _ _ _ us hl => match us, hl with | [_], _ => rfl
  have FLaw := fun_mk (st := sLaw) lLaw cLaw kLaw
  have mLaw := PySem.W.mg_of X G aLaw
  have bLaw := FLaw.binds (ps := ["_law_script"]) fun _ _ _ _ _ _ us hl => match us, hl with | [_], _ => rfl
  have FIni := fun_mk (st := sInit) lIni cIni kIni
  have FNms := fun_mk (st := sNames) lNms cNms kNms
  have bNms := FNms.binds (ps := ["self"]) fun _ _ _ _ _ _ us hl => match us, hl with | [_], _ => rfl
  have MNms : PropOf K C "names" pNms fNms := ⟨aNms, gNms, tNms, ⟨_, rNms⟩⟩
  have FTxt := fun_mk (st := sText) lTxt cTxt kTxt
  have bTxt := FTxt.binds (ps := ["self"]) fun _ _ _ _ _ _ us hl => match us, hl with | [_], _ => rfl
  have MTxt : PropOf K C "text" pTxt fTxt := ⟨aTxt, gTxt, tTxt, ⟨_, rTxt⟩⟩
  have FUp := fun_mk (st := sUp) lUp cUp kUp
  have bUp := FUp.binds (ps := ["self"]) fun _ _ _ _ _ _ us hl => match us, hl with | [_], _ => rfl
  have MUp : PropOf K C "up" pUp fUp := ⟨aUp, gUp, tUp, ⟨_, rUp⟩⟩
  have FHd := fun_mk (st := sHead) lHd cHd kHd
  have bHd := FHd.binds (ps := ["self", "k"]) fun _ _ _ _ _ _ us hl => match us, hl with | [_, _], _ => rfl
  have MHd : Meth K C "head" fHd := ⟨aHd, iHd, kHd⟩
  have FLen := fun_mk (st := sLen) lLen cLen kLen
  have bLen := FLen.binds (ps := ["self"]) fun _ _ _ _ _ _ us hl => match us, hl with | [_], _ => rfl
  have MLen : Meth K C "__len__" fLen := ⟨aLen, iLen, kLen⟩
  have FBoo := fun_mk (st := sBool) lBoo cBoo kBoo
  have bBoo := FBoo.binds (ps := ["self"]) fun _ _ _ _ _ _ us hl => match us, hl with | [_], _ => rfl
  have MBoo : Meth K C "__bool__" fBoo := ⟨aBoo, iBoo, kBoo⟩
  have FStr := fun_mk (st := sStr) lStr cStr kStr
  have bStr := FStr.binds (ps := ["self"]) fun _ _ _ _ _ _ us hl => match us, hl with | [_], _ => rfl
  have MStr : Meth K C "__str__" fStr := ⟨aStr, iStr, kStr⟩
  have FRep := fun_mk (st := sRepr) lRep cRep kRep
  have bRep := FRep.binds (ps := ["self"]) fun _ _ _ _ _ _ us hl => match us, hl with | [_], _ => rfl
  have MRep : Meth K C "__repr__" fRep := ⟨aRep, iRep, kRep⟩
  have mC0 := PySem.W.mg_of X G aC0
  have cf0 : CFa K C0 CTE := ⟨co0, ty0, kc0, ga0, gg0, sx0, hd0, ha0, sa0⟩
  have mC1 := PySem.W.mg_of X G aC1
  have cf1 : CFa K C1 CTE := ⟨co1, ty1, kc1, ga1, gg1, sx1, hd1, ha1, sa1⟩
  have mC2 := PySem.W.mg_of X G aC2
  have cf2 : CFa K C2 CTE := ⟨co2, ty2, kc2, ga2, gg2, sx2, hd2, ha2, sa2⟩
  have mC3 := PySem.W.mg_of X G aC3
  have cf3 : CFa K C3 CTE := ⟨co3, ty3, kc3, ga3, gg3, sx3, hd3, ha3, sa3⟩
  have mC4 := PySem.W.mg_of X G aC4
  have cf4 : CFa K C4 CTE := ⟨co4, ty4, kc4, ga4, gg4, sx4, hd4, ha4, sa4⟩
  have mC5 := PySem.W.mg_of X G aC5
  have cf5 : CFa K C5 CTE := ⟨co5, ty5, kc5, ga5, gg5, sx5, hd5, ha5, sa5⟩
  have ME5 : MkZ K mg "UnlikeColumns" C5 := ⟨ex5, mC5, kc5⟩
  have mC6 := PySem.W.mg_of X G aC6
  have cf6 : CFa K C6 CTE := ⟨co6, ty6, kc6, ga6, gg6, sx6, hd6, ha6, sa6⟩
  have mC7 := PySem.W.mg_of X G aC7
  have cf7 : CFa K C7 CTE := ⟨co7, ty7, kc7, ga7, gg7, sx7, hd7, ha7, sa7⟩
  have mC8 := PySem.W.mg_of X G aC8
  have cf8 : CFa K C8 CTE := ⟨co8, ty8, kc8, ga8, gg8, sx8, hd8, ha8, sa8⟩
  have mC9 := PySem.W.mg_of X G aC9
  have cf9 : CFa K C9 CTE := ⟨co9, ty9, kc9, ga9, gg9, sx9, hd9, ha9, sa9⟩
  have mC10 := PySem.W.mg_of X G aC10
  have cf10 : CFa K C10 CTE := ⟨co10, ty10, kc10, ga10, gg10, sx10, hd10, ha10, sa10⟩
  have mC11 := PySem.W.mg_of X G aC11
  have cf11 : CFa K C11 CTE := ⟨co11, ty11, kc11, ga11, gg11, sx11, hd11, ha11, sa11⟩
  have mC12 := PySem.W.mg_of X G aC12
  have cf12 : CFa K C12 CTE := ⟨co12, ty12, kc12, ga12, gg12, sx12, hd12, ha12, sa12⟩
  have mC13 := PySem.W.mg_of X G aC13
  have cf13 : CFa K C13 CTE := ⟨co13, ty13, kc13, ga13, gg13, sx13, hd13, ha13, sa13⟩
  have ME13 : MkZ K mg "ManyColumns" C13 := ⟨ex13, mC13, kc13⟩
  have mC14 := PySem.W.mg_of X G aC14
  have cf14 : CFa K C14 CTE := ⟨co14, ty14, kc14, ga14, gg14, sx14, hd14, ha14, sa14⟩
  have mC15 := PySem.W.mg_of X G aC15
  have cf15 : CFa K C15 CTE := ⟨co15, ty15, kc15, ga15, gg15, sx15, hd15, ha15, sa15⟩
  have mC16 := PySem.W.mg_of X G aC16
  have cf16 : CFa K C16 CTE := ⟨co16, ty16, kc16, ga16, gg16, sx16, hd16, ha16, sa16⟩
  have mC17 := PySem.W.mg_of X G aC17
  have cf17 : CFa K C17 CTE := ⟨co17, ty17, kc17, ga17, gg17, sx17, hd17, ha17, sa17⟩
  have mC18 := PySem.W.mg_of X G aC18
  have cf18 : CFa K C18 CTE := ⟨co18, ty18, kc18, ga18, gg18, sx18, hd18, ha18, sa18⟩
  have mC19 := PySem.W.mg_of X G aC19
  have cf19 : CFa K C19 CTE := ⟨co19, ty19, kc19, ga19, gg19, sx19, hd19, ha19, sa19⟩
  have ME19 : MkZ K mg "NoExchange" C19 := ⟨ex19, mC19, kc19⟩
  have mC20 := PySem.W.mg_of X G aC20
  have cf20 : CFa K C20 CTE := ⟨co20, ty20, kc20, ga20, gg20, sx20, hd20, ha20, sa20⟩
  have ME20 : MkZ K mg "Underway" C20 := ⟨ex20, mC20, kc20⟩
  have mC21 := PySem.W.mg_of X G aC21
  have cf21 : CFa K C21 CTE := ⟨co21, ty21, kc21, ga21, gg21, sx21, hd21, ha21, sa21⟩
  have mC22 := PySem.W.mg_of X G aC22
  have cf22 : CFa K C22 CTE := ⟨co22, ty22, kc22, ga22, gg22, sx22, hd22, ha22, sa22⟩
  have mC23 := PySem.W.mg_of X G aC23
  have cf23 : CFa K C23 CTE := ⟨co23, ty23, kc23, ga23, gg23, sx23, hd23, ha23, sa23⟩
  have t0Plc := tabIn_of aPlc lPlc rfl lcPlc tbPlc
  have t0Law := tabIn_of aLaw lLaw rfl lcLaw tbLaw
  have T : BT mg := ⟨PySem.W.mg_none_of X G z_isinstance, PySem.W.mg_none_of X G z_int, PySem.W.mg_none_of X G z_bool, PySem.W.mg_none_of X G z_str, PySem.W.mg_none_of X G z_len, PySem.W.mg_none_of X G z_all, PySem.W.mg_none_of X G z_zip, PySem.W.mg_none_of X G z_range, PySem.W.mg_none_of X G z_enumerate, PySem.W.mg_none_of X G z_list, PySem.W.mg_none_of X G z_abs⟩
  have TG : GT mg := ⟨T, ⟨_, PySem.W.mg_of X G lg⟩⟩
  have U : CT K mg C (.type "type") := ⟨⟨pg, hd, po, sa⟩, nN, PySem.W.mg_of X G aC, ⟨rd, ga⟩, ⟨_, mo, ⟨_, rfl⟩⟩, ⟨_, mi, ⟨_, rfl⟩, ms, by decide +kernel⟩, ha, hn, htk, hm, kit_tyC ty hm rfl, kit_self ty mC, kit_Cty (by decide +kernel) mS⟩
  have MM : Mk K C fIni := ⟨mk, aIni, iIni, kc⟩
  obtain ⟨CH1, hP1⟩ := hT "_law_placed" c0Plc P0Plc hq1 t0Plc
  obtain ⟨CH2, hP2⟩ := hT "law" c0Law P0Law hq2 t0Law
  have two : ∀ {α : Type} {x y p : α}, p ∈ [x, y] → p = x ∨ p = y := fun h => by simpa using h
  refine ⟨[(c0Plc, P0Plc), (c0Law, P0Law)], spLaw K [(P0Plc, qPlc), (P0Law, qLaw)], fun p hp => ?_, fun H a ns hl hT2 hS => ⟨a, ns, rfl, hS, hl, fun p hp => ?_, fun _ => rfl⟩, fun base _ _ hTB => ?_⟩
  · rcases two hp with rfl | rfl
    · exact ⟨hP1, tnPlc, CH1⟩
    · exact ⟨hP2, tnLaw, CH2⟩
  · rcases two hp with rfl | rfl
    · exact TabS.nil (hT2 (c0Plc, P0Plc) (by simp))
    · exact TabS.nil (hT2 (c0Law, P0Law) (by simp))
  obtain ⟨fd0, Er0, ME0⟩ := mkE1 (P := l.prog) (w := w) (base := base) (st := sIniN) cf0 mC0 aI0 tI0 fa0 nf0_value scIniN rfl (by decide +kernel) (by decide +kernel) (fun _ _ _ _ _ _ _ _ => rfl) (fun _ _ _ _ _ _ _ _ => rfl)
  obtain ⟨fd1, Er1, ME1⟩ := mkE1 (P := l.prog) (w := w) (base := base) (st := sIniP) cf1 mC1 aI1 tI1 fa1 nf1_value scIniP rfl (by decide +kernel) (by decide +kernel) (fun _ _ _ _ _ _ _ _ => rfl) (fun _ _ _ _ _ _ _ _ => rfl)
  obtain ⟨fd2, Er2, ME2⟩ := mkE1 (P := l.prog) (w := w) (base := base) (st := (inClass (top 5) 0)) cf2 mC2 aI2 tI2 fa2 nf2_value sce2 rfl (by decide +kernel) (by decide +kernel) (fun _ _ _ _ _ _ _ _ => rfl) (fun _ _ _ _ _ _ _ _ => rfl)
  obtain ⟨fd3, Er3, ME3⟩ := mkE1 (P := l.prog) (w := w) (base := base) (st := (inClass (top 6) 0)) cf3 mC3 aI3 tI3 fa3 nf3_place sce3 rfl (by decide +kernel) (by decide +kernel) (fun _ _ _ _ _ _ _ _ => rfl) (fun _ _ _ _ _ _ _ _ => rfl)
  obtain ⟨fd4, Er4, ME4⟩ := mkE1 (P := l.prog) (w := w) (base := base) (st := (inClass (top 7) 0)) cf4 mC4 aI4 tI4 fa4 nf4_place sce4 rfl (by decide +kernel) (by decide +kernel) (fun _ _ _ _ _ _ _ _ => rfl) (fun _ _ _ _ _ _ _ _ => rfl)
  obtain ⟨fd6, Er6, ME6⟩ := mkE1 (P := l.prog) (w := w) (base := base) (st := sIniM) cf6 mC6 aI6 tI6 fa6 nf6_most scIniM rfl (by decide +kernel) (by decide +kernel) (fun _ _ _ _ _ _ _ _ => rfl) (fun _ _ _ _ _ _ _ _ => rfl)
  obtain ⟨fd7, Er7, ME7⟩ := mkE1 (P := l.prog) (w := w) (base := base) (st := (inClass (top 10) 0)) cf7 mC7 aI7 tI7 fa7 nf7_value sce7 rfl (by decide +kernel) (by decide +kernel) (fun _ _ _ _ _ _ _ _ => rfl) (fun _ _ _ _ _ _ _ _ => rfl)
  obtain ⟨fd8, Er8, ME8⟩ := mkE1 (P := l.prog) (w := w) (base := base) (st := (inClass (top 11) 0)) cf8 mC8 aI8 tI8 fa8 nf8_at sce8 rfl (by decide +kernel) (by decide +kernel) (fun _ _ _ _ _ _ _ _ => rfl) (fun _ _ _ _ _ _ _ _ => rfl)
  obtain ⟨fd9, Er9, ME9⟩ := mkE1 (P := l.prog) (w := w) (base := base) (st := (inClass (top 12) 0)) cf9 mC9 aI9 tI9 fa9 nf9_k sce9 rfl (by decide +kernel) (by decide +kernel) (fun _ _ _ _ _ _ _ _ => rfl) (fun _ _ _ _ _ _ _ _ => rfl)
  obtain ⟨fd10, Er10, ME10⟩ := mkE1 (P := l.prog) (w := w) (base := base) (st := (inClass (top 13) 0)) cf10 mC10 aI10 tI10 fa10 nf10_ring sce10 rfl (by decide +kernel) (by decide +kernel) (fun _ _ _ _ _ _ _ _ => rfl) (fun _ _ _ _ _ _ _ _ => rfl)
  obtain ⟨fd11, Er11, ME11⟩ := mkE1 (P := l.prog) (w := w) (base := base) (st := (inClass (top 14) 0)) cf11 mC11 aI11 tI11 fa11 nf11_place sce11 rfl (by decide +kernel) (by decide +kernel) (fun _ _ _ _ _ _ _ _ => rfl) (fun _ _ _ _ _ _ _ _ => rfl)
  obtain ⟨fd12, Er12, ME12⟩ := mkE1 (P := l.prog) (w := w) (base := base) (st := (inClass (top 15) 0)) cf12 mC12 aI12 tI12 fa12 nf12_value sce12 rfl (by decide +kernel) (by decide +kernel) (fun _ _ _ _ _ _ _ _ => rfl) (fun _ _ _ _ _ _ _ _ => rfl)
  obtain ⟨fd14, Er14, ME14⟩ := mkE1 (P := l.prog) (w := w) (base := base) (st := (inClass (top 17) 0)) cf14 mC14 aI14 tI14 fa14 nf14_place sce14 rfl (by decide +kernel) (by decide +kernel) (fun _ _ _ _ _ _ _ _ => rfl) (fun _ _ _ _ _ _ _ _ => rfl)
  obtain ⟨fd15, Er15, ME15⟩ := mkE1 (P := l.prog) (w := w) (base := base) (st := (inClass (top 18) 0)) cf15 mC15 aI15 tI15 fa15 nf15_at sce15 rfl (by decide +kernel) (by decide +kernel) (fun _ _ _ _ _ _ _ _ => rfl) (fun _ _ _ _ _ _ _ _ => rfl)
  obtain ⟨fd16, Er16, ME16⟩ := mkE1 (P := l.prog) (w := w) (base := base) (st := (inClass (top 19) 0)) cf16 mC16 aI16 tI16 fa16 nf16_value sce16 rfl (by decide +kernel) (by decide +kernel) (fun _ _ _ _ _ _ _ _ => rfl) (fun _ _ _ _ _ _ _ _ => rfl)
  obtain ⟨fd17, ME17⟩ := mkE17 (P := l.prog) (w := w) (base := base) cf17 mC17 aI17 tI17 fa17 nf17_place nf17_column nf17_heard
  obtain ⟨fd18, ME18⟩ := mkE18 (P := l.prog) (w := w) (base := base) cf18 mC18 aI18 tI18 fa18 nf18_number nf18_ahead
  obtain ⟨fd21, Er21, ME21⟩ := mkE1 (P := l.prog) (w := w) (base := base) (st := (inClass (top 24) 0)) cf21 mC21 aI21 tI21 fa21 nf21_value sce21 rfl (by decide +kernel) (by decide +kernel) (fun _ _ _ _ _ _ _ _ => rfl) (fun _ _ _ _ _ _ _ _ => rfl)
  obtain ⟨fd22, ME22⟩ := mkE22 (P := l.prog) (w := w) (base := base) cf22 mC22 aI22 tI22 fa22 nf22_line nf22_word
  obtain ⟨fd23, Er23, ME23⟩ := mkE1 (P := l.prog) (w := w) (base := base) (st := (inClass (top 26) 0)) cf23 mC23 aI23 tI23 fa23 nf23_word sce23 rfl (by decide +kernel) (by decide +kernel) (fun _ _ _ _ _ _ _ _ => rfl) (fun _ _ _ _ _ _ _ _ => rfl)
  have cfs : ∀ i, i < 24 → CFa K (([C0, C1, C2, C3, C4, C5, C6, C7, C8, C9, C10, C11, C12, C13, C14, C15, C16, C17, C18, C19, C20, C21, C22, C23] : List Addr).getD i 0) CTE := fun i hi => by
    match i, hi with
    | 0, _ => exact cf0
    | 1, _ => exact cf1
    | 2, _ => exact cf2
    | 3, _ => exact cf3
    | 4, _ => exact cf4
    | 5, _ => exact cf5
    | 6, _ => exact cf6
    | 7, _ => exact cf7
    | 8, _ => exact cf8
    | 9, _ => exact cf9
    | 10, _ => exact cf10
    | 11, _ => exact cf11
    | 12, _ => exact cf12
    | 13, _ => exact cf13
    | 14, _ => exact cf14
    | 15, _ => exact cf15
    | 16, _ => exact cf16
    | 17, _ => exact cf17
    | 18, _ => exact cf18
    | 19, _ => exact cf19
    | 20, _ => exact cf20
    | 21, _ => exact cf21
    | 22, _ => exact cf22
    | 23, _ => exact cf23
    | n + 24, h => exact absurd h (by omega)
  have GG : ErrG K mg (fun i => ([C0, C1, C2, C3, C4, C5, C6, C7, C8, C9, C10, C11, C12, C13, C14, C15, C16, C17, C18, C19, C20, C21, C22, C23] : List Addr).getD i 0) CTE := {
    mT := PySem.W.mg_of X G aCT
    m0 := mC0
    m1 := mC1
    m2 := mC2
    m3 := mC3
    m4 := mC4
    m5 := mC5
    m6 := mC6
    m7 := mC7
    m8 := mC8
    m9 := mC9
    m10 := mC10
    m11 := mC11
    m12 := mC12
    m13 := mC13
    m14 := mC14
    m15 := mC15
    m16 := mC16
    m17 := mC17
    m18 := mC18
    m19 := mC19
    m20 := mC20
    m21 := mC21
    m22 := mC22
    m23 := mC23
    kit := fun i j hi hj => by
      have z := kit_eq (cfs i hi).co (cfs j hj).co (cfs j hj).ty (neT ⟨j, hj⟩)
      rw [z]
      congr 1
      by_cases q : i = j
      · subst q
        rw [decide_eq_true rfl, decide_eq_true rfl]
      · rw [decide_eq_false q, decide_eq_false (fun y => q (congrArg Fin.val (inj ⟨i, hi⟩ ⟨j, hj⟩ y)))]
    kitT := fun i hi => kit_top (cfs i hi).co tCT moT (neT ⟨i, hi⟩)
    kitV := fun i hi => kit_val (cfs i hi).co
    xc := fun i hi => (cfs i hi).xc hn htk
    xf := fun i hi => (cfs i hi).xf }
  have EM : ErrM l.prog w K mg base (fun i => ([C0, C1, C2, C3, C4, C5, C6, C7, C8, C9, C10, C11, C12, C13, C14, C15, C16, C17, C18, C19, C20, C21, C22, C23] : List Addr).getD i 0) (fun i => ([fI0, fI1, fI2, fI3, fI4, 0, fI6, fI7, fI8, fI9, fI10, fI11, fI12, 0, fI14, fI15, fI16, fI17, fI18, 0, 0, fI21, fI22, fI23] : List Addr).getD i 0) (fun i => ([fd0, fd1, fd2, fd3, fd4, fd0, fd6, fd7, fd8, fd9, fd10, fd11, fd12, fd0, fd14, fd15, fd16, fd17, fd18, fd0, fd0, fd21, fd22, fd23] : List FuncData).getD i fd0) := {
    e0 := ME0
    e1 := ME1
    e2 := ME2
    e3 := ME3
    e4 := ME4
    e5 := ME5
    e6 := ME6
    e7 := ME7
    e8 := ME8
    e9 := ME9
    e10 := ME10
    e11 := ME11
    e12 := ME12
    e13 := ME13
    e14 := ME14
    e15 := ME15
    e16 := ME16
    e17 := ME17
    e18 := ME18
    e19 := ME19
    e20 := ME20
    e21 := ME21
    e22 := ME22
    e23 := ME23
    n0_value := nf0_value
    n1_value := nf1_value
    n2_value := nf2_value
    n3_place := nf3_place
    n4_place := nf4_place
    n6_most := nf6_most
    n7_value := nf7_value
    n8_at := nf8_at
    n9_k := nf9_k
    n10_ring := nf10_ring
    n11_place := nf11_place
    n12_value := nf12_value
    n14_place := nf14_place
    n15_at := nf15_at
    n16_value := nf16_value
    n17_place := nf17_place
    n17_column := nf17_column
    n17_heard := nf17_heard
    n18_number := nf18_number
    n18_ahead := nf18_ahead
    n21_value := nf21_value
    n22_line := nf22_line
    n22_word := nf22_word
    n23_word := nf23_word }
  have RR : ErF K mg C0 C6 C1 CTE := ⟨PySem.W.mg_of X G aCT, mC0, mC6, mC1, PySem.W.exm_ref sCT dCT tCT (sub_top co0), PySem.W.exm_ref sCT dCT tCT (sub_top co6), PySem.W.exm_ref sCT dCT tCT (sub_top co1),
    GG.kit 0 0 (by decide) (by decide), GG.kit 0 6 (by decide) (by decide), GG.kit 0 1 (by decide) (by decide), GG.kit 6 0 (by decide) (by decide), GG.kit 6 6 (by decide) (by decide), GG.kit 6 1 (by decide) (by decide), GG.kit 1 0 (by decide) (by decide), GG.kit 1 6 (by decide) (by decide), GG.kit 1 1 (by decide) (by decide), kit_val co0, kit_val co6, kit_val co1, cf0.xc hn htk, cf6.xc hn htk, cf1.xc hn htk, cf0.xf, cf6.xf, cf1.xf, nf0_value, nf6_most, nf1_value⟩
  have GMk : FnR l.prog w K mg base CX0 2 fIni (spMk C) := ok_init FIni TG U FNam bNam mNam
  have GMkA : FnR l.prog w K mg base (L2.CX l.prog w) 3 fIni (spMkA K C C0 C6) := ok_initA FIni TG U FNam bNam mNam Er0 Er6
  have GNms : FnOk l.prog w K mg base CX0 1 fNms _ ["self"] (spNames C) := ok_names FNms U
  have GTxt : FnOk l.prog w K mg base CX0 1 fTxt _ ["self"] (spText C) := ok_text FTxt U
  have GHd : FnOk l.prog w K mg base CX0 4 fHd _ ["self", "k"] (spHead C) := ok_head FHd T U FInt bInt mInt MM GMk
  have GHdB : FnOk l.prog w K mg base (L2.CX l.prog w) 3 fHd _ ["self", "k"] (spHeadB K C C1) := ok_headB FHd T U FInt bInt mInt Er1
  have GUp : FnOk l.prog w K mg base CX0 5 fUp _ ["self"] (spUp C) := ok_up FUp T U GHd bHd MHd
  have GLen : FnOk l.prog w K mg base CX0 1 fLen _ ["self"] (spLen C) := ok_len FLen T U
  have GBoo : FnOk l.prog w K mg base CX0 1 fBoo _ ["self"] (spBool C) := ok_bool FBoo T U
  have GStr : FnOk l.prog w K mg base CX0 3 fStr _ ["self"] (spStr C) := ok_strP FStr U GTxt bTxt MTxt
  have GRep : FnOk l.prog w K mg base CX0 3 fRep _ ["self"] (spRepr C) := ok_reprP FRep U GTxt bTxt MTxt
  have GDrw : FnOk l.prog w K mg base CX0 1 fDrw _ ["_law_pen_here", "_law_many"] spDraw := ok_draw FDrw T
  have GPck : FnOk l.prog w K mg base CX0 2 fPck _ ["_law_pen_here", "_law_some"] spPick := ok_pick FPck T FDrw bDrw mDrw
  have GPckS : FnOk l.prog w K mg base CX0 2 fPck _ ["_law_pen_here", "_law_some"] spPickS := ok_pickS FPck T FDrw bDrw mDrw
  have GPen : FnOk l.prog w K mg base CX0 1 fPen _ ["_law_script"] (spPen K) := ok_pen FPen T
  have W : Wo l.prog w K mg base ⟨C, C0, C6, C1, CTE, fHd, fLen, fBoo, fStr, fRep, fNms, pNms, fTxt, pTxt, fUp, pUp, fIni, fDrw, fPck, fPen, .type "type", _, _, _, _, _, _, _⟩ :=
    ⟨TG, PySem.W.mg_none_of X G z_repr, PySem.W.mg_none_of X G z_tuple, PySem.W.mg_none_of X G z_ValueError, U, RR, sf, MHd, GHd, bHd, MUp, GUp, bUp, MLen, fnR_of GLen bLen, MBoo, fnR_of GBoo bBoo, MStr, fnR_of GStr bStr, MRep, fnR_of GRep bRep,
      MNms, GNms, bNms, MTxt, GTxt, bTxt, MM, GMk, GMkA, GHdB, mDrw, kDrw, GDrw, bDrw, mPck, kPck, GPck, GPckS, bPck, mPen, kPen, GPen, bPen⟩
  have GWrd := ok_word W FWrd
  have GOdd := ok_odd W FOdd
  have GDue := ok_due W FDue
  have GIsP := gIsP W FIsP bIsP
  have GMrk := ok_mrk T GG FMrk (P := l.prog) (w := w) (base := base)
  have GErr := gEr W GG EM FErr bErr GMrk mMrk kMrk bMrk
  have GNmd := gNr W GG EM FNmd bNmd
  have GPlc := gPlc (Tb := [(P0Plc, qPlc), (P0Law, qLaw)]) W lPlc cPlc bPlc (hTB (c0Plc, P0Plc) (by simp)) (by simp) (fun p hp e => by
    rcases two hp with rfl | rfl
    · rfl
    · exact absurd e.symm nePP)
  exact gLaw (Tb := [(P0Plc, qPlc), (P0Law, qLaw)]) W ty mI0 mB0 lLaw cLaw bLaw GWrd mWrd kWrd bWrd GOdd mOdd kOdd bOdd GDue mDue kDue bDue GPlc mPlc kPlc GIsP mIsP kIsP GErr mErr kErr GNmd mNmd kNmd mHea kHea lHea cHea bHea (hTB (c0Law, P0Law) (by simp)) (by simp) (fun p hp e => by
    rcases two hp with rfl | rfl
    · exact absurd e nePP
    · rfl)
theorem walk {l : PySem.W.OpenLaw} {q : Program} {loose : List Str} {XP : (Str → Option Value) → Heap → Prop} {YP : World → Heap → Prop} {d : DefRec} {K : Params → PySem.W.Frag} (hn : l.most = some 63) (hdf : d.params.defaults = [])
    (hY : ∀ (w : World) (h : Heap), YP w h → (K w.params).In h)
    (F : ∀ (w : World) (mg : Str → Option Value) (fa : Addr) (h : Heap), (K w.params).In h → h.Ns mainGlobals mg → mg d.name = some (.ref fa) → TabsOf q (K w.params) h → LawG l w (K w.params) 10 63 mg fa h) :
    PySem.W.WalkO q loose XP YP l.row.toRowW d [] (fun f vs => PySem.call f vs) :=
  walk_G hn (by decide) hdf ⟨rfl, by decide, by decide⟩ hY F
end Pl

open PySem PySem.W PyProof.Rows
set_option maxRecDepth 100000 in
set_option maxHeartbeats 0 in
theorem PySem.Challenge.cw_nearestsays_k01_places_made_holds : PySem.Challenge.rw_nearestsays_k01_places_made.Holds := by
  w_on; o_law; k_head; (case hw => w_witness2)
  k_fill
  refine Pl.walk (l := PySem.Challenge.rw_nearestsays_k01_places_made) rfl rfl (fun w h Y => PySem.W.km_in_of Y) ?F
  case F =>
    intro w mg fa h KX G hmg hT
    refine' Pl.all_mk KX G hmg hT (by decide +kernel) (by decide +kernel) ?aInt ?lInt ?cInt ?kInt ?aNam ?lNam ?cNam ?kNam ?aPen ?lPen ?cPen ?kPen ?aDrw ?lDrw ?cDrw ?kDrw ?aPck ?lPck ?cPck ?kPck ?aWrd ?lWrd ?cWrd ?kWrd ?aOdd ?lOdd ?cOdd ?kOdd ?aHea ?lHea ?cHea ?kHea ?aIsP ?lIsP ?cIsP ?kIsP ?aDue ?lDue ?cDue ?kDue ?aMrk ?lMrk ?cMrk ?kMrk ?aErr ?lErr ?cErr ?kErr ?aNmd ?lNmd ?cNmd ?kNmd ?aPlc ?lPlc ?cPlc ?kPlc ?aLaw ?lLaw ?cLaw ?kLaw ?lIni ?cIni ?kIni ?aIni ?iIni ?lNms ?cNms ?kNms ?aNms ?gNms ?tNms ?rNms ?lTxt ?cTxt ?kTxt ?aTxt ?gTxt ?tTxt ?rTxt ?lUp ?cUp ?kUp ?aUp ?gUp ?tUp ?rUp ?lHd ?cHd ?kHd ?aHd ?iHd ?lLen ?cLen ?kLen ?aLen ?iLen ?lBoo ?cBoo ?kBoo ?aBoo ?iBoo ?lStr ?cStr ?kStr ?aStr ?iStr ?lRep ?cRep ?kRep ?aRep ?iRep ?aC ?pg ?hd ?po ?sa ?mk ?kc ?nN ?rd ?ga ?mo ?mi ?ms ?ha ?hn ?htk ?hm ?ty ?mC ?mS ?sf ?nE ?sub ?lg ?aCT ?sCT ?dCT ?tCT ?mI0 ?mB0 ?moT ?aC0 ?co0 ?ty0 ?kc0 ?ga0 ?gg0 ?sx0 ?hd0 ?ha0 ?sa0 ?aI0 ?fa0 ?tI0 ?nf0_value ?aC1 ?co1 ?ty1 ?kc1 ?ga1 ?gg1 ?sx1 ?hd1 ?ha1 ?sa1 ?aI1 ?fa1 ?tI1 ?nf1_value ?aC2 ?co2 ?ty2 ?kc2 ?ga2 ?gg2 ?sx2 ?hd2 ?ha2 ?sa2 ?aI2 ?fa2 ?tI2 ?nf2_value ?aC3 ?co3 ?ty3 ?kc3 ?ga3 ?gg3 ?sx3 ?hd3 ?ha3 ?sa3 ?aI3 ?fa3 ?tI3 ?nf3_place ?aC4 ?co4 ?ty4 ?kc4 ?ga4 ?gg4 ?sx4 ?hd4 ?ha4 ?sa4 ?aI4 ?fa4 ?tI4 ?nf4_place ?aC5 ?co5 ?ty5 ?kc5 ?ga5 ?gg5 ?sx5 ?hd5 ?ha5 ?sa5 ?ex5 ?aC6 ?co6 ?ty6 ?kc6 ?ga6 ?gg6 ?sx6 ?hd6 ?ha6 ?sa6 ?aI6 ?fa6 ?tI6 ?nf6_most ?aC7 ?co7 ?ty7 ?kc7 ?ga7 ?gg7 ?sx7 ?hd7 ?ha7 ?sa7 ?aI7 ?fa7 ?tI7 ?nf7_value ?aC8 ?co8 ?ty8 ?kc8 ?ga8 ?gg8 ?sx8 ?hd8 ?ha8 ?sa8 ?aI8 ?fa8 ?tI8 ?nf8_at ?aC9 ?co9 ?ty9 ?kc9 ?ga9 ?gg9 ?sx9 ?hd9 ?ha9 ?sa9 ?aI9 ?fa9 ?tI9 ?nf9_k ?aC10 ?co10 ?ty10 ?kc10 ?ga10 ?gg10 ?sx10 ?hd10 ?ha10 ?sa10 ?aI10 ?fa10 ?tI10 ?nf10_ring ?aC11 ?co11 ?ty11 ?kc11 ?ga11 ?gg11 ?sx11 ?hd11 ?ha11 ?sa11 ?aI11 ?fa11 ?tI11 ?nf11_place ?aC12 ?co12 ?ty12 ?kc12 ?ga12 ?gg12 ?sx12 ?hd12 ?ha12 ?sa12 ?aI12 ?fa12 ?tI12 ?nf12_value ?aC13 ?co13 ?ty13 ?kc13 ?ga13 ?gg13 ?sx13 ?hd13 ?ha13 ?sa13 ?ex13 ?aC14 ?co14 ?ty14 ?kc14 ?ga14 ?gg14 ?sx14 ?hd14 ?ha14 ?sa14 ?aI14 ?fa14 ?tI14 ?nf14_place ?aC15 ?co15 ?ty15 ?kc15 ?ga15 ?gg15 ?sx15 ?hd15 ?ha15 ?sa15 ?aI15 ?fa15 ?tI15 ?nf15_at ?aC16 ?co16 ?ty16 ?kc16 ?ga16 ?gg16 ?sx16 ?hd16 ?ha16 ?sa16 ?aI16 ?fa16 ?tI16 ?nf16_value ?aC17 ?co17 ?ty17 ?kc17 ?ga17 ?gg17 ?sx17 ?hd17 ?ha17 ?sa17 ?aI17 ?fa17 ?tI17 ?nf17_place ?nf17_column ?nf17_heard ?aC18 ?co18 ?ty18 ?kc18 ?ga18 ?gg18 ?sx18 ?hd18 ?ha18 ?sa18 ?aI18 ?fa18 ?tI18 ?nf18_number ?nf18_ahead ?aC19 ?co19 ?ty19 ?kc19 ?ga19 ?gg19 ?sx19 ?hd19 ?ha19 ?sa19 ?ex19 ?aC20 ?co20 ?ty20 ?kc20 ?ga20 ?gg20 ?sx20 ?hd20 ?ha20 ?sa20 ?ex20 ?aC21 ?co21 ?ty21 ?kc21 ?ga21 ?gg21 ?sx21 ?hd21 ?ha21 ?sa21 ?aI21 ?fa21 ?tI21 ?nf21_value ?aC22 ?co22 ?ty22 ?kc22 ?ga22 ?gg22 ?sx22 ?hd22 ?ha22 ?sa22 ?aI22 ?fa22 ?tI22 ?nf22_line ?nf22_word ?aC23 ?co23 ?ty23 ?kc23 ?ga23 ?gg23 ?sx23 ?hd23 ?ha23 ?sa23 ?aI23 ?fa23 ?tI23 ?nf23_word ?inj ?neT ?lcPlc ?tbPlc ?tnPlc ?lcLaw ?tbLaw ?tnLaw ?nePP ?z_isinstance ?z_int ?z_bool ?z_str ?z_len ?z_all ?z_zip ?z_range ?z_enumerate ?z_list ?z_abs ?z_repr ?z_tuple ?z_ValueError
    (case aC => k_is)
    (case aCT => k_is)
    (case aC0 => k_is)
    (case aC1 => k_is)
    (case aC2 => k_is)
    (case aC3 => k_is)
    (case aC4 => k_is)
    (case aC5 => k_is)
    (case aC6 => k_is)
    (case aC7 => k_is)
    (case aC8 => k_is)
    (case aC9 => k_is)
    (case aC10 => k_is)
    (case aC11 => k_is)
    (case aC12 => k_is)
    (case aC13 => k_is)
    (case aC14 => k_is)
    (case aC15 => k_is)
    (case aC16 => k_is)
    (case aC17 => k_is)
    (case aC18 => k_is)
    (case aC19 => k_is)
    (case aC20 => k_is)
    (case aC21 => k_is)
    (case aC22 => k_is)
    (case aC23 => k_is)
    (case aInt => k_is)
    (case aNam => k_is)
    (case aPen => k_is)
    (case aDrw => k_is)
    (case aPck => k_is)
    (case aWrd => k_is)
    (case aOdd => k_is)
    (case aHea => k_is)
    (case aIsP => k_is)
    (case aDue => k_is)
    (case aMrk => k_is)
    (case aErr => k_is)
    (case aNmd => k_is)
    (case aPlc => k_is)
    (case aLaw => k_is)
    (case aIni => k_is)
    (case aNms => k_is)
    (case aTxt => k_is)
    (case aUp => k_is)
    (case aHd => k_is)
    (case aLen => k_is)
    (case aBoo => k_is)
    (case aStr => k_is)
    (case aRep => k_is)
    (case aI0 => k_is)
    (case aI1 => k_is)
    (case aI2 => k_is)
    (case aI3 => k_is)
    (case aI4 => k_is)
    (case aI6 => k_is)
    (case aI7 => k_is)
    (case aI8 => k_is)
    (case aI9 => k_is)
    (case aI10 => k_is)
    (case aI11 => k_is)
    (case aI12 => k_is)
    (case aI14 => k_is)
    (case aI15 => k_is)
    (case aI16 => k_is)
    (case aI17 => k_is)
    (case aI18 => k_is)
    (case aI21 => k_is)
    (case aI22 => k_is)
    (case aI23 => k_is)
    (case rNms => k_is)
    (case rTxt => k_is)
    (case rUp => k_is)
    (case mo => k_is)
    (case lg => k_is)
    (case lInt => k_is)
    (case lNam => k_is)
    (case lPen => k_is)
    (case lDrw => k_is)
    (case lPck => k_is)
    (case lWrd => k_is)
    (case lOdd => k_is)
    (case lHea => k_is)
    (case lIsP => k_is)
    (case lDue => k_is)
    (case lMrk => k_is)
    (case lErr => k_is)
    (case lNmd => k_is)
    (case lPlc => k_is)
    (case lLaw => k_is)
    (case lIni => k_is)
    (case lNms => k_is)
    (case lTxt => k_is)
    (case lUp => k_is)
    (case lHd => k_is)
    (case lLen => k_is)
    (case lBoo => k_is)
    (case lStr => k_is)
    (case lRep => k_is)
    (case co0 => (refine' Pl.CoAt.mk ?hh; (case hh => k_is)))
    (case fa0 => (refine' Pl.FnAt.mk ?h1 ?h2 ?h3; (case h1 => k_is); (case h2 => k_is); (case h3 => k_is)))
    (case co1 => (refine' Pl.CoAt.mk ?hh; (case hh => k_is)))
    (case fa1 => (refine' Pl.FnAt.mk ?h1 ?h2 ?h3; (case h1 => k_is); (case h2 => k_is); (case h3 => k_is)))
    (case co2 => (refine' Pl.CoAt.mk ?hh; (case hh => k_is)))
    (case fa2 => (refine' Pl.FnAt.mk ?h1 ?h2 ?h3; (case h1 => k_is); (case h2 => k_is); (case h3 => k_is)))
    (case co3 => (refine' Pl.CoAt.mk ?hh; (case hh => k_is)))
    (case fa3 => (refine' Pl.FnAt.mk ?h1 ?h2 ?h3; (case h1 => k_is); (case h2 => k_is); (case h3 => k_is)))
    (case co4 => (refine' Pl.CoAt.mk ?hh; (case hh => k_is)))
    (case fa4 => (refine' Pl.FnAt.mk ?h1 ?h2 ?h3; (case h1 => k_is); (case h2 => k_is); (case h3 => k_is)))
    (case co5 => (refine' Pl.CoAt.mk ?hh; (case hh => k_is)))
    (case co6 => (refine' Pl.CoAt.mk ?hh; (case hh => k_is)))
    (case fa6 => (refine' Pl.FnAt.mk ?h1 ?h2 ?h3; (case h1 => k_is); (case h2 => k_is); (case h3 => k_is)))
    (case co7 => (refine' Pl.CoAt.mk ?hh; (case hh => k_is)))
    (case fa7 => (refine' Pl.FnAt.mk ?h1 ?h2 ?h3; (case h1 => k_is); (case h2 => k_is); (case h3 => k_is)))
    (case co8 => (refine' Pl.CoAt.mk ?hh; (case hh => k_is)))
    (case fa8 => (refine' Pl.FnAt.mk ?h1 ?h2 ?h3; (case h1 => k_is); (case h2 => k_is); (case h3 => k_is)))
    (case co9 => (refine' Pl.CoAt.mk ?hh; (case hh => k_is)))
    (case fa9 => (refine' Pl.FnAt.mk ?h1 ?h2 ?h3; (case h1 => k_is); (case h2 => k_is); (case h3 => k_is)))
    (case co10 => (refine' Pl.CoAt.mk ?hh; (case hh => k_is)))
    (case fa10 => (refine' Pl.FnAt.mk ?h1 ?h2 ?h3; (case h1 => k_is); (case h2 => k_is); (case h3 => k_is)))
    (case co11 => (refine' Pl.CoAt.mk ?hh; (case hh => k_is)))
    (case fa11 => (refine' Pl.FnAt.mk ?h1 ?h2 ?h3; (case h1 => k_is); (case h2 => k_is); (case h3 => k_is)))
    (case co12 => (refine' Pl.CoAt.mk ?hh; (case hh => k_is)))
    (case fa12 => (refine' Pl.FnAt.mk ?h1 ?h2 ?h3; (case h1 => k_is); (case h2 => k_is); (case h3 => k_is)))
    (case co13 => (refine' Pl.CoAt.mk ?hh; (case hh => k_is)))
    (case co14 => (refine' Pl.CoAt.mk ?hh; (case hh => k_is)))
    (case fa14 => (refine' Pl.FnAt.mk ?h1 ?h2 ?h3; (case h1 => k_is); (case h2 => k_is); (case h3 => k_is)))
    (case co15 => (refine' Pl.CoAt.mk ?hh; (case hh => k_is)))
    (case fa15 => (refine' Pl.FnAt.mk ?h1 ?h2 ?h3; (case h1 => k_is); (case h2 => k_is); (case h3 => k_is)))
    (case co16 => (refine' Pl.CoAt.mk ?hh; (case hh => k_is)))
    (case fa16 => (refine' Pl.FnAt.mk ?h1 ?h2 ?h3; (case h1 => k_is); (case h2 => k_is); (case h3 => k_is)))
    (case co17 => (refine' Pl.CoAt.mk ?hh; (case hh => k_is)))
    (case fa17 => (refine' Pl.FnAt.mk ?h1 ?h2 ?h3; (case h1 => k_is); (case h2 => k_is); (case h3 => k_is)))
    (case co18 => (refine' Pl.CoAt.mk ?hh; (case hh => k_is)))
    (case fa18 => (refine' Pl.FnAt.mk ?h1 ?h2 ?h3; (case h1 => k_is); (case h2 => k_is); (case h3 => k_is)))
    (case co19 => (refine' Pl.CoAt.mk ?hh; (case hh => k_is)))
    (case co20 => (refine' Pl.CoAt.mk ?hh; (case hh => k_is)))
    (case co21 => (refine' Pl.CoAt.mk ?hh; (case hh => k_is)))
    (case fa21 => (refine' Pl.FnAt.mk ?h1 ?h2 ?h3; (case h1 => k_is); (case h2 => k_is); (case h3 => k_is)))
    (case co22 => (refine' Pl.CoAt.mk ?hh; (case hh => k_is)))
    (case fa22 => (refine' Pl.FnAt.mk ?h1 ?h2 ?h3; (case h1 => k_is); (case h2 => k_is); (case h3 => k_is)))
    (case co23 => (refine' Pl.CoAt.mk ?hh; (case hh => k_is)))
    (case fa23 => (refine' Pl.FnAt.mk ?h1 ?h2 ?h3; (case h1 => k_is); (case h2 => k_is); (case h3 => k_is)))
    (case lcPlc => k_is)
    (case lcLaw => k_is)
    (case tbPlc => rfl)
    (case tbLaw => rfl)
    (case cInt => k_is)
    (case kInt => k_is)
    (case cNam => k_is)
    (case kNam => k_is)
    (case cPen => k_is)
    (case kPen => k_is)
    (case cDrw => k_is)
    (case kDrw => k_is)
    (case cPck => k_is)
    (case kPck => k_is)
    (case cWrd => k_is)
    (case kWrd => k_is)
    (case cOdd => k_is)
    (case kOdd => k_is)
    (case cHea => k_is)
    (case kHea => k_is)
    (case cIsP => k_is)
    (case kIsP => k_is)
    (case cDue => k_is)
    (case kDue => k_is)
    (case cMrk => k_is)
    (case kMrk => k_is)
    (case cErr => k_is)
    (case kErr => k_is)
    (case cNmd => k_is)
    (case kNmd => k_is)
    (case cPlc => k_is)
    (case kPlc => k_is)
    (case cLaw => k_is)
    (case kLaw => k_is)
    (case cIni => k_is)
    (case kIni => k_is)
    (case iIni => k_is)
    (case cNms => k_is)
    (case kNms => k_is)
    (case gNms => k_is)
    (case tNms => k_is)
    (case cTxt => k_is)
    (case kTxt => k_is)
    (case gTxt => k_is)
    (case tTxt => k_is)
    (case cUp => k_is)
    (case kUp => k_is)
    (case gUp => k_is)
    (case tUp => k_is)
    (case cHd => k_is)
    (case kHd => k_is)
    (case iHd => k_is)
    (case cLen => k_is)
    (case kLen => k_is)
    (case iLen => k_is)
    (case cBoo => k_is)
    (case kBoo => k_is)
    (case iBoo => k_is)
    (case cStr => k_is)
    (case kStr => k_is)
    (case iStr => k_is)
    (case cRep => k_is)
    (case kRep => k_is)
    (case iRep => k_is)
    (case pg => k_is)
    (case hd => k_is)
    (case po => k_is)
    (case sa => k_is)
    (case mk => k_is)
    (case kc => k_is)
    (case nN => k_is)
    (case rd => k_is)
    (case ga => k_is)
    (case mi => k_is)
    (case ms => k_is)
    (case ha => k_is)
    (case hn => k_is)
    (case htk => k_is)
    (case hm => k_is)
    (case ty => k_is)
    (case mC => k_is)
    (case mS => k_is)
    (case sf => k_is)
    (case nE => k_is)
    (case sub => k_is)
    (case sCT => k_is)
    (case dCT => k_is)
    (case tCT => k_is)
    (case mI0 => k_is)
    (case mB0 => k_is)
    (case moT => k_is)
    (case ty0 => k_is)
    (case kc0 => k_is)
    (case ga0 => k_is)
    (case gg0 => k_is)
    (case sx0 => k_is)
    (case hd0 => k_is)
    (case ha0 => k_is)
    (case sa0 => k_is)
    (case tI0 => k_is)
    (case nf0_value => k_is)
    (case ty1 => k_is)
    (case kc1 => k_is)
    (case ga1 => k_is)
    (case gg1 => k_is)
    (case sx1 => k_is)
    (case hd1 => k_is)
    (case ha1 => k_is)
    (case sa1 => k_is)
    (case tI1 => k_is)
    (case nf1_value => k_is)
    (case ty2 => k_is)
    (case kc2 => k_is)
    (case ga2 => k_is)
    (case gg2 => k_is)
    (case sx2 => k_is)
    (case hd2 => k_is)
    (case ha2 => k_is)
    (case sa2 => k_is)
    (case tI2 => k_is)
    (case nf2_value => k_is)
    (case ty3 => k_is)
    (case kc3 => k_is)
    (case ga3 => k_is)
    (case gg3 => k_is)
    (case sx3 => k_is)
    (case hd3 => k_is)
    (case ha3 => k_is)
    (case sa3 => k_is)
    (case tI3 => k_is)
    (case nf3_place => k_is)
    (case ty4 => k_is)
    (case kc4 => k_is)
    (case ga4 => k_is)
    (case gg4 => k_is)
    (case sx4 => k_is)
    (case hd4 => k_is)
    (case ha4 => k_is)
    (case sa4 => k_is)
    (case tI4 => k_is)
    (case nf4_place => k_is)
    (case ty5 => k_is)
    (case kc5 => k_is)
    (case ga5 => k_is)
    (case gg5 => k_is)
    (case sx5 => k_is)
    (case hd5 => k_is)
    (case ha5 => k_is)
    (case sa5 => k_is)
    (case ex5 => k_exc)
    (case ty6 => k_is)
    (case kc6 => k_is)
    (case ga6 => k_is)
    (case gg6 => k_is)
    (case sx6 => k_is)
    (case hd6 => k_is)
    (case ha6 => k_is)
    (case sa6 => k_is)
    (case tI6 => k_is)
    (case nf6_most => k_is)
    (case ty7 => k_is)
    (case kc7 => k_is)
    (case ga7 => k_is)
    (case gg7 => k_is)
    (case sx7 => k_is)
    (case hd7 => k_is)
    (case ha7 => k_is)
    (case sa7 => k_is)
    (case tI7 => k_is)
    (case nf7_value => k_is)
    (case ty8 => k_is)
    (case kc8 => k_is)
    (case ga8 => k_is)
    (case gg8 => k_is)
    (case sx8 => k_is)
    (case hd8 => k_is)
    (case ha8 => k_is)
    (case sa8 => k_is)
    (case tI8 => k_is)
    (case nf8_at => k_is)
    (case ty9 => k_is)
    (case kc9 => k_is)
    (case ga9 => k_is)
    (case gg9 => k_is)
    (case sx9 => k_is)
    (case hd9 => k_is)
    (case ha9 => k_is)
    (case sa9 => k_is)
    (case tI9 => k_is)
    (case nf9_k => k_is)
    (case ty10 => k_is)
    (case kc10 => k_is)
    (case ga10 => k_is)
    (case gg10 => k_is)
    (case sx10 => k_is)
    (case hd10 => k_is)
    (case ha10 => k_is)
    (case sa10 => k_is)
    (case tI10 => k_is)
    (case nf10_ring => k_is)
    (case ty11 => k_is)
    (case kc11 => k_is)
    (case ga11 => k_is)
    (case gg11 => k_is)
    (case sx11 => k_is)
    (case hd11 => k_is)
    (case ha11 => k_is)
    (case sa11 => k_is)
    (case tI11 => k_is)
    (case nf11_place => k_is)
    (case ty12 => k_is)
    (case kc12 => k_is)
    (case ga12 => k_is)
    (case gg12 => k_is)
    (case sx12 => k_is)
    (case hd12 => k_is)
    (case ha12 => k_is)
    (case sa12 => k_is)
    (case tI12 => k_is)
    (case nf12_value => k_is)
    (case ty13 => k_is)
    (case kc13 => k_is)
    (case ga13 => k_is)
    (case gg13 => k_is)
    (case sx13 => k_is)
    (case hd13 => k_is)
    (case ha13 => k_is)
    (case sa13 => k_is)
    (case ex13 => k_exc)
    (case ty14 => k_is)
    (case kc14 => k_is)
    (case ga14 => k_is)
    (case gg14 => k_is)
    (case sx14 => k_is)
    (case hd14 => k_is)
    (case ha14 => k_is)
    (case sa14 => k_is)
    (case tI14 => k_is)
    (case nf14_place => k_is)
    (case ty15 => k_is)
    (case kc15 => k_is)
    (case ga15 => k_is)
    (case gg15 => k_is)
    (case sx15 => k_is)
    (case hd15 => k_is)
    (case ha15 => k_is)
    (case sa15 => k_is)
    (case tI15 => k_is)
    (case nf15_at => k_is)
    (case ty16 => k_is)
    (case kc16 => k_is)
    (case ga16 => k_is)
    (case gg16 => k_is)
    (case sx16 => k_is)
    (case hd16 => k_is)
    (case ha16 => k_is)
    (case sa16 => k_is)
    (case tI16 => k_is)
    (case nf16_value => k_is)
    (case ty17 => k_is)
    (case kc17 => k_is)
    (case ga17 => k_is)
    (case gg17 => k_is)
    (case sx17 => k_is)
    (case hd17 => k_is)
    (case ha17 => k_is)
    (case sa17 => k_is)
    (case tI17 => k_is)
    (case nf17_place => k_is)
    (case nf17_column => k_is)
    (case nf17_heard => k_is)
    (case ty18 => k_is)
    (case kc18 => k_is)
    (case ga18 => k_is)
    (case gg18 => k_is)
    (case sx18 => k_is)
    (case hd18 => k_is)
    (case ha18 => k_is)
    (case sa18 => k_is)
    (case tI18 => k_is)
    (case nf18_number => k_is)
    (case nf18_ahead => k_is)
    (case ty19 => k_is)
    (case kc19 => k_is)
    (case ga19 => k_is)
    (case gg19 => k_is)
    (case sx19 => k_is)
    (case hd19 => k_is)
    (case ha19 => k_is)
    (case sa19 => k_is)
    (case ex19 => k_exc)
    (case ty20 => k_is)
    (case kc20 => k_is)
    (case ga20 => k_is)
    (case gg20 => k_is)
    (case sx20 => k_is)
    (case hd20 => k_is)
    (case ha20 => k_is)
    (case sa20 => k_is)
    (case ex20 => k_exc)
    (case ty21 => k_is)
    (case kc21 => k_is)
    (case ga21 => k_is)
    (case gg21 => k_is)
    (case sx21 => k_is)
    (case hd21 => k_is)
    (case ha21 => k_is)
    (case sa21 => k_is)
    (case tI21 => k_is)
    (case nf21_value => k_is)
    (case ty22 => k_is)
    (case kc22 => k_is)
    (case ga22 => k_is)
    (case gg22 => k_is)
    (case sx22 => k_is)
    (case hd22 => k_is)
    (case ha22 => k_is)
    (case sa22 => k_is)
    (case tI22 => k_is)
    (case nf22_line => k_is)
    (case nf22_word => k_is)
    (case ty23 => k_is)
    (case kc23 => k_is)
    (case ga23 => k_is)
    (case gg23 => k_is)
    (case sx23 => k_is)
    (case hd23 => k_is)
    (case ha23 => k_is)
    (case sa23 => k_is)
    (case tI23 => k_is)
    (case nf23_word => k_is)
    (case inj => decide +kernel)
    (case neT => decide +kernel)
    (case tnPlc => rfl)
    (case tnLaw => rfl)
    (case nePP => decide +kernel)
    (case z_isinstance => k_is)
    (case z_int => k_is)
    (case z_bool => k_is)
    (case z_str => k_is)
    (case z_len => k_is)
    (case z_all => k_is)
    (case z_zip => k_is)
    (case z_range => k_is)
    (case z_enumerate => k_is)
    (case z_list => k_is)
    (case z_abs => k_is)
    (case z_repr => k_is)
    (case z_tuple => k_is)
    (case z_ValueError => k_is)
