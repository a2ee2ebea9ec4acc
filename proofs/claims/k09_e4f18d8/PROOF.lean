import PyProof.Rows.All
import Wide.All
import OpenK.AllK
import Wide.FinOn
import HandS.ForMost
import HandS.IsInst
import HandS.Defaults
import HandS.StrMore
import HandS.Flow
import HandS.Codes
import HandS.EndBits
import HandS.Walk
import HandS.Replace
import HandS.Star
import HandS.TupLe
import HandS.ForExc
import HandS.TryMany
import HandS.ExcIs
import HandS.ExcField
import KE.OsGo
import KE.KExcIs
import HandS.Deep
import PyProof.EqKinds
import HandS.ReplaceDef
import HandS.ReplaceLit
import HandS.ReplaceList
import PyProof.P3In
import HandS.TupAny
import HandS.SlotsOwn
import KE.KOpsOwn
import HandS.Conv
import PyProof.ListStr
import PyProof.Rows.Range3
import HandS.ClsMeth
import HandS.SetTxt0
import HandS.Zip
import HandS.Lambda
import PyProof.CallFns
import PyProof.NeData
import HandS.EndTab
import KE.KNestM
import HandS.Property
import PySem.Challenge.RW_filerights_k09_rights_refused
set_option Elab.async false
set_option linter.all false
set_option maxRecDepth 100000
/-! own lemmas over the hand layer: what a def's body holds of the heap -/
namespace FR
open PySem PySem.Spec PyProof.Rows L2 TL
/-- all that was tracked, other than at M, is as it was -/
def Keep (M : List Addr) (H H' : Hp) : Prop := ∀ b o, H b = some o → b ∉ M → H' b = some o
theorem Keep.refl {M : List Addr} {H : Hp} : Keep M H H := fun _ _ h _ => h
theorem Keep.same {H H' : Hp} (k : Keep [] H H') : Same H H' := fun b o h => k b o h (by simp)
theorem Keep.of_same {H H' : Hp} (k : Same H H') : Keep [] H H' := fun b o h _ => k b o h
theorem Keep.free {H H' : Hp} (k : Keep [] H H') {p : Addr} (h : H' p = none) : H p = none := k.same.free h
/-- a body's heap: H0 at its entry, M what it may change, L what it holds -/
structure Ow (H0 : Hp) (M : List Addr) (H : Hp) (L : List (Addr × HO)) : Prop where
  keep : ∀ b o, H0 b = some o → b ∉ M → H b = some o
  has : ∀ p ∈ L, H p.1 = some p.2
  nd : (L.map (·.1)).Nodup
  fr : ∀ p ∈ L, H0 p.1 = none ∨ p.1 ∈ M
section
variable {H0 H H' : Hp} {M : List Addr} {L : List (Addr × HO)} {a p : Addr} {o o' : HO} {K : PySem.W.Frag} {xs : List V}
theorem Ow.start0 : Ow H [] H [] := ⟨fun _ _ h _ => h, fun _ h => by simp at h, by simp, fun _ h => by simp at h⟩
theorem Ow.start1 (h : H a = some o) : Ow H [a] H [(a, o)] := ⟨fun _ _ h _ => h, fun p hp => by simp at hp; subst hp; exact h, by simp, fun p hp => by simp at hp; subst hp; exact .inr (by simp)⟩
theorem Ow.get (W : Ow H0 M H L) (i : Nat) (e : L[i]? = some (a, o)) : H a = some o := W.has _ (List.mem_of_getElem? e)
theorem Ow.new (W : Ow H0 M H L) (h : H p = none) : Ow H0 M (upd H p o) ((p, o) :: L) where
  keep := fun b u e hb => by
    rw [upd_ne (ne_of_none (W.keep b u e hb) h)]
    exact W.keep b u e hb
  has := fun q hq => by
    rcases List.mem_cons.mp hq with rfl | hq
    · exact upd_same
    · rw [upd_ne (ne_of_none (W.has q hq) h)]
      exact W.has q hq
  nd := by
    rw [List.map_cons, List.nodup_cons]
    refine ⟨fun hm => ?_, W.nd⟩
    obtain ⟨q, hq, e⟩ := List.mem_map.mp hm
    have := W.has q hq
    rw [show q.1 = p from e, h] at this
    cases this
  fr := fun q hq => by
    rcases List.mem_cons.mp hq with rfl | hq
    · by_cases hm : p ∈ M
      · exact .inr hm
      · cases e : H0 p with
        | none => exact .inl rfl
        | some u =>
          have := W.keep p u e hm
          rw [h] at this
          cases this
    · exact W.fr q hq
theorem nd_of {α β : Type} [DecidableEq α] : ∀ {L : List (α × β)} {i : Nat} {x : α × β} {q : α × β}, (L.map (·.1)).Nodup → L[i]? = some x → q ∈ L → q.1 = x.1 → q = x
  | [], i, x, q, _, e, _, _ => by simp at e
  | y :: L, 0, x, q, hn, e, hq, h => by
    have e' : y = x := Option.some.inj e
    subst e'
    rcases List.mem_cons.mp hq with r | hq
    · exact r
    · rw [List.map_cons, List.nodup_cons] at hn
      exact absurd (List.mem_map.mpr ⟨q, hq, h⟩) hn.1
  | y :: L, i + 1, x, q, hn, e, hq, h => by
    rw [List.map_cons, List.nodup_cons] at hn
    have e' : L[i]? = some x := e
    rcases List.mem_cons.mp hq with r | hq
    · subst r
      exact absurd (List.mem_map.mpr ⟨x, List.mem_of_getElem? e', h.symm⟩) hn.1
    · exact nd_of hn.2 e' hq h
theorem map_set_fst {α β : Type} : ∀ {L : List (α × β)} {i : Nat} {a : α} {o o' : β}, L[i]? = some (a, o) → (L.set i (a, o')).map (·.1) = L.map (·.1)
  | [], i, a, o, o', e => by simp at e
  | y :: L, 0, a, o, o', e => by
    have e' : y = (a, o) := Option.some.inj e
    subst e'
    rfl
  | y :: L, i + 1, a, o, o', e => by
    have e' : L[i]? = some (a, o) := e
    rw [List.set_cons_succ, List.map_cons, List.map_cons, map_set_fst e']
theorem Ow.any1 (W : Ow H0 M H L) (i : Nat) (e : L[i]? = some (a, o)) (k : Keep [a] H H') (h : H' a = some o') : Ow H0 M H' (L.set i (a, o')) where
  keep := fun b u eb hb => by
    have z := W.keep b u eb hb
    refine k b u z ?_
    intro hm
    have hm' : b = a := by simpa using hm
    subst hm'
    rcases W.fr _ (List.mem_of_getElem? e) with r | r
    · rw [show (b, o).1 = b from rfl, eb] at r; cases r
    · exact hb r
  has := fun q hq => by
    rcases List.mem_or_eq_of_mem_set hq with hq | rfl
    · by_cases ha : q.1 = a
      · have := nd_of (q := q) (by rw [map_set_fst (o' := o') e]; exact W.nd) (show (L.set i (a, o'))[i]? = some (a, o') by
          have hi : i < L.length := (List.getElem?_eq_some_iff.mp e).1
          rw [List.getElem?_set_self hi]) (by assumption) ha
        subst this
        exact h
      · exact k _ _ (W.has q hq) (by simpa using ha)
    · exact h
  nd := by rw [map_set_fst e]; exact W.nd
  fr := fun q hq => by
    rcases List.mem_or_eq_of_mem_set hq with hq | rfl
    · exact W.fr q hq
    · exact (W.fr (a, o) (List.mem_of_getElem? e) : H0 a = none ∨ a ∈ M)
theorem keep_upd {H : Hp} {a : Addr} {o : HO} : Keep [a] H (upd H a o) := fun b u e hb => by
  rw [upd_ne (by simpa using hb)]
  exact e
theorem Ow.set (W : Ow H0 M H L) (i : Nat) (e : L[i]? = some (a, o)) : Ow H0 M (upd H a o') (L.set i (a, o')) := W.any1 i e keep_upd upd_same
/-- a call that changed nothing -/
theorem Ow.call0 (W : Ow H0 M H L) (k : Keep [] H H') : Ow H0 M H' L where
  keep := fun b u e hb => k b u (W.keep b u e hb) (by simp)
  has := fun q hq => k _ _ (W.has q hq) (by simp)
  nd := W.nd
  fr := W.fr
/-- .. and handed back a new object -/
theorem Ow.res (W : Ow H0 M H L) (W' : Ow H0 M H' L) (hp : H p = none) (h : H' p = some o) : Ow H0 M H' ((p, o) :: L) where
  keep := W'.keep
  has := fun q hq => by
    rcases List.mem_cons.mp hq with rfl | hq
    · exact h
    · exact W'.has q hq
  nd := by
    rw [List.map_cons, List.nodup_cons]
    refine ⟨fun hm => ?_, W.nd⟩
    obtain ⟨q, hq, e⟩ := List.mem_map.mp hm
    have := W.has q hq
    rw [show q.1 = p from e, hp] at this
    cases this
  fr := fun q hq => by
    rcases List.mem_cons.mp hq with rfl | hq
    · by_cases hm : p ∈ M
      · exact .inr hm
      · cases e : H0 p with
        | none => exact .inl rfl
        | some u =>
          have := W.keep p u e hm
          rw [hp] at this
          cases this
    · exact W.fr q hq
theorem Ow.tail {q : Addr × HO} (W : Ow H0 M H (q :: L)) : Ow H0 M H L := ⟨W.keep, fun p hp => W.has p (List.mem_cons_of_mem _ hp), (List.nodup_cons.mp W.nd).2, fun p hp => W.fr p (List.mem_cons_of_mem _ hp)⟩
theorem Ow.drop (W : Ow H0 M H L) : Ow H0 M H [] := ⟨W.keep, fun _ h => by simp at h, by simp, fun _ h => by simp at h⟩
theorem Ow.seq (W : Ow H0 M H L) (h : SqL K H0 a xs) (ha : a ∉ M) : SqL K H a xs := by
  rcases h with (h | ⟨o, h⟩) | h
  · exact .inl (.inl (W.keep _ _ h ha))
  · exact .inl (.inr ⟨o, W.keep _ _ h ha⟩)
  · exact .inr h
theorem Ow.sq (W : Ow H0 M H L) (i : Nat) (e : L[i]? = some (a, .lst xs)) : SqL K H a xs := .inl (.inl (W.get i e))
theorem Ow.sqT (W : Ow H0 M H L) (i : Nat) (e : L[i]? = some (a, .tup xs)) : SqT K H a xs := .inl (.inl (W.get i e))
end
/-! ### objects that are made or changed: the heap behind is told by what it keeps -/
structure NewO (o : HO) (Q : VK) (H : Hp) : Prop where
  to : ∀ (p : Addr) (H' : Hp), H p = none → Keep [] H H' → H' p = some o → Q (.ref p) H'
structure MutO (a : Addr) (o : HO) (Q : Hp → Prop) (H : Hp) : Prop where
  to : ∀ H' : Hp, Keep [a] H H' → H' a = some o → Q H'
theorem keep_new {H : Hp} {p : Addr} {o : HO} (np : H p = none) : Keep [] H (upd H p o) := fun b u e _ => by
  rw [upd_ne (ne_of_none e np)]
  exact e
theorem NewO.all {o : HO} {Q : VK} {H : Hp} (h : NewO o Q H) : ∀ p, H p = none → Q (.ref p) (upd H p o) := fun p np => h.to p _ np (keep_new np) upd_same
theorem MutO.at {a : Addr} {o : HO} {Q : Hp → Prop} {H : Hp} (h : MutO a o Q H) : Q (upd H a o) := h.to _ keep_upd upd_same
section
variable {H0 H H' : Hp} {M : List Addr} {L : List (Addr × HO)} {a p : Addr} {o o' : HO} {G : Prop}
theorem with1 (i : Nat) (W : Ow H0 M H L) (e : L[i]? = some (a, o)) (k : Keep [a] H H') (h : H' a = some o') (g : Ow H0 M H' (L.set i (a, o')) → G) : G := g (W.any1 i e k h)
theorem withN (W : Ow H0 M H L) (np : H p = none) (k : Keep [] H H') (h : H' p = some o) (g : Ow H0 M H' ((p, o) :: L) → G) : G := g (W.res (W.call0 k) np h)
theorem with0 (W : Ow H0 M H L) (k : Keep [] H H') (g : Ow H0 M H' L → G) : G := g (W.call0 k)
end
section
variable {X : Cx} {e : Expr} {es : List Expr} {t t' : TE} {ta : TA} {pos : Pos} {K : PySem.W.Frag}
def mA (t : TA) : TA := fun σ H Q => ∃ Q0, t σ H Q0 ∧ ∀ xs H', Q0 xs H' → Q xs H'
theorem pa_m (h : PA X es ta) : PA X es (mA ta) := ⟨fun pos pins s σ H Q I hq => by
  obtain ⟨Q0, h0, hi⟩ := hq
  exact thn (h.run pos pins s σ H Q0 I h0) fun us s1 ⟨xs, H1, I1, r, q⟩ => ⟨xs, H1, I1, r, hi _ _ q⟩⟩
theorem pe_imp (h : PE X e t) (k : ∀ σ H Q, t' σ H Q → t σ H Q) : PE X e t' := ⟨fun pins s σ H Q I q => h.run pins s σ H Q I (k σ H Q q)⟩
def tLstN (t : TA) : TE := fun σ H Q => t σ H fun xs H1 => xs.length ≤ sizeLine ∧ NewO (.lst xs) Q H1
def tTupN (t : TA) : TE := fun σ H Q => t σ H fun xs H1 => xs.length ≤ sizeLine ∧ NewO (.tup xs) Q H1
theorem pe_lstN (h : PA X es ta) : PE X (.List es pos) (tLstN ta) := pe_imp (pe_lst (pa_m h)) fun σ H Q q => ⟨_, q, fun xs H1 z => ⟨z.1, z.2.all⟩⟩
theorem pe_tupN {x1} (h : PA X es ta) : PE X (.Tuple es x1 pos) (tTupN ta) := pe_imp (pe_tup (pa_m h)) fun σ H Q q => ⟨_, q, fun xs H1 z => ⟨z.1, z.2.all⟩⟩
theorem pe_dnewN : PE X (.Dict [] [] pos) (fun _ H Q => NewO (.dK []) Q H) := pe_imp pe_dnewK fun σ H Q q => q.all
def rSetN : V → V → V → Hp → (Hp → Prop) → Prop := fun o i v H Q => ∃ p xs k j, o = .ref p ∧ i = .int k ∧ H p = some (.lst xs) ∧ ixN xs.length k = some j ∧ MutO p (.lst (xs.set j v)) Q H
theorem set_listN : PSet X rSetN := fun pins s σ H o i v ov iv u Q I ro ri rv h => by
  obtain ⟨p, xs, k, j, e1, e2, hp, hj, q⟩ := h
  exact set_list pins s σ H o i v ov iv u Q I ro ri rv ⟨p, xs, k, j, e1, e2, hp, hj, q.at⟩
def rSlN (K : PySem.W.Frag) : V → Option Int → Option Int → Hp → VK → Prop := fun x lo hi H Q => ∃ a xs, x = .ref a ∧ SqL K H a xs ∧ NewO (.lst (cutV xs lo hi)) Q H
theorem sl_listN : SlR X (rSlN X.K) := fun pins s σ H x v vl vu lo hi sl Q I rx hs pl pu h => by
  obtain ⟨a, xs, e, hx, q⟩ := h
  exact sl_list pins s σ H x v vl vu lo hi sl Q I rx hs pl pu ⟨a, xs, e, hx, q.all⟩
def rCatN : R2 := fun x y H Q => ∃ l b xs zs, x = .ref l ∧ y = .ref b ∧ H l = some (.lst xs) ∧ H b = some (.lst zs) ∧ xs.length + zs.length ≤ sizeLine ∧ NewO (.lst (xs ++ zs)) Q H
theorem op_catN : OpR X (binaryOp .Add) rCatN := fun pins s σ H x y v u Q I rx ry h => by
  obtain ⟨l, b, xs, zs, e1, e2, hl, hb, hz, q⟩ := h
  exact op_cat pins s σ H x y v u Q I rx ry ⟨l, b, xs, zs, e1, e2, hl, hb, hz, q.all⟩
def rAppN : V → List V → Hp → VK → Prop := fun x vs H Q => ∃ l xs y, x = .ref l ∧ vs = [y] ∧ H l = some (.lst xs) ∧ xs.length < sizeLine ∧ MutO l (.lst (xs ++ [y])) (Q .non) H
theorem mt_appN : MtR X "list.append" rAppN := fun pins s σ H x xs v us Q I rx rv h => by
  obtain ⟨l, ys, y, e1, e2, hl, hz, q⟩ := h
  exact mt_append pins s σ H x xs v us Q I rx rv ⟨l, ys, y, e1, e2, hl, hz, q.at⟩
def rSplN : V → List V → Hp → VK → Prop := fun x xs H Q => ∃ a b, x = .str a ∧ xs = [.str b] ∧ (b.length == 0) = false ∧ a.length + 2 ≤ sizeLine ∧ NewO (.lst ((Txt.split a b).map V.str)) Q H
theorem mt_splN : MtR X "str.split" rSplN := fun pins s σ H x xs v us Q I rx rv h => by
  obtain ⟨a, b, e1, e2, h1, h2, q⟩ := h
  exact mt_split pins s σ H x xs v us Q I rx rv ⟨a, b, e1, e2, h1, h2, q.all⟩
def rLofN (K : PySem.W.Frag) : List V → Hp → VK → Prop := fun xs H Q => ∃ p ys, xs = [.ref p] ∧ (SqL K H p ys ∨ SqT K H p ys) ∧ NewO (.lst ys) Q H
theorem call_lofN : CallR X (.type "list") (rLofN X.K) := fun pins s σ H xs us Q I r h => by
  obtain ⟨p, ys, e, hs, q⟩ := h
  exact call_list_of pins s σ H xs us Q I r ⟨p, ys, e, hs, q.all⟩
end
/-! ### calls with keywords of a def without defaults by place -/
section
variable {K : PySem.W.Frag} {x qual : Str} {params : Arguments} {body : List Stmt} {scope : Scope} {kws : List (Str × V)} {f : Addr} {fd : FuncData} {ps : List Str}
theorem kb0 (F : FunD K x qual params body scope [] kws f fd) (n : Nat) (ks : List Str) (ms : List (Str × V)) (g : {α : Type} → List α → List α → List α → List α) (hk : kws ≠ []) (hms : ∀ q ∈ ms, q ∈ kws)
    (hrel : ∀ {vs mz zs : List V} {us mv ws : List Value}, Vals vs us → Vals mz mv → Vals zs ws → Vals (g vs mz zs) (g us mv ws))
    (h : ∀ (D : Addr) (doc pm : Value) (an : Option Addr) (cdv ct : Value) (us mv ws : List Value), us.length = n → mv.length = ms.length → ws.length = ks.length →
      KwChain D ((ms.map (·.1)).zip mv) (bindArgs (PySem.W.fnOf x qual params body scope .none (.ref D) doc pm an cdv ct) ⟨us, ks.zip ws⟩) (ps.zip (g us mv ws))) :
    ∃ mv : List Value, KBn K fd ps n ks (fun us ws => g us mv ws) (fun vs zs => g vs (ms.map (·.2)) zs) := by
  obtain ⟨oc, od, dV, kV, doc, pm, an, cdv, ct, osl, rfl, lk, hcd, hD, hK⟩ := F.ex
  rcases hD with ⟨_, rfl⟩ | ⟨e, _⟩
  · rcases hK with e | ⟨D, rfl, hq⟩
    · exact absurd e hk
    · obtain ⟨mv, hl, rk, hks⟩ := kwd_vals (ms := ms) fun q hm => hq q (hms q hm)
      exact ⟨mv, fun s us ws X l1 l2 => BindsTo.of_looks fun M => KwChain.looks X hks (h D doc pm an cdv ct us mv ws l1 hl l2), fun r1 r2 => hrel r1 rk r2⟩
  · exact absurd rfl e
end
section
variable {X : Cx} {CX : CXT} {k : Nat} {f : Addr} {fd : FuncData} {ps ks : List Str} {sp : Sp} {E : XK} {x : Str} {p pos : Pos} {kws : List Keyword} {tk : TA} {g : List Value → List Value → List Value} {gV : List V → List V → List V}
theorem pe_callN0 (F : FnOk X.prog X.w X.K X.mg X.base CX k f fd ps sp) (hr : Room k X.A) (hg : Gl X x) (hm : X.mg x = some (.ref f)) (hk : PySem.W.keepIn X.K (.ref f) = true) (hb : KBn X.K fd ps 0 ks g gV) (hx : Passes CX X E) (hkw : PK X kws tk)
    (hall : (backToKw pos (keywordEach kws X.env)).all (·.1.isSome) = true := by rfl) (hks : (backToKw pos (keywordEach kws X.env)).filterMap (·.1) = ks := by rfl) (hdb : (x == ("__debug__" : Str)) = false := by decide)
    (hpl : ((backTo pos (starEach [] X.env)).any (·.1) || (backToKw pos (keywordEach kws X.env)).any (·.1.isNone)) = false := by rfl) : PE X (.Call (.Name x p) [] kws pos) (tCallN 0 ks.length sp gV E tNil tk) := ⟨fun pins s σ H Q I h => by
  refine wpAny_Call_Name_kw (ld_glob I hg hm (PySem.W.callWith_KW0 (h₀ := X.base) I.ok.mod.kin hk hall ?_ hpl) hdb)
  refine thn (hkw.run pos pins s σ H _ I h) fun ws s2 hz => ?_
  obtain ⟨zs, H2, I2, rz, l1, l2, q2⟩ := hz
  refine ⟨I2.kIn, ?_⟩
  rw [hks]
  exact run_fnN (us := []) (vs := []) F hr hb hx I2 .nil rz rfl l2 q2⟩
end
/-! ### tests -/
section
variable {A B : Prop}
theorem ifT {b : Bool} (h : b = true) (a : A) : if b = true then A else B := by rw [if_pos h]; exact a
theorem ifF {b : Bool} (h : b = false) (a : B) : if b = true then A else B := by rw [h, if_neg Bool.false_ne_true]; exact a
theorem ifB {b : Bool} (h1 : b = true → A) (h2 : b = false → B) : if b = true then A else B := by
  cases b
  · exact ifF rfl (h2 rfl)
  · exact ifT rfl (h1 rfl)
theorem ifNB {b : Bool} (h1 : b = false → A) (h2 : b = true → B) : if (!b) = true then A else B := by
  cases b
  · exact ifT rfl (h1 rfl)
  · exact ifF rfl (h2 rfl)
theorem ifD {p : Prop} [Decidable p] (h1 : p → A) (h2 : ¬ p → B) : if decide p = true then A else B := by
  by_cases h : p
  · exact ifT (decide_eq_true h) (h1 h)
  · exact ifF (decide_eq_false h) (h2 h)
theorem ifN {p : Prop} [Decidable p] (h1 : ¬ p → A) (h2 : p → B) : if (!decide p) = true then A else B := by
  by_cases h : p
  · exact ifF (by rw [decide_eq_true h]; rfl) (h2 h)
  · exact ifT (by rw [decide_eq_false h]; rfl) (h1 h)
theorem ifQ {b : Bool} {p : Prop} [Decidable p] (h : b = decide p) (h1 : p → A) (h2 : ¬ p → B) : if b = true then A else B := by
  rw [h]
  exact ifD h1 h2
theorem ifVI {i j : Int} (h1 : i = j → A) (h2 : i ≠ j → B) : if decide (V.int i = V.int j) = true then A else B := ifD (fun h => h1 (V.int.inj h)) fun h => h2 fun e => h (by rw [e])
theorem ifVIn {i j : Int} (h1 : i ≠ j → A) (h2 : i = j → B) : if (!decide (V.int i = V.int j)) = true then A else B := ifN (fun h => h1 fun e => h (by rw [e])) fun h => h2 (V.int.inj h)
theorem ifVS {i j : Str} (h1 : i = j → A) (h2 : i ≠ j → B) : if decide (V.str i = V.str j) = true then A else B := ifD (fun h => h1 (V.str.inj h)) fun h => h2 fun e => h (by rw [e])
theorem ifVSn {i j : Str} (h1 : i ≠ j → A) (h2 : i = j → B) : if (!decide (V.str i = V.str j)) = true then A else B := ifN (fun h => h1 fun e => h (by rw [e])) fun h => h2 (V.str.inj h)
end
/-! ### isinstance -/
theorem isi {K : PySem.W.Frag} {H : Hp} {Q : VK} {x : V} {t c : String} {b : Bool} (ty : TyX K H x (.type t)) (k : kitB t c = some b) (q : Q (.bl b) H) : rIsi K [x, .ty c] H Q := ⟨x, .ty c, .type t, .type c, b, rfl, .ty c, ty, kit_ty k, q⟩
theorem call_isiK {X : Cx} {K : PySem.W.Frag} (h : X.K = K) : CallR X (.builtin "isinstance") (rIsi K) := h ▸ call_isi
theorem ki_int_str : kitB "int" "str" = some false := by decide +kernel
theorem ki_int_int : kitB "int" "int" = some true := by decide +kernel
theorem ki_int_bool : kitB "int" "bool" = some false := by decide +kernel
theorem ki_int_list : kitB "int" "list" = some false := by decide +kernel
theorem ki_int_tuple : kitB "int" "tuple" = some false := by decide +kernel
theorem ki_int_dict : kitB "int" "dict" = some false := by decide +kernel
theorem ki_str_str : kitB "str" "str" = some true := by decide +kernel
theorem ki_str_int : kitB "str" "int" = some false := by decide +kernel
theorem ki_str_bool : kitB "str" "bool" = some false := by decide +kernel
theorem ki_str_list : kitB "str" "list" = some false := by decide +kernel
theorem ki_str_tuple : kitB "str" "tuple" = some false := by decide +kernel
theorem ki_str_dict : kitB "str" "dict" = some false := by decide +kernel
theorem ki_bl_str : kitB "bool" "str" = some false := by decide +kernel
theorem ki_bl_int : kitB "bool" "int" = some true := by decide +kernel
theorem ki_bl_bool : kitB "bool" "bool" = some true := by decide +kernel
theorem ki_bl_list : kitB "bool" "list" = some false := by decide +kernel
theorem ki_bl_tuple : kitB "bool" "tuple" = some false := by decide +kernel
theorem ki_bl_dict : kitB "bool" "dict" = some false := by decide +kernel
theorem ki_non_str : kitB "NoneType" "str" = some false := by decide +kernel
theorem ki_non_int : kitB "NoneType" "int" = some false := by decide +kernel
theorem ki_non_bool : kitB "NoneType" "bool" = some false := by decide +kernel
theorem ki_non_list : kitB "NoneType" "list" = some false := by decide +kernel
theorem ki_non_tuple : kitB "NoneType" "tuple" = some false := by decide +kernel
theorem ki_non_dict : kitB "NoneType" "dict" = some false := by decide +kernel
theorem ki_lst_str : kitB "list" "str" = some false := by decide +kernel
theorem ki_lst_int : kitB "list" "int" = some false := by decide +kernel
theorem ki_lst_bool : kitB "list" "bool" = some false := by decide +kernel
theorem ki_lst_list : kitB "list" "list" = some true := by decide +kernel
theorem ki_lst_tuple : kitB "list" "tuple" = some false := by decide +kernel
theorem ki_lst_dict : kitB "list" "dict" = some false := by decide +kernel
theorem ki_tup_str : kitB "tuple" "str" = some false := by decide +kernel
theorem ki_tup_int : kitB "tuple" "int" = some false := by decide +kernel
theorem ki_tup_bool : kitB "tuple" "bool" = some false := by decide +kernel
theorem ki_tup_list : kitB "tuple" "list" = some false := by decide +kernel
theorem ki_tup_tuple : kitB "tuple" "tuple" = some true := by decide +kernel
theorem ki_tup_dict : kitB "tuple" "dict" = some false := by decide +kernel
theorem ki_dK_str : kitB "dict" "str" = some false := by decide +kernel
theorem ki_dK_int : kitB "dict" "int" = some false := by decide +kernel
theorem ki_dK_bool : kitB "dict" "bool" = some false := by decide +kernel
theorem ki_dK_list : kitB "dict" "list" = some false := by decide +kernel
theorem ki_dK_tuple : kitB "dict" "tuple" = some false := by decide +kernel
theorem ki_dK_dict : kitB "dict" "dict" = some true := by decide +kernel
/-- the generator of a law's numbers: at b a list of three numbers, the last at most n -/
def bagO (x y z : Int) : HO := .lst [.int x, .int y, .int z]
structure BagOk (n : Nat) (x y z : Int) : Prop where
  x0 : 0 ≤ x
  y0 : 0 ≤ y
  y1 : y < 2147483648
  z0 : 0 ≤ z
  z1 : z ≤ (n : Int)
theorem BagOk.mono {n m : Nat} {x y z : Int} (h : BagOk n x y z) (e : n ≤ m) : BagOk m x y z := ⟨h.x0, h.y0, h.y1, h.z0, by have := h.z1; omega⟩
/-- take(bag, k): a number below k; the bag is changed, by one count at the most -/
def spTake : Sp := fun vs H Q _ => ∃ (b : Addr) (k : Int) (n : Nat) (x y z : Int), vs = [.ref b, .int k] ∧ H b = some (bagO x y z) ∧ BagOk n x y z ∧ n < 1000000 ∧ 0 < k ∧ k < 1073741824 ∧
  ∀ (d x' y' z' : Int) (H' : Hp), 0 ≤ d → d < k → BagOk (n + 1) x' y' z' → Keep [b] H H' → H' b = some (bagO x' y' z') → Q (.int d) H'
theorem atI_in {α : Type} {xs : List α} {d : Int} (h0 : 0 ≤ d) (h1 : d < (xs.length : Int)) : ∃ v, atI xs d = some v ∧ v ∈ xs := by
  obtain ⟨k, rfl⟩ := Int.eq_ofNat_of_zero_le h0
  have hk : k < xs.length := by omega
  exact ⟨xs[k], atI_nat (List.getElem?_eq_getElem hk), List.getElem_mem hk⟩
theorem size_ok {n : Nat} (h : n ≤ 1000000) : n < sizeLine := Nat.lt_of_le_of_lt h (by decide)
theorem size_le {n : Nat} (h : n ≤ 1000000) : n ≤ sizeLine := Nat.le_of_lt (size_ok h)
/-! ### texts by their codes -/
theorem len_app (x y : Str) : (x ++ y).length = x.length + y.length := by rw [len_tl, len_tl, len_tl, tl_append, List.length_append]
theorem joinL_nil : ∀ ps : List (List Nat), joinL [] ps = ps.flatten
  | [] => rfl
  | [p] => by simp [joinL]
  | p :: q :: r => by
    have ih := joinL_nil (q :: r)
    show p ++ ([] ++ joinL [] (q :: r)) = _
    rw [ih]
    simp
theorem tl_joinE (ss : List Str) : tl (Txt.join (Str.ofString "") ss) = (ss.map tl).flatten := by
  rw [join_eq, tl_join, show tl (Str.ofString "") = [] by decide +kernel, joinL_nil]
theorem sum_one : ∀ {ss : List Str}, (∀ s ∈ ss, s.length = 1) → (ss.map (·.length)).sum = ss.length
  | [], _ => rfl
  | s :: r, h => by
    rw [List.map_cons, List.sum_cons, sum_one fun t ht => h t (List.mem_cons_of_mem _ ht), h s List.mem_cons_self, List.length_cons]
    omega
theorem flat_one : ∀ {ss : List Str}, (∀ s ∈ ss, s.length = 1) → (ss.map tl).flatten.length = ss.length
  | [], _ => rfl
  | s :: r, h => by
    have h1 := h s List.mem_cons_self
    rw [len_tl] at h1
    rw [List.map_cons, List.flatten_cons, List.length_append, flat_one fun t ht => h t (List.mem_cons_of_mem _ ht), List.length_cons, h1]
    omega
theorem join_one {ss : List Str} (h : ∀ s ∈ ss, s.length = 1) : (Txt.join (Str.ofString "") ss).length = ss.length := by rw [len_tl, tl_joinE, flat_one h]
theorem tl_cutS (z : Str) (lo hi : Option Int) : tl (cutS z lo hi) = ((tl z).drop (HT.sIx z.length 0 lo)).take (HT.sIx z.length z.length hi - HT.sIx z.length 0 lo) := rfl
theorem cutS_len (z : Str) (lo hi : Option Int) : (cutS z lo hi).length ≤ z.length := by
  rw [len_tl, tl_cutS, List.length_take, List.length_drop, len_tl z]
  omega
theorem starts_one (x : Str) (c : Nat) : Txt.startswith x ⟨#[c]⟩ = true ↔ (tl x)[0]? = some c := by
  unfold Txt.startswith
  rw [Bool.and_eq_true, decide_eq_true_eq]
  exact PySem.StrLaws.subAt_one x c 0
/-! ### texts of plain signs -/
def Asc (s : Str) : Prop := ∀ c ∈ tl s, c < 128
theorem Asc.app {x y : Str} (a : Asc x) (b : Asc y) : Asc (x ++ y) := fun c hc => by
  rw [tl_append] at hc
  rcases List.mem_append.mp hc with h | h
  · exact a c h
  · exact b c h
theorem Asc.cut {x : Str} (a : Asc x) (lo hi : Option Int) : Asc (cutS x lo hi) := fun c hc => a c (List.mem_of_mem_drop (List.mem_of_mem_take (by rw [tl_cutS] at hc; exact hc)))
theorem Asc.one {c : Nat} (h : c < 128) : Asc ⟨#[c]⟩ := fun d hd => by
  have : d = c := by simpa using hd
  omega
theorem Asc.of {x : Str} (h : (tl x).all (fun c => decide (c < 128)) = true) : Asc x := fun c hc => by simpa using List.all_eq_true.mp h c hc
theorem Asc.joined {S : List Nat} : ∀ {ps : List (List Nat)}, (∀ c ∈ S, c < 128) → (∀ p ∈ ps, ∀ c ∈ p, c < 128) → ∀ c ∈ joinL S ps, c < 128
  | [], _, _, c, h => by simp [joinL] at h
  | [p], _, hp, c, h => hp p List.mem_cons_self c h
  | p :: q :: r, hS, hp, c, h => by
    rcases List.mem_append.mp (show c ∈ p ++ (S ++ joinL S (q :: r)) from h) with h | h
    · exact hp p List.mem_cons_self c h
    · rcases List.mem_append.mp h with h | h
      · exact hS c h
      · exact Asc.joined hS (fun t ht => hp t (List.mem_cons_of_mem _ ht)) c h
theorem Asc.join {y : Str} {ss : List Str} (a : Asc y) (h : ∀ s ∈ ss, Asc s) : Asc (Txt.join y ss) := by
  unfold Asc
  rw [join_eq, tl_join]
  refine Asc.joined a fun p hp => ?_
  obtain ⟨s, hs, rfl⟩ := List.mem_map.mp hp
  exact h s hs
theorem joinL_len (S : List Nat) : ∀ (ps : List (List Nat)), (joinL S ps).length ≤ (ps.map (·.length)).sum + ps.length * S.length
  | [] => by simp [joinL]
  | [p] => by simp [joinL]
  | p :: q :: r => by
    have ih := joinL_len S (q :: r)
    show (p ++ (S ++ joinL S (q :: r))).length ≤ _
    rw [List.length_append, List.length_append, List.map_cons, List.sum_cons, List.length_cons, Nat.add_one_mul]
    omega
theorem join_len (y : Str) (ss : List Str) : (Txt.join y ss).length ≤ (ss.map (·.length)).sum + ss.length * y.length := by
  have h := joinL_len (tl y) (ss.map tl)
  rw [join_eq, len_tl, tl_join, len_tl y]
  rw [List.length_map, List.map_map] at h
  rw [show ss.map (fun x => x.length) = ss.map ((fun x => x.length) ∘ tl) from List.map_congr_left fun s _ => len_tl s]
  exact h
theorem sum_le {ss : List Str} {k : Nat} (h : ∀ s ∈ ss, s.length ≤ k) : (ss.map (·.length)).sum ≤ ss.length * k := by
  induction ss with
  | nil => simp
  | cons s r ih =>
    rw [List.map_cons, List.sum_cons, List.length_cons, Nat.add_one_mul]
    have h1 := h s List.mem_cons_self
    have h2 := ih fun t ht => h t (List.mem_cons_of_mem _ ht)
    omega
theorem str_ok {s : Str} (a : Asc s) : PyData.strOk s = true := by
  unfold PyData.strOk
  rw [show s.cps.all (fun x => decide (x < 0x110000)) = (tl s).all (fun x => decide (x < 0x110000)) by simp]
  exact List.all_eq_true.mpr fun c hc => decide_eq_true (Nat.lt_trans (a c hc) (by decide))
def dStrs (ws : List Str) : PyData := .list (ws.map .str)
theorem lay_strs : ∀ {ws : List Str}, (∀ s ∈ ws, Asc s) → PyData.canLayAll0 (ws.map .str) = true
  | [], _ => rfl
  | s :: r, h => by
    rw [List.map_cons, PyData.canLayAll0, PyData.canLay0, str_ok (h s List.mem_cons_self), lay_strs fun t ht => h t (List.mem_cons_of_mem _ ht)]
    rfl
theorem depth_strs : ∀ ws : List Str, PyData.depthAll (ws.map .str) = 0
  | [] => rfl
  | s :: r => by rw [List.map_cons, PyData.depthAll, PyData.depth, depth_strs r]; rfl
theorem shaped_strs {ws : List Str} (h : ∀ s ∈ ws, Asc s) : SeqAt.shaped (dStrs ws) = true := by
  unfold SeqAt.shaped dStrs
  rw [PyData.canLay0, lay_strs h, PyData.depth, depth_strs]
  rfl
theorem dpAll_strs {K : PySem.W.Frag} {H : Hp} : ∀ ws : List Str, DpAll K H (ws.map V.str) (ws.map .str)
  | [] => .nil
  | s :: r => .cons (.str s) (dpAll_strs r)
theorem dp_strs {K : PySem.W.Frag} {H : Hp} {a : Addr} {ws : List Str} (h : SqL K H a (ws.map V.str)) : Dp K H (.ref a) (dStrs ws) := .lst h (dpAll_strs ws)
theorem eqv_strs : ∀ ws : List Str, PyData.eqvAll (ws.map .str) (ws.map .str) = true
  | [] => rfl
  | s :: r => by rw [List.map_cons, PyData.eqvAll, eqv_strs r, PyData.eqv]; simp
theorem eqv_dstrs (ws : List Str) : PyData.eqv (dStrs ws) (dStrs ws) = true := by
  unfold dStrs
  rw [PyData.eqv, eqv_strs]
theorem in_strs (x : Str) : ∀ ws : List Str, inV (.str x) (ws.map V.str) = decide (x ∈ ws)
  | [] => rfl
  | s :: r => by
    have ih := in_strs x r
    unfold inV at ih ⊢
    rw [List.map_cons, List.any_cons, ih]
    show ((s == x) || decide (x ∈ r)) = _
    by_cases h : s = x
    · subst h; simp
    · simp [h, Ne.symm h]
theorem flat_strs (ws : List Str) : (ws.map V.str).all flatV = true := by
  rw [List.all_map]
  exact List.all_eq_true.mpr fun _ _ => rfl
/-- keywords at a call of a def without defaults -/
theorem kbF {K : PySem.W.Frag} {x qual : Str} {st : Stmt} {f : Addr} {fd : FuncData} {ps : List Str} (F : Fun K x qual st f fd) (n : Nat) (ks : List Str) (g : {α : Type} → List α → List α → List α)
    (hrel : ∀ {vs zs : List V} {us ws : List Value}, Vals vs us → Vals zs ws → Vals (g vs zs) (g us ws))
    (h : ∀ (kV doc pm : Value) (an : Option Addr) (cdv ct : Value) (us ws : List Value), us.length = n → ws.length = ks.length →
      bindArgs (PySem.W.fnOf x qual (defArgs st) (defBody st) (defScope st) .none kV doc pm an cdv ct) ⟨us, ks.zip ws⟩ = pure (ps.zip (g us ws))) : KBn K fd ps n ks (fun us ws => g us ws) (fun vs zs => g vs zs) := by
  obtain ⟨oc, od, kV, doc, pm, an, cdv, ct, osl, rfl, lk, hcd⟩ := F.ex
  exact ⟨fun s us ws X l1 l2 => .of_eq (h kV doc pm an cdv ct us ws l1 l2), fun r1 r2 => hrel r1 r2⟩
/-- isinstance(x, (a, b)) -/
theorem kit2 {K : PySem.W.Frag} {t a b : String} {r1 r2 : Bool} (h1 : kitB t a = some r1) (h2 : kitB t b = some r2) : PySem.W.kitAny K (.type t) [.type a, .type b] = some (r1 || r2) := by
  refine kitAny_cons (kit_ty h1) (fun e => ?_) (fun e => by rw [e]; rfl)
  subst e
  refine kitAny_cons (kit_ty h2) (fun e => by rw [e]; rfl) (fun e => by rw [e]; rfl)
theorem eqv_nil : ∀ ws : List Str, PyData.eqv (dStrs ws) (dStrs []) = decide (ws = [])
  | [] => rfl
  | s :: r => rfl
/-! ### signs as texts -/
def sg (l : List Nat) : List Str := l.map fun d => ⟨#[d]⟩
theorem sg_one {l : List Nat} : ∀ s ∈ sg l, s.length = 1 := fun s hs => by
  obtain ⟨d, _, rfl⟩ := List.mem_map.mp hs
  rfl
theorem sg_len (l : List Nat) : (sg l).length = l.length := List.length_map _
theorem sg_asc {l : List Nat} (h : ∀ c ∈ l, c < 128) : ∀ s ∈ sg l, Asc s := fun s hs => by
  obtain ⟨d, hd, rfl⟩ := List.mem_map.mp hs
  exact Asc.one (h d hd)
theorem tl_join_sg : ∀ l : List Nat, ((sg l).map tl).flatten = l
  | [] => rfl
  | c :: r => by
    have ih := tl_join_sg r
    show ([c] ++ ((sg r).map tl).flatten) = c :: r
    rw [ih]
    rfl
theorem sg_app (l : List Nat) (c : Nat) : (sg (l ++ [c])).map V.str = (sg l).map V.str ++ [.str ⟨#[c]⟩] := by
  unfold sg
  rw [List.map_append, List.map_append]
  rfl
theorem chr_inj {c d : Nat} (h : (⟨#[c]⟩ : Str) = ⟨#[d]⟩) : c = d := by
  have := congrArg tl h
  simpa using this
theorem ifC {A B : Prop} {c d : Nat} (h1 : c = d → A) (h2 : c ≠ d → B) : if decide (V.str ⟨#[c]⟩ = V.str ⟨#[d]⟩) = true then A else B := ifVS (fun h => h1 (chr_inj h)) fun h => h2 fun e => h (by rw [e])
theorem ifCn {A B : Prop} {c d : Nat} (h1 : c ≠ d → A) (h2 : c = d → B) : if (!decide (V.str ⟨#[c]⟩ = V.str ⟨#[d]⟩)) = true then A else B := ifVSn (fun h => h1 fun e => h (by rw [e])) fun h => h2 (chr_inj h)
theorem filt_in {pre : List Nat} {c d : Nat} (h : d ≠ c) : (pre ++ [d]).filter (fun x => decide (x ≠ c)) = pre.filter (fun x => decide (x ≠ c)) ++ [d] := by
  rw [List.filter_append, List.filter_cons, if_pos (by simpa using h)]
  rfl
theorem filt_out {pre : List Nat} {c d : Nat} (h : d = c) : (pre ++ [d]).filter (fun x => decide (x ≠ c)) = pre.filter (fun x => decide (x ≠ c)) := by
  rw [List.filter_append, List.filter_cons, if_neg (by simpa using h)]
  simp
theorem filt_asc {l : List Nat} {p : Nat → Bool} (h : ∀ c ∈ l, c < 128) : ∀ c ∈ l.filter p, c < 128 := fun c hc => h c (List.mem_filter.mp hc).1
theorem tl_joined_sg (l : List Nat) : tl (Txt.join (Str.ofString "") (sg l)) = l := by rw [tl_joinE, tl_join_sg]
/-! ### a text split at a sign -/
theorem split_tl (s : Str) {c : Nat} (h : c < 256) : (Txt.split s ⟨#[c]⟩).map tl = spl [c] 0 [] (tl s) := split_spl s ⟨#[c]⟩ (by simp) (kind_ok (by simpa using h))
theorem spl_asc : ∀ (l acc : List Nat) (c : Nat), (∀ d ∈ l, d < 128) → (∀ d ∈ acc, d < 128) → ∀ p ∈ spl [c] 0 acc l, ∀ d ∈ p, d < 128
  | [], acc, c, _, ha, p, hp, d, hd => by
    rw [spl_nil] at hp
    rw [List.mem_singleton.mp hp] at hd
    exact ha d hd
  | x :: r, acc, c, hl, ha, p, hp, d, hd => by
    have hr : ∀ d ∈ r, d < 128 := fun d h => hl d (List.mem_cons_of_mem _ h)
    by_cases e : pre [c] (x :: r) = true
    · rw [spl_hit e] at hp
      rcases List.mem_cons.mp hp with rfl | hp
      · exact ha d hd
      · exact spl_asc r [] c hr (fun _ h => by simp at h) p hp d hd
    · rw [spl_miss (by simpa using e)] at hp
      refine spl_asc r (acc ++ [x]) c hr (fun d h => ?_) p hp d hd
      rcases List.mem_append.mp h with h | h
      · exact ha d h
      · rw [List.mem_singleton.mp h]; exact hl x List.mem_cons_self
theorem split_asc {s : Str} {c : Nat} (h : c < 256) (a : Asc s) : ∀ w ∈ Txt.split s ⟨#[c]⟩, Asc w := fun w hw => by
  have : tl w ∈ (Txt.split s ⟨#[c]⟩).map tl := List.mem_map_of_mem hw
  rw [split_tl s h] at this
  exact spl_asc (tl s) [] c a (fun _ h => by simp at h) _ this
theorem spl_len : ∀ (l acc : List Nat) (c : Nat), (spl [c] 0 acc l).length ≤ l.length + 1
  | [], acc, c => by rw [spl_nil]; simp
  | x :: r, acc, c => by
    by_cases e : pre [c] (x :: r) = true
    · rw [spl_hit e, List.length_cons, List.length_cons]
      have := spl_len r [] c
      exact Nat.succ_le_succ this
    · rw [spl_miss (by simpa using e), List.length_cons]
      have := spl_len r (acc ++ [x]) c
      omega
theorem split_len {s : Str} {c : Nat} (h : c < 256) : (Txt.split s ⟨#[c]⟩).length ≤ s.length + 1 := by
  have := spl_len (tl s) [] c
  rw [← split_tl s h, List.length_map] at this
  rw [len_tl]
  exact this
theorem pre_one {c x : Nat} {r : List Nat} : pre [c] (x :: r) = decide (x = c) := by
  unfold pre
  by_cases h : x = c <;> simp [h]
/-! ### text * number -/
theorem op_mul_str {X : Cx} : OpR X (binaryOp .Mult) (fun x y H Q => ∃ i j, x = .str i ∧ y = .int j ∧ (0 ≤ j ∧ j ≤ 10000 ∧ i.length ≤ 1000) ∧ Q (.str (Txt.mul i j)) H) := fun pins s σ H x y v u Q I rx ry h => by
  obtain ⟨i, j, rfl, rfl, ⟨h0, h1, h2⟩, q⟩ := h
  obtain ⟨t, rfl⟩ := rx
  obtain ⟨t', rfl⟩ := ry
  refine SB.mul ⟨?_, fun h3 h4 => ?_, fun h3 h4 => ?_⟩ fun t' k => ⟨.str (Txt.mul i j), H, I.tok _, ⟨_, rfl⟩, q⟩
  · simp
    omega
  · have h5 : (i.length : Int) * j ≤ 1000 * 10000 := Int.mul_le_mul (by omega) h1 h0 (by decide)
    have h6 : (i.length : Int) ≤ (2 ^ 63 - 1) / j := Int.le_ediv_of_mul_le (by omega) (by omega)
    omega
  · have h5 : i.length * j.toNat ≤ 1000 * 10000 := Nat.mul_le_mul h2 (by omega)
    have h6 : i.length * j.toNat ≤ sizeLine := Nat.le_trans h5 (by decide)
    unfold Builtin.Str.tooLong
    exact decide_eq_false (by omega)
theorem fold_cps (a : Array Nat) : ∀ (k : Nat) (acc : Array Nat), ((List.replicate k a).foldl (fun x y => x ++ y) acc).toList = acc.toList ++ (List.replicate k a.toList).flatten
  | 0, acc => by simp
  | k + 1, acc => by
    rw [List.replicate_succ, List.foldl_cons, fold_cps a k, List.replicate_succ, List.flatten_cons, Array.toList_append, List.append_assoc]
theorem flat_nil : ∀ k : Nat, (List.replicate k ([] : List Nat)).flatten = []
  | 0 => rfl
  | k + 1 => by rw [List.replicate_succ, List.flatten_cons, flat_nil k]; rfl
theorem tl_mul (x : Str) (n : Int) : tl (Txt.mul x n) = (List.replicate n.toNat (tl x)).flatten := by
  unfold Txt.mul
  split
  · rename_i h
    rw [show n.toNat = 0 by omega]
    rfl
  · split
    · rename_i h1 h2
      rcases Bool.or_eq_true_iff.mp h2 with h | h
      · have : n = 1 := by simpa using h
        subst this
        simp
      · have h3 : x.length = 0 := by simpa using h
        rw [len_tl] at h3
        rw [List.length_eq_zero_iff.mp h3, flat_nil]
    · show ((List.replicate n.toNat x.cps).foldl (fun x y => x ++ y) #[]).toList = _
      rw [fold_cps]
      rfl
theorem mul_len (x : Str) (n : Int) : (Txt.mul x n).length = x.length * n.toNat := by
  rw [len_tl, tl_mul, List.length_flatten, List.map_replicate, List.sum_replicate_nat, len_tl, Nat.mul_comm]
theorem Asc.mul {x : Str} (a : Asc x) (n : Int) : Asc (Txt.mul x n) := fun c hc => by
  rw [tl_mul] at hc
  obtain ⟨l, hl, hc⟩ := List.mem_flatten.mp hc
  rw [List.eq_of_mem_replicate hl] at hc
  exact a c hc
/-! ### loops by what is behind -/
section
variable {g : TG} {tb : TS} {D : Ends} {σ : L2.St} {H : Hp}
theorem for_str {s : Str} (Pv : List Nat → L2.St → Hp → Prop) (h0 : Pv [] σ H)
    (hs : ∀ pre c post σ H, tl s = pre ++ c :: post → Pv pre σ H → g (.str ⟨#[c]⟩) σ H fun σ2 H2 => tb { D with nx := Pv (pre ++ [c]), ct := Pv (pre ++ [c]), bk := D.nx } σ2 H2) (hd : ∀ σ H, Pv (tl s) σ H → D.nx σ H) :
    ∃ W : Nat → Nat → L2.St → Hp → Prop, (∃ m, W 0 m σ H) ∧ ∀ i m σ H, W i m σ H →
      ((Its s).stop i H ∧ D.nx σ H) ∨ ((Its s).go i H ∧ ∃ N : L2.St → Hp → Prop, (∀ σ' H', N σ' H' → ∃ m', m' < m ∧ W (i + 1) m' σ' H') ∧ ∀ x H', (Its s).yld i H x H' → g x σ H' fun σ2 H2 => tb { D with nx := N, ct := N, bk := D.nx } σ2 H2) := by
  have hsz : s.cps.size = (tl s).length := by simp
  refine for_it walk_str (fun i σ H => Pv ((tl s).take i) σ H) (by simpa using h0) (fun _ _ _ _ _ => True.intro) ?_ (fun σ H p => hd σ H (by rw [hsz, List.take_length] at p; exact p))
  rintro i x σ H H' hi p ⟨rfl, c, hc, rfl⟩
  have hc' : (tl s)[i]? = some c := by simpa using hc
  have hl : i < (tl s).length := by omega
  have e : tl s = (tl s).take i ++ c :: (tl s).drop (i + 1) := by
    have h2 : (tl s)[i] = c := by rw [List.getElem?_eq_getElem hl] at hc'; exact Option.some.inj hc'
    rw [← h2, ← List.drop_eq_getElem_cons hl, List.take_append_drop]
  have e2 : (tl s).take (i + 1) = (tl s).take i ++ [c] := by rw [List.take_add_one, hc']; rfl
  rw [e2]
  exact hs _ c _ σ _ e p
theorem for_rg {lo : Int} {n : Nat} (Pv : Nat → L2.St → Hp → Prop) (h0 : Pv 0 σ H)
    (hs : ∀ i σ H, i < n → Pv i σ H → g (.int (lo + i)) σ H fun σ2 H2 => tb { D with nx := Pv (i + 1), ct := Pv (i + 1), bk := D.nx } σ2 H2) (hd : ∀ σ H, Pv n σ H → D.nx σ H) :
    ∃ W : Nat → Nat → L2.St → Hp → Prop, (∃ m, W 0 m σ H) ∧ ∀ i m σ H, W i m σ H →
      ((Itr lo n).stop i H ∧ D.nx σ H) ∨ ((Itr lo n).go i H ∧ ∃ N : L2.St → Hp → Prop, (∀ σ' H', N σ' H' → ∃ m', m' < m ∧ W (i + 1) m' σ' H') ∧ ∀ x H', (Itr lo n).yld i H x H' → g x σ H' fun σ2 H2 => tb { D with nx := N, ct := N, bk := D.nx } σ2 H2) := for_range Pv h0 hs hd
theorem for_li {K : PySem.W.Frag} {a : Addr} {xs : List V} (Pv : List V → L2.St → Hp → Prop) (h0 : Pv [] σ H) (hl : ∀ pre post σ H, xs = pre ++ post → Pv pre σ H → SqL K H a xs)
    (hs : ∀ pre x post σ H, xs = pre ++ x :: post → Pv pre σ H → g x σ H fun σ2 H2 => tb { D with nx := Pv (pre ++ [x]), ct := Pv (pre ++ [x]), bk := D.nx } σ2 H2) (hd : ∀ σ H, Pv xs σ H → D.nx σ H) :
    ∃ W : Nat → Nat → L2.St → Hp → Prop, (∃ m, W 0 m σ H) ∧ ∀ i m σ H, W i m σ H →
      ((Itl K a).stop i H ∧ D.nx σ H) ∨ ((Itl K a).go i H ∧ ∃ N : L2.St → Hp → Prop, (∀ σ' H', N σ' H' → ∃ m', m' < m ∧ W (i + 1) m' σ' H') ∧ ∀ x H', (Itl K a).yld i H x H' → g x σ H' fun σ2 H2 => tb { D with nx := N, ct := N, bk := D.nx } σ2 H2) := by
  refine for_it (walk_list (xs := xs)) (fun i σ H => Pv (xs.take i) σ H) (by simpa using h0) (fun i σ H _ p => hl (xs.take i) (xs.drop i) σ H (List.take_append_drop i xs).symm p) ?_ (fun σ H p => hd σ H (by rw [List.take_length] at p; exact p))
  rintro i x σ H H' hi p ⟨rfl, hc⟩
  have e : xs = xs.take i ++ x :: xs.drop (i + 1) := by
    have h2 : xs[i] = x := by rw [List.getElem?_eq_getElem hi] at hc; exact Option.some.inj hc
    rw [← h2, ← List.drop_eq_getElem_cons hi, List.take_append_drop]
  have e2 : xs.take (i + 1) = xs.take i ++ [x] := by rw [List.take_add_one, hc]; rfl
  rw [e2]
  exact hs _ x _ σ _ e p
end
section
variable {g : TG} {tt : TT} {te : TE} {vs : List Nat} {σ : L2.St} {H1 : Hp} {D : Addr} {Qd : Hp → Prop}
theorem lc_rg {lo : Int} {n : Nat} (Pv : Nat → Hp → Prop) (h0 : Pv 0 (upd H1 D (.lst [])))
    (hs : ∀ i H, i < n → Pv i H → g (.int (lo + i)) (wipe σ vs) H fun σ2 H2 => wipe σ2 vs = wipe σ vs ∧ tt σ2 H2 fun b H3 =>
      if b = true then te σ2 H3 fun y H4 => ∃ acc, H4 D = some (.lst acc) ∧ acc.length < sizeLine ∧ Pv (i + 1) (upd H4 D (.lst (acc ++ [y]))) else Pv (i + 1) H3) (hd : ∀ H, Pv n H → Qd H) :
    ∃ W : Nat → Nat → Hp → Prop, (∃ m, W 0 m (upd H1 D (.lst []))) ∧ ∀ i m H, W i m H →
      ((Itr lo n).stop i H ∧ Qd H) ∨ ((Itr lo n).go i H ∧ ∃ Nx : Hp → Prop, (∀ H', Nx H' → ∃ m', m' < m ∧ W (i + 1) m' H') ∧ ∀ x H', (Itr lo n).yld i H x H' → g x (wipe σ vs) H' fun σ2 H2 => wipe σ2 vs = wipe σ vs ∧ tt σ2 H2 fun b H3 =>
        if b = true then te σ2 H3 fun y H4 => ∃ acc, H4 D = some (.lst acc) ∧ acc.length < sizeLine ∧ Nx (upd H4 D (.lst (acc ++ [y]))) else Nx H3) := lc_range Pv h0 hs hd
theorem lc_str {s : Str} (Pv : List Nat → Hp → Prop) (h0 : Pv [] (upd H1 D (.lst [])))
    (hs : ∀ pre c post H, tl s = pre ++ c :: post → Pv pre H → g (.str ⟨#[c]⟩) (wipe σ vs) H fun σ2 H2 => wipe σ2 vs = wipe σ vs ∧ tt σ2 H2 fun b H3 =>
      if b = true then te σ2 H3 fun y H4 => ∃ acc, H4 D = some (.lst acc) ∧ acc.length < sizeLine ∧ Pv (pre ++ [c]) (upd H4 D (.lst (acc ++ [y]))) else Pv (pre ++ [c]) H3) (hd : ∀ H, Pv (tl s) H → Qd H) :
    ∃ W : Nat → Nat → Hp → Prop, (∃ m, W 0 m (upd H1 D (.lst []))) ∧ ∀ i m H, W i m H →
      ((Its s).stop i H ∧ Qd H) ∨ ((Its s).go i H ∧ ∃ Nx : Hp → Prop, (∀ H', Nx H' → ∃ m', m' < m ∧ W (i + 1) m' H') ∧ ∀ x H', (Its s).yld i H x H' → g x (wipe σ vs) H' fun σ2 H2 => wipe σ2 vs = wipe σ vs ∧ tt σ2 H2 fun b H3 =>
        if b = true then te σ2 H3 fun y H4 => ∃ acc, H4 D = some (.lst acc) ∧ acc.length < sizeLine ∧ Nx (upd H4 D (.lst (acc ++ [y]))) else Nx H3) := by
  have hsz : s.cps.size = (tl s).length := by simp
  refine lc_it walk_str (fun i H => Pv ((tl s).take i) H) (by simpa using h0) (fun _ _ _ _ => True.intro) ?_ (fun H p => hd H (by rw [hsz, List.take_length] at p; exact p))
  rintro i x H H' hi p ⟨rfl, c, hc, rfl⟩
  have hc' : (tl s)[i]? = some c := by simpa using hc
  have hl : i < (tl s).length := by omega
  have e : tl s = (tl s).take i ++ c :: (tl s).drop (i + 1) := by
    have h2 : (tl s)[i] = c := by rw [List.getElem?_eq_getElem hl] at hc'; exact Option.some.inj hc'
    rw [← h2, ← List.drop_eq_getElem_cons hl, List.take_append_drop]
  have e2 : (tl s).take (i + 1) = (tl s).take i ++ [c] := by rw [List.take_add_one, hc']; rfl
  rw [e2]
  exact hs _ c _ _ e p
theorem lc_li {K : PySem.W.Frag} {a : Addr} {xs : List V} (Pv : List V → Hp → Prop) (h0 : Pv [] (upd H1 D (.lst []))) (hl : ∀ pre post H, xs = pre ++ post → Pv pre H → SqL K H a xs)
    (hs : ∀ pre x post H, xs = pre ++ x :: post → Pv pre H → g x (wipe σ vs) H fun σ2 H2 => wipe σ2 vs = wipe σ vs ∧ tt σ2 H2 fun b H3 =>
      if b = true then te σ2 H3 fun y H4 => ∃ acc, H4 D = some (.lst acc) ∧ acc.length < sizeLine ∧ Pv (pre ++ [x]) (upd H4 D (.lst (acc ++ [y]))) else Pv (pre ++ [x]) H3) (hd : ∀ H, Pv xs H → Qd H) :
    ∃ W : Nat → Nat → Hp → Prop, (∃ m, W 0 m (upd H1 D (.lst []))) ∧ ∀ i m H, W i m H →
      ((Itl K a).stop i H ∧ Qd H) ∨ ((Itl K a).go i H ∧ ∃ Nx : Hp → Prop, (∀ H', Nx H' → ∃ m', m' < m ∧ W (i + 1) m' H') ∧ ∀ x H', (Itl K a).yld i H x H' → g x (wipe σ vs) H' fun σ2 H2 => wipe σ2 vs = wipe σ vs ∧ tt σ2 H2 fun b H3 =>
        if b = true then te σ2 H3 fun y H4 => ∃ acc, H4 D = some (.lst acc) ∧ acc.length < sizeLine ∧ Nx (upd H4 D (.lst (acc ++ [y]))) else Nx H3) := by
  refine lc_it (walk_list (xs := xs)) (fun i H => Pv (xs.take i) H) (by simpa using h0) (fun i H _ p => hl (xs.take i) (xs.drop i) H (List.take_append_drop i xs).symm p) ?_ (fun H p => hd H (by rw [List.take_length] at p; exact p))
  rintro i x H H' hi p ⟨rfl, hc⟩
  have e : xs = xs.take i ++ x :: xs.drop (i + 1) := by
    have h2 : xs[i] = x := by rw [List.getElem?_eq_getElem hi] at hc; exact Option.some.inj hc
    rw [← h2, ← List.drop_eq_getElem_cons hi, List.take_append_drop]
  have e2 : xs.take (i + 1) = xs.take i ++ [x] := by rw [List.take_add_one, hc]; rfl
  rw [e2]
  exact hs _ x _ _ e p
end
end FR
set_option Elab.async false
set_option linter.all false
set_option maxRecDepth 100000
/-! names and paths; defs with a star parameter -/
namespace FR
open PySem PySem.Spec PyProof.Rows L2 TL
theorem Keep.trans {M : List Addr} {H H1 H2 : Hp} (a : Keep M H H1) (b : Keep M H1 H2) : Keep M H H2 := fun p o e hp => b p o (a p o e hp) hp
theorem Keep.nil {M : List Addr} {H H1 : Hp} (a : Keep [] H H1) : Keep M H H1 := fun p o e _ => a p o e (by simp)
theorem Ow.sel {H0 H : Hp} {M : List Addr} {L L' : List (Addr × HO)} (W : Ow H0 M H L) (h : L'.Sublist L) : Ow H0 M H L' := ⟨W.keep, fun p hp => W.has p (h.subset hp), (h.map _).nodup W.nd, fun p hp => W.fr p (h.subset hp)⟩
theorem Ow.fresh {H0 H : Hp} {M : List Addr} {L : List (Addr × HO)} {p : Addr} {o : HO} (W : Ow H0 M H ((p, o) :: L)) (h : ∀ x ∈ M, x ∈ L.map (·.1)) : H0 p = none := by
  rcases W.fr _ List.mem_cons_self with r | r
  · exact r
  · exact absurd (h _ r) (List.nodup_cons.mp W.nd).1
theorem Ow.anyN {H0 H H' : Hp} {M : List Addr} {L : List (Addr × HO)} {a p : Addr} {o o' o2 : HO} (W : Ow H0 M H L) (i : Nat) (e : L[i]? = some (a, o)) (k : Keep [a] H H') (h : H' a = some o') (hp : H p = none) (h2 : H' p = some o2) : Ow H0 M H' ((p, o2) :: L.set i (a, o')) where
  keep := (W.any1 i e k h).keep
  has := fun q hq => by
    rcases List.mem_cons.mp hq with rfl | hq
    · exact h2
    · exact (W.any1 i e k h).has q hq
  nd := by
    rw [List.map_cons, List.nodup_cons, map_set_fst e]
    refine ⟨fun hm => ?_, W.nd⟩
    obtain ⟨q, hq, e⟩ := List.mem_map.mp hm
    have := W.has q hq
    rw [show q.1 = p from e, hp] at this
    cases this
  fr := fun q hq => by
    rcases List.mem_cons.mp hq with rfl | hq
    · by_cases hm : p ∈ M
      · exact .inr hm
      · cases e0 : H0 p with
        | none => exact .inl rfl
        | some u =>
          have := W.keep p u e0 hm
          rw [hp] at this
          cases this
    · exact (W.any1 i e k h).fr q hq
/-- a small letter -/
def lc (c : Nat) : Bool := decide (97 ≤ c ∧ c ≤ 122)
theorem lc_alpha : ∀ c : Fin 128, lc c.1 = true → Unicode.isAlpha c.1 = true ∧ Unicode.isLower c.1 = true ∧ (Unicode.isUpper c.1 || Unicode.isTitle c.1) = false := by decide +kernel
theorem all_tl (s : Str) (p : Nat → Bool) : s.cps.all p = (tl s).all p := by simp
theorem any_tl (s : Str) (p : Nat → Bool) : s.cps.any p = (tl s).any p := by simp
theorem isascii_asc {s : Str} (a : Asc s) : Txt.isascii s = true := by
  show s.cps.all (· < 128) = true
  rw [all_tl]
  exact List.all_eq_true.mpr fun c hc => decide_eq_true (a c hc)
/-- a name -/
structure Nm (s : Str) : Prop where
  l0 : 1 ≤ s.length
  l1 : s.length ≤ 8
  lo : ∀ c ∈ tl s, lc c = true
theorem Nm.lt {s : Str} (h : Nm s) {c : Nat} (hc : c ∈ tl s) : 97 ≤ c ∧ c ≤ 122 := of_decide_eq_true (h.lo c hc)
theorem Nm.asc {s : Str} (h : Nm s) : Asc s := fun c hc => by have := h.lt hc; omega
theorem Nm.alpha {s : Str} (h : Nm s) : Txt.isalpha s = true := by
  show (decide (s.length > 0) && s.cps.all Unicode.isAlpha) = true
  rw [all_tl, Bool.and_eq_true, decide_eq_true_eq, List.all_eq_true]
  exact ⟨h.l0, fun c hc => (lc_alpha ⟨c, h.asc c hc⟩ (h.lo c hc)).1⟩
theorem Nm.lower {s : Str} (h : Nm s) : Txt.islower s = true := by
  show (s.cps.any Unicode.isLower && !s.cps.any fun c => Unicode.isUpper c || Unicode.isTitle c) = true
  rw [any_tl, any_tl, Bool.and_eq_true, List.any_eq_true, Bool.not_eq_true', List.any_eq_false]
  refine ⟨?_, fun c hc => by have := (lc_alpha ⟨c, h.asc c hc⟩ (h.lo c hc)).2.2; simpa using this⟩
  have h0 := h.l0
  rw [len_tl] at h0
  obtain ⟨c, hc⟩ := List.exists_mem_of_length_pos h0
  exact ⟨c, hc, (lc_alpha ⟨c, h.asc c hc⟩ (h.lo c hc)).2.1⟩
theorem slash : Str.ofString "/" = ⟨#[47]⟩ := by decide +kernel
theorem tl_slash : tl (Str.ofString "/") = [47] := by decide +kernel
theorem tl_emp : tl (Str.ofString "") = [] := by decide +kernel
/-- names behind slashes -/
def flat (ns : List Str) : List Nat := (ns.map fun s => 47 :: tl s).flatten
def cat (ns : List Str) : Str := ns.foldl (fun a n => (a ++ Str.ofString "/") ++ n) (Str.ofString "")
theorem cat_app (ns : List Str) (n : Str) : cat (ns ++ [n]) = (cat ns ++ Str.ofString "/") ++ n := by
  unfold cat
  rw [List.foldl_append]
  rfl
theorem tl_catF : ∀ (ns : List Str) (a : Str), tl (ns.foldl (fun a n => (a ++ Str.ofString "/") ++ n) a) = tl a ++ flat ns
  | [], a => by simp [flat]
  | n :: r, a => by
    rw [List.foldl_cons, tl_catF r, tl_append, tl_append, tl_slash]
    simp [flat]
theorem tl_cat (ns : List Str) : tl (cat ns) = flat ns := by
  unfold cat
  rw [tl_catF, tl_emp]
  rfl
def Nms (ns : List Str) : Prop := ∀ s ∈ ns, Nm s
theorem Nms.app {a b : List Str} (ha : Nms a) (hb : Nms b) : Nms (a ++ b) := fun s h => (List.mem_append.mp h).elim (ha s) (hb s)
theorem Nms.sub {a b : List Str} (h : Nms b) (s : ∀ x ∈ a, x ∈ b) : Nms a := fun x hx => h x (s x hx)
theorem Nms.take {a : List Str} (h : Nms a) (k : Nat) : Nms (a.take k) := h.sub fun _ => List.mem_of_mem_take
theorem Nms.drop {a : List Str} (h : Nms a) (k : Nat) : Nms (a.drop k) := h.sub fun _ => List.mem_of_mem_drop
theorem Nms.dropLast {a : List Str} (h : Nms a) : Nms a.dropLast := h.sub fun _ hx => (List.dropLast_subset _) hx
theorem Nms.asc {a : List Str} (h : Nms a) : ∀ s ∈ a, Asc s := fun s hs => (h s hs).asc
theorem flat_len : ∀ {ns : List Str}, Nms ns → (flat ns).length ≤ 9 * ns.length
  | [], _ => by simp [flat]
  | n :: r, h => by
    have ih := flat_len (ns := r) fun s hs => h s (List.mem_cons_of_mem _ hs)
    have h1 := (h n List.mem_cons_self).l1
    rw [len_tl] at h1
    show ((47 :: tl n) ++ flat r).length ≤ _
    rw [List.length_append, List.length_cons, List.length_cons]
    omega
theorem cat_len {ns : List Str} (h : Nms ns) : (cat ns).length ≤ 9 * ns.length := by
  rw [len_tl, tl_cat]
  exact flat_len h
def pathOf (ns : List Str) : Str := if ns = [] then Str.ofString "/" else cat ns
theorem pathOf_nil : pathOf [] = Str.ofString "/" := rfl
theorem pathOf_ne {ns : List Str} (h : ns ≠ []) : pathOf ns = cat ns := if_neg h
theorem path_len {ns : List Str} (h : Nms ns) : (pathOf ns).length ≤ 9 * ns.length + 1 := by
  by_cases e : ns = []
  · subst e
    decide +kernel
  · rw [pathOf_ne e]
    exact Nat.le_trans (cat_len h) (by omega)
theorem flat_cons (n : Str) (r : List Str) : flat (n :: r) = 47 :: (tl n ++ flat r) := by simp [flat]
theorem path_starts (ns : List Str) : Txt.startswith (pathOf ns) (Str.ofString "/") = true := by
  rw [slash, starts_one]
  cases ns with
  | nil => decide +kernel
  | cons n r => rw [pathOf_ne (by simp), tl_cat, flat_cons]; rfl
theorem path_slash {ns : List Str} (h : Nms ns) (e : ns ≠ []) : pathOf ns ≠ Str.ofString "/" := fun he => by
  have := congrArg tl he
  rw [pathOf_ne e, tl_cat, tl_slash] at this
  cases ns with
  | nil => exact e rfl
  | cons n r =>
    rw [flat_cons] at this
    have h0 := (h n List.mem_cons_self).l0
    rw [len_tl] at h0
    have h2 := congrArg List.length this
    simp at h2
    simp [h2.1] at h0
theorem cat_emp {ns : List Str} : cat ns = Str.ofString "" ↔ ns = [] := by
  constructor
  · intro h
    cases ns with
    | nil => rfl
    | cons n r =>
      have := congrArg tl h
      rw [tl_cat, flat_cons, tl_emp] at this
      cases this
  · rintro rfl
    rfl
theorem spl_word : ∀ (l acc r : List Nat), (∀ c ∈ l, c ≠ 47) → spl [47] 0 acc (l ++ r) = spl [47] 0 (acc ++ l) r
  | [], acc, r, _ => by simp
  | c :: l, acc, r, h => by
    rw [List.cons_append, spl_miss (by rw [pre_one]; exact decide_eq_false (h c List.mem_cons_self)), spl_word l _ r fun d hd => h d (List.mem_cons_of_mem _ hd)]
    simp
theorem spl_flat : ∀ (ns : List Str) (acc : List Nat), Nms ns → spl [47] 0 acc (flat ns) = acc :: ns.map tl
  | [], acc, _ => by
    show spl [47] 0 acc [] = _
    rw [spl_nil]
    rfl
  | n :: r, acc, h => by
    have hn := h n List.mem_cons_self
    rw [flat_cons, spl_hit (by rw [pre_one]; rfl), List.map_cons]
    show acc :: spl [47] 0 [] (tl n ++ flat r) = _
    rw [spl_word _ _ _ fun c hc => by have := hn.lt hc; omega, spl_flat r _ fun s hs => h s (List.mem_cons_of_mem _ hs)]
    rfl
theorem split_path {ns : List Str} (h : Nms ns) (e : ns ≠ []) : Txt.split (pathOf ns) (Str.ofString "/") = Str.ofString "" :: ns := by
  refine map_tl_inj ?_
  rw [slash, split_tl _ (by decide), pathOf_ne e, tl_cat, spl_flat _ _ h, List.map_cons, tl_emp]
theorem flat_join : ∀ {ns : List Str}, ns ≠ [] → 47 :: joinL [47] (ns.map tl) = flat ns
  | [], h => absurd rfl h
  | [s], _ => by
    rw [flat_cons]
    show 47 :: tl s = 47 :: (tl s ++ [])
    rw [List.append_nil]
  | s :: t :: r, _ => by
    have ih := flat_join (ns := t :: r) (by simp)
    rw [flat_cons, ← ih]
    rfl
theorem join_path (ns : List Str) : Str.ofString "/" ++ Txt.join (Str.ofString "/") ns = pathOf ns := by
  refine ext_tl ?_
  rw [tl_append, join_eq, tl_join, tl_slash]
  cases ns with
  | nil => decide +kernel
  | cons n r =>
    rw [pathOf_ne (by simp), tl_cat]
    exact flat_join (by simp)
theorem names_sum {ns : List Str} (h : Nms ns) : (ns.map (·.length)).sum ≤ ns.length * 8 := sum_le fun s hs => (h s hs).l1
theorem ix_listK {X : Cx} {K : PySem.W.Frag} (h : X.K = K) : IxR X (rIxL K) := h ▸ ix_list
/-! slices -/
theorem cutV_to (xs : List V) (k : Nat) : cutV xs none (some (k : Int)) = xs.take k := by
  show (xs.drop 0).take (HT.sIx xs.length xs.length (some (k : Int)) - 0) = _
  rw [HT.sIx_nat, List.drop_zero, Nat.sub_zero]
  by_cases h : k ≤ xs.length
  · rw [Nat.min_eq_left h]
  · rw [Nat.min_eq_right (by omega), List.take_of_length_le (Nat.le_refl _), List.take_of_length_le (by omega)]
theorem cutV_from (xs : List V) (k : Nat) : cutV xs (some (k : Int)) none = xs.drop k := by
  show (xs.drop (HT.sIx xs.length 0 (some (k : Int)))).take (xs.length - HT.sIx xs.length 0 (some (k : Int))) = _
  rw [HT.sIx_nat]
  by_cases h : k ≤ xs.length
  · rw [Nat.min_eq_left h, List.take_of_length_le (by rw [List.length_drop]; exact Nat.le_refl _)]
  · rw [Nat.min_eq_right (by omega), Nat.sub_self, List.take_zero, List.drop_of_length_le (by omega)]
theorem cutV_last (xs : List V) : cutV xs none (some (-1)) = xs.dropLast := by
  show (xs.drop 0).take (((-1 : Int) + (xs.length : Int)).toNat - 0) = _
  rw [List.drop_zero, Nat.sub_zero, List.dropLast_eq_take, show ((-1 : Int) + (xs.length : Int)).toNat = xs.length - 1 by omega]
theorem tl_cutTo (s : Str) (k : Nat) : tl (cutS s none (some (k : Int))) = (tl s).take k := by
  rw [tl_cutS]
  show ((tl s).drop 0).take (HT.sIx s.length s.length (some (k : Int)) - 0) = _
  rw [HT.sIx_nat, len_tl, List.drop_zero, Nat.sub_zero]
  by_cases h : k ≤ (tl s).length
  · rw [Nat.min_eq_left h]
  · rw [Nat.min_eq_right (by omega), List.take_of_length_le (Nat.le_refl _), List.take_of_length_le (by omega)]
theorem eqv_strs2 : ∀ a b : List Str, PyData.eqvAll (a.map .str) (b.map .str) = decide (a = b)
  | [], [] => rfl
  | [], _ :: _ => rfl
  | _ :: _, [] => rfl
  | x :: a, y :: b => by
    rw [List.map_cons, List.map_cons, PyData.eqvAll, eqv_strs2 a b, PyData.eqv]
    by_cases h : x = y
    · subst h
      simp
    · simp [h]
theorem eqv_lists (a b : List Str) : PyData.eqv (dStrs a) (dStrs b) = decide (a = b) := by
  unfold dStrs
  rw [PyData.eqv, eqv_strs2]
theorem shaped_names {ns : List Str} (h : Nms ns) : SeqAt.shaped (dStrs ns) = true := shaped_strs h.asc
/-! ### a walk over a tuple by what is behind -/
section
variable {g : TG} {tb : TS} {D : Ends} {σ : L2.St} {H : Hp}
theorem for_tu {K : PySem.W.Frag} {a : Addr} {xs : List V} (Pv : List V → L2.St → Hp → Prop) (h0 : Pv [] σ H) (hl : ∀ pre post σ H, xs = pre ++ post → Pv pre σ H → SqT K H a xs)
    (hs : ∀ pre x post σ H, xs = pre ++ x :: post → Pv pre σ H → g x σ H fun σ2 H2 => tb { D with nx := Pv (pre ++ [x]), ct := Pv (pre ++ [x]), bk := D.nx } σ2 H2) (hd : ∀ σ H, Pv xs σ H → D.nx σ H) :
    ∃ W : Nat → Nat → L2.St → Hp → Prop, (∃ m, W 0 m σ H) ∧ ∀ i m σ H, W i m σ H →
      ((Itt K a).stop i H ∧ D.nx σ H) ∨ ((Itt K a).go i H ∧ ∃ N : L2.St → Hp → Prop, (∀ σ' H', N σ' H' → ∃ m', m' < m ∧ W (i + 1) m' σ' H') ∧ ∀ x H', (Itt K a).yld i H x H' → g x σ H' fun σ2 H2 => tb { D with nx := N, ct := N, bk := D.nx } σ2 H2) := by
  refine for_it (walk_tup (xs := xs)) (fun i σ H => Pv (xs.take i) σ H) (by simpa using h0) (fun i σ H _ p => hl (xs.take i) (xs.drop i) σ H (List.take_append_drop i xs).symm p) ?_ (fun σ H p => hd σ H (by rw [List.take_length] at p; exact p))
  rintro i x σ H H' hi p ⟨rfl, hc⟩
  have e : xs = xs.take i ++ x :: xs.drop (i + 1) := by
    have h2 : xs[i] = x := by rw [List.getElem?_eq_getElem hi] at hc; exact Option.some.inj hc
    rw [← h2, ← List.drop_eq_getElem_cons hi, List.take_append_drop]
  have e2 : xs.take (i + 1) = xs.take i ++ [x] := by rw [List.take_add_one, hc]; rfl
  rw [e2]
  exact hs _ x _ σ _ e p
end
/-! ### defs with a star parameter, and their calls -/
theorem okStar {P : Program} {w : World} {K : PySem.W.Frag} {mg : Str → Option Value} {base : Heap} {x qual pv : Str} {st : Stmt} {f : Addr} {fd : FuncData} {N ps : List Str} {k : Nat} {sp : Sp} (F : L2.Fun K x qual st f fd) (S : FnScope N (ps ++ [pv]) (defScope st))
    (hb : ∀ (kV doc pm : Value) (an : Option Addr) (cdv ct : Value) (us rest : List Value), us.length = ps.length → bindArgs (PySem.W.fnOf x qual (defArgs st) (defBody st) (defScope st) .none kV doc pm an cdv ct) ⟨us ++ rest, []⟩ = (newTuple rest >>= fun t => pure (ps.zip us ++ [(pv, t)])))
    (hbody : ∀ (cdv : Value) (A : Around) (outer : List Env) (s : Shared) (H : Hp) (vs : List V) (Q : VK) (E : XK), Room k (A.deeper (envOfC qual (defScope st) s.heap.objs.size f cdv)) → sp vs H Q E →
      ∃ t, PSs (cxOf CX0 P w K mg base N qual (defScope st) f cdv A outer s H E).nox (defBody st) t ∧ t { nx := fun _ H' => Q .non H', rt := Q } (start N vs) H) :
    FnR P w K mg base CX0 (k + 1) f (fun vs H Q E => ∃ ws rest, vs = ws ++ rest ∧ ws.length = ps.length ∧ rest.length ≤ sizeLine ∧ ∀ p, H p = Option.none → sp (ws ++ [V.ref p]) (upd H p (.tup rest)) Q E) := by
  obtain ⟨oc, od, kV, doc, pm, an, cdv, ct, osl, rfl, lk, hcd⟩ := F.ex
  refine StX.fn_star lk hcd S StX.cxUp_none (hb kV doc pm an cdv ct) fun A outer s H vs Q E hr hsp => ?_
  obtain ⟨t, h, q⟩ := hbody cdv A outer s H vs Q E hr hsp
  exact ⟨t, h.nox, q⟩
section
variable {X : Cx} {CX : CXT} {k : Nat} {f : Addr} {sp : Sp} {E : XK} {x : Str} {e : Expr} {es : List Expr} {t : TA} {p pos : Pos}
theorem pe_callRN (F : FnR X.prog X.w X.K X.mg X.base CX k f sp) (hr : Room k X.A) (hk : PySem.W.keepIn X.K (.ref f) = true) (hg : Gl X x) (hm : X.mg x = some (.ref f)) (hx : Passes CX X E) (ha : PA X (e :: es) t) (hd : (x == ("__debug__" : Str)) = false := by decide)
    (he : starEach (e :: es) X.env = (false, eval e X.env) :: starEach es X.env := by rfl) (hpl : (backTo pos (starEach es X.env)).any (·.1) = false := by rfl) :
    PE X (.Call (.Name x p) (e :: es) [] pos) (fun σ H Q => t σ H fun vs H1 => sp vs H1 Q E) := by
  refine ⟨fun pins s σ H Q I h => ?_⟩
  refine wpAny_Call_Name_kw (ld_glob I hg hm ?_ hd)
  refine PySem.W.callWith_K (h₀ := X.base) I.ok.mod.kin hk (thn (ha.run pos pins s σ H _ I h) fun us s1 ⟨vs, H1, I1, r, q⟩ => ⟨I1.kIn, ?_⟩) he hpl
  exact wpAny_call (run_fnR F hr hx I1 r q)
end

end FR
set_option Elab.async false
set_option linter.all false
set_option maxRecDepth 100000
namespace FR
open PySem PySem.Spec PyProof.Rows L2 TL
theorem pe_joinK {X : Cx} {K : PySem.W.Frag} {o e : Expr} {to te : TE} {apos pos : Pos} (h : X.K = K) (ho : PE X o to) (he : PE X e te) (hs : starEach [e] X.env = [(false, eval e X.env)] := by rfl) (hbase : attributeBase o "join" X.env (eval o X.env) = eval o X.env := by rfl) (hline : (apos.endLine == pos.line) = true := by rfl) :
    PE X (.Call (.Attribute o "join" apos) [e] [] pos) (tM1 (fun x xs H Q => ∃ a p, ∃ ys : List Str, x = .str a ∧ xs = [.ref p] ∧ (SqL K H p (ys.map V.str) ∨ SqT K H p (ys.map V.str)) ∧
      (ys.map (·.length)).sum + ys.length * a.length ≤ 16777216 ∧ Q (.str (Txt.join a ys)) H) to te) := h ▸ pe_join ho he hs hbase hline
end FR
set_option Elab.async false
set_option linter.all false
set_option maxRecDepth 100000
/-! promises that also know that no repr is under way; repr of data -/
namespace FR
open PySem PySem.Spec PyProof.Rows L2 TL
def FnG (P : Program) (w : World) (K : PySem.W.Frag) (mg : Str → Option Value) (base : Heap) (CX : CXT) (k : Nat) (f : Addr) (sp : Sp) : Prop :=
  ∀ (A : Around) (outer : List Env) (s : Shared) (H : Hp) (us : List Value) (vs : List V) (Q : VK) (E : XK), A.guards = some [] → Room k A → Env0 P w K mg base A outer s H → Vals vs us → sp vs H Q E → codeAny (model P w) A (.call (.ref f) ⟨us, []⟩) (CR CX outer P w H s Q E) s
section
variable {P : Program} {w : World} {K : PySem.W.Frag} {mg : Str → Option Value} {base : Heap} {CX : CXT} {k : Nat} {f : Addr} {sp : Sp}
theorem FnG.of (F : FnR P w K mg base CX k f sp) : FnG P w K mg base CX k f sp := fun A outer s H us vs Q E _ hr e0 r hs => F A outer s H us vs Q E hr e0 r hs
theorem okG {x qual : Str} {st : Stmt} {fd : FuncData} {N ps : List Str} (F : L2.Fun K x qual st f fd) (S : FnScope N ps (defScope st)) (B : Binds K fd ps []) (hlen : ∀ vs H Q E, sp vs H Q E → vs.length = ps.length)
    (hbody : ∀ (cdv : Value) (A : Around) (outer : List Env) (s : Shared) (H : Hp) (vs : List V) (Q : VK) (E : XK), A.guards = some [] → Room k (A.deeper (envOfC qual (defScope st) s.heap.objs.size f cdv)) → sp vs H Q E →
      ∃ t, PSs (cxOf CX P w K mg base N qual (defScope st) f cdv A outer s H E) (defBody st) t ∧ t { nx := fun _ H' => Q .non H', rt := Q } (start N vs) H) : FnG P w K mg base CX (k + 1) f sp := by
  intro A outer s H us vs Q E hg hr e0 r hsp
  obtain ⟨oc, od, kV, doc, pm, an, cdv, ct, osl, rfl, lk, hcd⟩ := F.ex
  have hv : vs.length = ps.length := hlen _ _ _ _ hsp
  have hu : us.length = ps.length := by rw [← r.length]; exact hv
  have KI : K.In s.heap := e0.mod.kin.keeps fun b o e => (e0.bs b o e).1
  have b0 := B s us KI (by rw [List.append_nil]; exact hu)
  rw [List.append_nil] at b0
  refine StX.run_bnd lk hcd S hr e0 (G := fun xs H2 => xs = vs ∧ H2 = H) (fun A' Ex Q' h => ?_) fun s2 H2 xs ⟨ex, eH⟩ hr' => ?_
  · exact b0 _ _ _ _ (h s H vs us e0 Un.refl rfl (fun _ _ z => z) r hv ⟨rfl, rfl⟩)
  · subst ex eH
    exact hbody cdv A outer s2 _ _ Q E hg hr' hsp
end
section
variable {X : Cx} {CX : CXT} {k : Nat} {f : Addr} {sp : Sp} {E : XK} {x : Str} {e : Expr} {es : List Expr} {t : TA} {p pos : Pos}
theorem pe_callG (F : FnG X.prog X.w X.K X.mg X.base CX k f sp) (hgd : X.A.guards = some []) (hr : Room k X.A) (hk : PySem.W.keepIn X.K (.ref f) = true) (hg : Gl X x) (hm : X.mg x = some (.ref f)) (hx : Passes CX X E) (ha : PA X (e :: es) t) (hd : (x == ("__debug__" : Str)) = false := by decide)
    (he : starEach (e :: es) X.env = (false, eval e X.env) :: starEach es X.env := by rfl) (hpl : (backTo pos (starEach es X.env)).any (·.1) = false := by rfl) :
    PE X (.Call (.Name x p) (e :: es) [] pos) (fun σ H Q => t σ H fun vs H1 => sp vs H1 Q E) := ⟨fun pins s σ H Q I h => by
  refine wpAny_Call_Name_kw (ld_glob I hg hm (PySem.W.callWith_K (h₀ := X.base) I.ok.mod.kin hk (thn (ha.run pos pins s σ H _ I h) fun us s1 hz => ?_) he hpl) hd)
  obtain ⟨vs, H1, I1, r, q⟩ := hz
  refine ⟨I1.kIn, wpAny_call (codeAny_mono (F X.A X.stack s1 H1 us vs Q E hgd hr I1.env0 r q) fun rr s' hq => ?_)⟩
  match rr, hq with
  | .error ee, hq => exact hx pins σ H1 s1 ee s' I1 hq
  | .ok (.ret u), hq => exact I1.after hq
  | .ok .next, hq => exact hq.elim
  | .ok .brk, hq => exact hq.elim
  | .ok .cont, hq => exact hq.elim⟩
/-- repr of data without dicts -/
def rReprD (K : PySem.W.Frag) : List V → Hp → VK → Prop := fun xs H Q => ∃ (p : Addr) (d : PyData), xs = [.ref p] ∧ Dp K H (.ref p) d ∧ d.showable = true ∧ d.hasDict = false ∧ d.depth ≤ 50 ∧ d.shown.length ≤ sizeLine ∧ Q (.str d.shown) H
theorem call_reprD (hgd : X.A.guards = some []) (hu : X.A.units + 65 < cLine) : CallR X (.builtin "repr") (rReprD X.K) := fun pins s σ H xs us Q I r h => by
  obtain ⟨p, d, rfl, hd, hs, hnd, hdp, hz, q⟩ := h
  obtain ⟨u, rfl, ru⟩ : ∃ u, us = [u] ∧ RelV (.ref p) u := by
    cases r with
    | cons a b => cases b; exact ⟨_, rfl, a⟩
  cases (show u = Value.ref p from ru)
  obtain ⟨as, rd⟩ := Dp.reads I d _ _ hd ru
  exact repr_of_reads' rd hs (fun e => by rw [hnd] at e; cases e) hgd (by omega) (fun _ _ e => e) (fun h' u tk hk => ⟨.str d.shown, H, I.kept hk, ⟨_, rfl⟩, q⟩) hz
end
/-! ### the end of a row, for such a promise -/
theorem law_callG {P : Program} {w : World} {K : PySem.W.Frag} {mg mb : Str → Option Value} {k : Nat} {fa a : Addr} {sp : Sp} {s1 : Shared} {vs : List Value} {ns : List Int}
    (KX : K.In s1.heap) (hns : s1.heap.Ns mainGlobals mg) (hb : s1.heap.Ns builtinsNs mb) (hbb : ∀ x : Str, x ≠ "__name__" → mb x = bootBuiltins x) (hlim : s1.heap.NoLimit) (hg : s1.gens = #[])
    (ha : s1.heap.get? a = some { cls := .type "list", data := .seq vs.toArray }) (hi : IntsAre vs ns) (hl : ns.length ≤ sizeLine) (hr : Room k callerA)
    (F : ∀ base : Heap, K.In base → base.Ns mainGlobals mg → FnG P w K mg base CX0 k fa sp)
    (hsp : ∀ H : Hp, Only H → SqL K H a (ns.map V.int) → sp [.ref a] H (fun v _ => v = .bl true) fun _ _ _ => False) :
    codeAny (model P w) callerA (.call (.ref fa) ⟨[.ref a], []⟩) (fun r s' => r = .ok (.ret (.bool true)) ∧ OldK s1.heap s'.heap ∧ s'.os = s1.os ∧ AllBare s'.gens) s1 := by
  have rv := vals_ints hi
  have lv := hi.length
  have main : ∀ H : Hp, Only H → SqL K H a (ns.map V.int) → HOk P w H s1.heap → (∀ b, H b ≠ none → b = a) → (H a ≠ none → K.lookup a = none) →
      codeAny (model P w) callerA (.call (.ref fa) ⟨[.ref a], []⟩) (fun r s' => r = .ok (.ret (.bool true)) ∧ OldK s1.heap s'.heap ∧ s'.os = s1.os ∧ AllBare s'.gens) s1 := by
    intro H hO hS hok hA hK
    have free : ∀ {b : Addr} {o : Obj} {es : Array DictEntry} {ep : Nat}, s1.heap.get? b = some o → o.data = .dict es ep → H b = none := by
      intro b o es ep e d
      refine Classical.byContradiction fun q => ?_
      cases hA b q
      cases ha.symm.trans e
      cases d
    have nsT : ∀ {b : Addr} {m : Str → Option Value}, s1.heap.Ns b m → (hidT s1.heap H).Ns b m := by
      intro b m ⟨o, es, ep, e, d, r⟩
      exact ⟨o, es, ep, hidT_get e (free e d), d, r⟩
    have KT : K.In (hidT s1.heap H) := by
      intro b o e
      refine hidT_get (KX b o e) (Classical.byContradiction fun q => ?_)
      cases hA b q
      cases (hK q).symm.trans e
    have md : Mod K mg (hidT s1.heap H) := ⟨KT, nsT hns, ⟨mb, nsT hb, hbb⟩, hlim.elim fun mc hc => ⟨mc, nsT hc.1, hc.2⟩⟩
    have en : Env0 P w K mg (hidT s1.heap H) callerA [] s1 H := ⟨rfl, md, fun _ _ e => of_hidT e, Nat.le_of_eq (hidT_size ..), True.intro, fun _ hb => (List.not_mem_nil hb).elim, hok, AllBare.of_eq hg⟩
    refine codeAny_mono (F _ KT (nsT hns) callerA [] s1 H [.ref a] [.ref a] _ _ rfl hr en (.cons rfl .nil) (hsp H hO hS)) fun r s' h => ?_
    match r, h with
    | .error e, h => exact h.elim
    | .ok .next, h => exact h.elim
    | .ok .brk, h => exact h.elim
    | .ok .cont, h => exact h.elim
    | .ok (.ret u), h =>
      obtain ⟨v, H', os, bare, un, hok', rr, q⟩ := h
      cases (show v = .bl true from q)
      cases (show u = Value.bool true from rr)
      refine ⟨rfl, OldK.of_keep fun b o e => ?_, os, bare⟩
      rcases hO b with z | ⟨ob, xs, z⟩
      · exact un.keep b o e z (fun y => (List.not_mem_nil y).elim) (List.not_mem_nil)
      · have t1 := (hok b _ z).1
        have t2 := (hok' b _ (un.frzs b ob _ z)).1
        rw [e] at t1
        cases t1
        exact t2
  cases hk : K.lookup a with
  | some o =>
    cases ha.symm.trans (KX a o hk)
    exact main (fun _ => none) (fun _ => Or.inl rfl) (Or.inr ⟨_, vs.toArray, _, hk, rfl, rfl, rfl, by rw [List.size_toArray, lv]; exact hl, by simpa using rv⟩) (fun b u z => nomatch (show (none : Option HO) = some u from z)) (fun b z => (z rfl).elim) (fun z => (z rfl).elim)
  | none =>
    have hs : ∀ b : Addr, b = a → (if b = a then some (HO.frz { cls := .type "list", data := .seq vs.toArray } (.lst (ns.map V.int))) else none) = some (HO.frz { cls := .type "list", data := .seq vs.toArray } (.lst (ns.map V.int))) := fun b e => if_pos e
    have hn : ∀ b : Addr, b ≠ a → (if b = a then some (HO.frz { cls := .type "list", data := .seq vs.toArray } (.lst (ns.map V.int))) else none) = none := fun b e => if_neg e
    refine main (fun b => if b = a then some (HO.frz { cls := .type "list", data := .seq vs.toArray } (.lst (ns.map V.int))) else none) (fun b => ?_) (Or.inl (Or.inr ⟨_, hs a rfl⟩)) (fun b u z => ?_) (fun b z => Classical.byContradiction fun e => z (hn b e)) (fun _ => hk)
    · by_cases e : b = a
      · exact Or.inr ⟨_, _, hs b e⟩
      · exact Or.inl (hn b e)
    · by_cases e : b = a
      · cases (hs b e).symm.trans z
        subst e
        exact ⟨ha, by rw [List.length_map]; exact hl, vs, _, rv, ha⟩
      · cases (hn b e).symm.trans z
theorem walk_ofG {l : PySem.W.OpenLaw} {n k : Nat} {q : Program} {loose : List Str} {XP : (Str → Option Value) → Heap → Prop} {YP : World → Heap → Prop} {d : DefRec} {K : Params → PySem.W.Frag} {sp : World → Sp}
    (hn : l.most = some n) (hn2 : n ≤ sizeLine) (hdf : d.params.defaults = []) (hr : Room k callerA) (hY : ∀ (w : World) (h : Heap), YP w h → (K w.params).In h)
    (F : ∀ (w : World) (mg : Str → Option Value) (fa : Addr) (h : Heap), (K w.params).In h → h.Ns mainGlobals mg → mg d.name = some (.ref fa) →
      ∀ base : Heap, (K w.params).In base → base.Ns mainGlobals mg → FnG l.prog w (K w.params) mg base CX0 k fa (sp w))
    (hsp : ∀ (w : World) (H : Hp) (a : Addr) (ns : List Int), ns.length ≤ n → Only H → SqL (K w.params) H a (ns.map V.int) → sp w [.ref a] H (fun v _ => v = .bl true) fun _ _ _ => False) :
    PySem.W.WalkO q loose XP YP l.row.toRowW d [] (fun f vs => PySem.call f vs) := by
  refine Att.attach_call hn hdf fun w s0 s1 mg mb fa o pm cd doc a vs ns G Y ho hd hcd hmg hobj hints hlen hg => ?_
  have KX := hY w _ Y
  exact law_callG KX G.T.g G.T.b G.T.builtins G.T.nolimit hg hobj hints (Nat.le_trans hlen hn2) hr (F w mg fa _ KX G.T.g hmg) fun H hO hS => hsp w H a ns hlen hO hS
end FR
set_option Elab.async false
set_option linter.all false
set_option maxRecDepth 100000
/-! repr of data with dicts -/
namespace FR
open PySem PySem.Spec PyProof.Rows L2 TL
def kD : Key → PyData
  | .inl i => .int i
  | .inr x => .str x
mutual
/-- x stands for the datum d, lists, tuples and dicts of this run all the way -/
inductive Dq (H : Hp) : V → PyData → Prop
  | non : Dq H .non .none
  | bl (b : Bool) : Dq H (.bl b) (.bool b)
  | int (i : Int) : Dq H (.int i) (.int i)
  | str (x : Str) : Dq H (.str x) (.str x)
  | lst {a : Addr} {xs : List V} {ds : List PyData} : H a = some (.lst xs) → sysModules < a → DqAll H xs ds → Dq H (.ref a) (.list ds)
  | tup {a : Addr} {xs : List V} {ds : List PyData} : H a = some (.tup xs) → DqAll H xs ds → Dq H (.ref a) (.tuple ds)
  | dct {a : Addr} {kvs : List (Key × V)} {ds : List (PyData × PyData)} : H a = some (.dK kvs) → DqKv H kvs ds → Dq H (.ref a) (.dict ds)
inductive DqAll (H : Hp) : List V → List PyData → Prop
  | nil : DqAll H [] []
  | cons {v : V} {vs : List V} {d : PyData} {ds : List PyData} : Dq H v d → DqAll H vs ds → DqAll H (v :: vs) (d :: ds)
inductive DqKv (H : Hp) : List (Key × V) → List (PyData × PyData) → Prop
  | nil : DqKv H [] []
  | cons {k : Key} {v : V} {vs : List (Key × V)} {d : PyData} {ds : List (PyData × PyData)} : Dq H v d → DqKv H vs ds → DqKv H ((k, v) :: vs) ((kD k, d) :: ds)
end
section
variable {X : Cx} {pins : List (Addr × Obj)} {σ : L2.St} {H : Hp} {s : Shared}
theorem kD_reads (k : Key) {u : Value} (h : keyIs k u = true) : Reads s.heap u (kD k) [] := by
  rcases keyIs_shape h with ⟨i, t, rfl, rfl⟩ | ⟨x, t, rfl, rfl⟩
  · exact .int i t
  · exact .str x t
mutual
theorem Dq.reads (I : Inv X pins σ H s) : ∀ (d : PyData) (v : V) (u : Value), Dq H v d → RelV v u → ∃ as, Reads s.heap u d as ∧ sysModules ∉ as
  | .none, _, _, h, r => by
    cases h
    cases r
    exact ⟨_, Reads.none, by simp⟩
  | .bool b, _, _, h, r => by
    cases h
    cases r
    exact ⟨_, Reads.bool b, by simp⟩
  | .int i, _, _, h, r => by
    cases h
    obtain ⟨t, rfl⟩ := r
    exact ⟨_, Reads.int i t, by simp⟩
  | .str x, _, _, h, r => by
    cases h
    obtain ⟨t, rfl⟩ := r
    exact ⟨_, Reads.str x t, by simp⟩
  | .list ds, _, _, h, r => by
    cases h with
    | lst hs hb ha =>
      cases r
      obtain ⟨_, its, n, rv, e⟩ := (show ObjOk X.prog X.w H s.heap _ (.lst _) from I.hok _ _ hs)
      obtain ⟨as, q, z⟩ := Dq.readsAll I ds _ _ ha rv
      exact ⟨_, Reads.list e rfl rfl q, fun h => (List.mem_cons.mp h).elim (fun e => by rw [← e] at hb; exact absurd hb (Nat.lt_irrefl _)) z⟩
  | .tuple ds, _, _, h, r => by
    cases h with
    | tup hs ha =>
      cases r
      obtain ⟨_, its, rv, o, e, hc, n, hd⟩ := (show ObjOk X.prog X.w H s.heap _ (.tup _) from I.hok _ _ hs)
      obtain ⟨as, q, z⟩ := Dq.readsAll I ds _ _ ha rv
      exact ⟨_, Reads.tuple e hc hd q, z⟩
  | .dict ds, _, _, h, r => by
    cases h with
    | dct hs ha =>
      cases r
      obtain ⟨_, ns, vs, kv, o, es, ep, e, hx, hd, _, hp, _⟩ := (show ObjOk X.prog X.w H s.heap _ (.dK _) from I.hok _ _ hs)
      obtain ⟨bs, q1, q2, z⟩ := Dq.readsKv I ds _ _ es.toList ha kv hp
      exact ⟨_, Reads.dict e hx.1 hd q1 q2, fun h => (List.mem_append.mp h).elim (fun h => (List.mem_cons.mp h).elim (fun e => by rw [← e] at ns; simp at ns) (fun h => by simp at h)) z⟩
theorem Dq.readsAll (I : Inv X pins σ H s) : ∀ (ds : List PyData) (vs : List V) (us : List Value), DqAll H vs ds → Vals vs us → ∃ as, ReadsAll s.heap us ds as ∧ sysModules ∉ as
  | [], _, _, h, r => by
    cases h
    cases r
    exact ⟨_, ReadsAll.nil, by simp⟩
  | d :: ds, _, _, h, r => by
    cases h with
    | cons h1 h2 =>
      cases r with
      | cons r1 r2 =>
        obtain ⟨as, q1, z1⟩ := Dq.reads I d _ _ h1 r1
        obtain ⟨bs, q2, z2⟩ := Dq.readsAll I ds _ _ h2 r2
        exact ⟨_, ReadsAll.cons q1 q2, fun h => (List.mem_append.mp h).elim z1 z2⟩
theorem Dq.readsKv (I : Inv X pins σ H s) : ∀ (ds : List (PyData × PyData)) (kvs : List (Key × V)) (vs : List (Key × Value)) (es : List DictEntry), DqKv H kvs ds → KV kvs vs → Pairs (mixKind X.prog X.w) es vs →
    ∃ bs, ReadsAll s.heap (es.map (·.key)) (ds.map (·.1)) [] ∧ ReadsAll s.heap (es.map (·.val)) (ds.map (·.2)) bs ∧ sysModules ∉ bs
  | [], _, _, _, h, r, p => by
    cases h
    cases r
    cases p
    exact ⟨_, ReadsAll.nil, ReadsAll.nil, by simp⟩
  | d :: ds, _, _, _, h, r, p => by
    cases h with
    | cons h1 h2 =>
      cases r with
      | cons r1 r2 =>
        cases p with
        | cons p1 p2 p3 =>
          obtain ⟨as, q1, z1⟩ := Dq.reads I _ _ _ h1 r1.2
          obtain ⟨bs, q2, q3, z2⟩ := Dq.readsKv I ds _ _ _ h2 r2 p3
          have p1' := p1
          rw [← r1.1] at p1'
          refine ⟨_, ?_, ?_, fun h => (List.mem_append.mp h).elim z1 z2⟩
          · exact ReadsAll.cons (as := []) (bs := []) (kD_reads _ (show keyIs _ _ = true from p1')) q2
          · rw [List.map_cons, List.map_cons, p2]
            exact ReadsAll.cons q1 q3
end
end
/-! lists at an address behind sysModules -/
structure NewS (o : HO) (Q : VK) (H : Hp) : Prop where
  to : ∀ (p : Addr) (H' : Hp), H p = none → sysModules < p → Keep [] H H' → H' p = some o → Q (.ref p) H'
section
variable {X : Cx} {es : List Expr} {t : TA} {pos : Pos}
def tLstS (t : TA) : TE := fun σ H Q => t σ H fun xs H1 => xs.length ≤ sizeLine ∧ NewS (.lst xs) Q H1
theorem pe_lstS (h : PA X es t) : PE X (.List es pos) (tLstS t) := by
  refine ⟨fun pins s σ H Q I hq => wpAny_List_spliced (thn (h.run _ pins s σ H _ I hq) fun us s1 hh => ?_)⟩
  obtain ⟨xs, H1, I1, r, z, q⟩ := hh
  refine ⟨by rw [← r.length]; exact z, .ref s1.heap.objs.size, upd H1 s1.heap.objs.size (.lst xs), I1.laid (t' := s1.toks) (fun _ _ e => Heap.get?_push_of_some _ e) (Nat.le_refl _) ⟨z, us, 0, r, Heap.get?_push_size _ rfl⟩, rfl, ?_⟩
  exact q.to _ _ (I1.hok.fresh (Nat.le_refl _)) I1.big (keep_new (I1.hok.fresh (Nat.le_refl _))) upd_same
end
section
variable {X : Cx}
def rReprQ : List V → Hp → VK → Prop := fun xs H Q => ∃ (p : Addr) (d : PyData), xs = [.ref p] ∧ Dq H (.ref p) d ∧ d.showable = true ∧ d.depth ≤ 50 ∧ d.shown.length ≤ sizeLine ∧ Q (.str d.shown) H
theorem call_reprQ (hgd : X.A.guards = some []) (hu : X.A.units + 65 < cLine) : CallR X (.builtin "repr") rReprQ := fun pins s σ H xs us Q I r h => by
  obtain ⟨p, d, rfl, hd, hs, hdp, hz, q⟩ := h
  obtain ⟨u, rfl, ru⟩ : ∃ u, us = [u] ∧ RelV (.ref p) u := by
    cases r with
    | cons a b => cases b; exact ⟨_, rfl, a⟩
  cases (show u = Value.ref p from ru)
  obtain ⟨as, rd, hsm⟩ := Dq.reads I d _ _ hd ru
  exact repr_of_reads' rd hs (fun _ => hsm) hgd (by omega) (fun _ _ e => e) (fun h' u tk hk => ⟨.str d.shown, H, I.kept hk, ⟨_, rfl⟩, q⟩) hz
end
end FR
set_option Elab.async false
set_option linter.all false
set_option maxRecDepth 100000
set_option maxHeartbeats 2000000
/-! exceptions of the program with one field, value -/
namespace PySem
namespace ExV
open PySem.W PySem.Calls PyProof.Rows PySem.HandSPX
/-! ### the text of __init__ -/
def iA (p1 p2 : Pos) : Arguments := { posonlyargs := [], args := [{ arg := "self", annotation := none, pos := p1 }, { arg := "value", annotation := none, pos := p2 }], vararg := none, kwonlyargs := [], kw_defaults := [], kwarg := none, defaults := [] }
def iB (q1 q2 q3 q4 : Pos) : List Stmt := [.Assign [.Attribute (.Name "self" q1) "value" q2] (.Name "value" q3) q4]
def iS : Scope := { kind := .function, names := [(PySem.Str.ofString "self", .local), (PySem.Str.ofString "value", .local)], isGenerator := false, isCoroutine := false, more := [] }
/-- what the written part says of Low, at C, and of its __init__, at fI -/
structure LowTxt (K : Frag) (mg : Str → Option Value) (cn qn : Str) (C fI : Addr) : Prop where
  gC : mg cn = some (.ref C)
  cls : ∃ nm q N bs bm sn sub ab col dd k0 k1 k2 k3 k5, K.lookup C = some (excClassObj nm q C N bs bm true sn sub ab col dd k0 k1 k2 k3 k5 "ValueError.__new__") ∧ refsVE bm = true
  sa : findIn K (.ref C) "__setattr__" = some (some (.builtin "object.__setattr__"))
  ga : findIn K (.ref C) "__getattribute__" = some (some (.builtin "BaseException.__getattribute__"))
  gg : findIn K (.ref C) "__getattr__" = some none
  noN : findIn K (.ref C) "value" = some none
  iC : findIn K (.ref C) "__init__" = some (some (.ref fI))
  tC : typeIn K (.ref fI) = some (.type "function")
  kC : keepIn K (.ref C) = true
  exC : subIn K (.ref C) (.type "BaseException") = some true
  tyC : typeIn K (.ref C) = some (.type "type")
  hdC : hasDictIn K C = true
  te : exmOne K (.ref C) (.ref C) = some true
  fn : ∃ (oc : Value) (od : Option Addr) (doc pm : Value) (an : Option Addr) (cdv ct : Value) (osl : Array (Option Value)) (p1 p2 q1 q2 q3 q4 : Pos),
    K.lookup fI = some ⟨oc, od, .func (fnOf "__init__" qn (iA p1 p2) (iB q1 q2 q3 q4) iS .none .none doc pm an cdv ct), osl⟩ ∧ codeIn K cdv qn = true
theorem one_size (v : Value) : [v].length ≤ sizeLine := by
  rw [sizeLine_eq]
  exact (by decide : 1 ≤ 16777216)
theorem kept_but {K : Frag} {h h' : Heap} {x : Addr} (X : K.In h) (hx : K.lookup x = none) (k : ∀ b o, b ≠ x → h.get? b = some o → h'.get? b = some o) : K.In h' := fun a o e =>
  k a o (fun z => by rw [z, hx] at e; cases e) (X a o e)
theorem ldC {M : Model} {s : Shared} {name : Str} {scope : Scope} {L a : Addr} {cd : Value} {m : Str → Option Value} {x : Str} {pos : Pos} {v : Value} {Q : Value → Shared → Prop} {A : Around} {E : Value → Shared → Prop} (hn : s.heap.Ns L m) (hv : m x = some v) (h : Q v s)
    (hk : scope.kind = .function := by rfl) (hl : (envOfC name scope L a cd).kindOf x = some .local := by rfl) (hd : (x == ("__debug__" : Str)) = false := by decide) :
    wpAny M A (eval (.Name x pos) (envOfC name scope L a cd)) Q E s := wpAny_Name (wpAny_loadName_local hk hl hn hv h) hd
/-- what __init__ leaves of a fresh exception at x -/
structure InitEnd (h h' : Heap) (x C dx t1 : Addr) (v : Value) : Prop where
  keep : ∀ b o, b ≠ x → h.get? b = some o → h'.get? b = some o
  obj : h'.get? x = some { cls := .ref C, dict := some dx, data := .fields #[.ref t1, .none, .none, .none, .bool false, .none] }
  dbig : h.objs.size ≤ dx
  dne : dx ≠ x
  ns : h'.Ns1 dx (fun y => if y = "value" then some v else none)
/-- a made Low -/
structure OwnMade (h h' : Heap) (e C d : Addr) (v : Value) : Prop where
  keep : ∀ b o, h.get? b = some o → h'.get? b = some o
  new : h.objs.size ≤ e
  obj : ∃ oe vs, h'.get? e = some oe ∧ oe.cls = .ref C ∧ oe.dict = some d ∧ oe.data = .fields vs ∧ vs[1]? = some .none
  dbig : h.objs.size ≤ d
  dne : d ≠ e
  ns : h'.Ns1 d (fun y => if y = "value" then some v else none)
section
variable {prog : Program} {w : World} {A : Around} {E : Value → Shared → Prop} {R : Result → Shared → Prop} {s : Shared} {K : Frag} {mg : Str → Option Value} {C fI : Addr} {cn qn : Str}
theorem low_init (T : LowTxt K mg cn qn C fI) {x t0 : Addr} {v : Value} (X : K.In s.heap) (hlim : s.heap.NoLimit) (hx : s.heap.get? x = some (excO C t0)) (hnx : K.lookup x = none) (hroom : A.depth < recursionLimit)
    (hq : ∀ h' tk dx, InitEnd s.heap h' x C dx t0 v → R (.ok (.ret .none)) { s with heap := h', toks := tk }) :
    codeAny (model prog w) A (.call (.ref fI) ⟨[.ref x, v], []⟩) R s := by
  obtain ⟨oc, od, doc, pm, an, cdv, ct, osl, p1, p2, q1, q2, q3, q4, ho, hcd⟩ := T.fn
  obtain ⟨nm, q, N, bs, bm, sn, sub, ab, col, dd, k0, k1, k2, k3, k5, hC, hbm⟩ := T.cls
  have hcl : clsIn K C = some { name := nm, bases := bs, mro := .ref C :: bm, ns := N, qualname := q, hasDict := true, slotNames := sn, subclasses := sub, abstract := ab, collection := col, hasDel := false } := by unfold clsIn; rw [hC] <;> rfl
  refine Att.call_fn (binds := [("self", .ref x), ("value", v)]) X hlim ho hcd hroom (BindsTo.of_eq (by first | rfl | with_unfolding_all rfl)) (by first | rfl | decide | with_unfolding_all rfl) (fun s₁ IC => ?_) rfl rfl rfl
  obtain ⟨h₁, tk₁, rfl⟩ := IC.toInCall.same
  have k : ∀ b o, s.heap.get? b = some o → h₁.get? b = some o := IC.toInCall.keep
  have hn := IC.toInCall.ns
  have hxL : s.heap.objs.size ≠ x := Nat.ne_of_gt (Heap.lt_size hx)
  have X₁ : K.In h₁ := X.keeps k
  have hx₁ := k _ _ hx
  -- self.by = by
  show wpAny _ _ (execs _ _) _ _ _
  refine wpAny_execs_cons (plainObj_wpAny_Assign_Attribute ?_)
  refine ldC (v := v) hn (by first | rfl | with_unfolding_all rfl | kernel_rfl) (ldC (v := .ref x) hn (by first | rfl | with_unfolding_all rfl | kernel_rfl) ?_)
  refine set_plain X₁ (ox := excO C t0) (od := none) ⟨hx₁, rfl, rfl, trivial⟩ T.sa ?_
  refine exc_osa X₁ hx₁ hcl (show refsVE (.ref C :: bm) = true from hbm) rfl T.noN (fun h₃ tk₃ dx k₃ dn dne hx₃ hn₃ => ?_)
  show wpAny _ _ (execs _ _) _ _ _
  have z : s.heap.objs.size < h₁.objs.size := hn.lt
  exact wpAny_execs_nil (hq h₃ tk₃ dx ⟨fun b o hb e => k₃ b o hb (k b o e), hx₃, Nat.le_of_lt (Nat.lt_of_lt_of_le z dn), dne, hn₃⟩)
theorem low_made (T : LowTxt K mg cn qn C fI) {v : Value} (X : K.In s.heap) (hlim : s.heap.NoLimit) (hroom : A.depth + 1 < recursionLimit)
    (hq : ∀ h' tk e d, OwnMade s.heap h' e C d v → R (.ok (.ret (.ref e))) { s with heap := h', toks := tk }) :
    codeAny (model prog w) A (.call (.ref C) ⟨[v], []⟩) R s := by
  obtain ⟨nm, q, N, bs, bm, sn, sub, ab, col, dd, k0, k1, k2, k3, k5, hC, hbm⟩ := T.cls
  obtain ⟨hp, g, dr, tk, os⟩ := s
  have k : ∀ b o, hp.get? b = some o → ((hp.push (kdv_tup [v])).push (excO C hp.objs.size)).get? b = some o := fun b o e => Heap.get?_push_of_some _ (Heap.get?_push_of_some _ e)
  have hget : ((hp.push (kdv_tup [v])).push (excO C hp.objs.size)).get? (hp.objs.size + 1) = some (excO C hp.objs.size) := by heap_get
  have hnx : K.lookup (hp.objs.size + 1) = none := by
    cases e : K.lookup (hp.objs.size + 1) with
    | none => rfl
    | some o =>
      have z : hp.get? (hp.objs.size + 1) = some o := X _ _ e
      exact absurd (Nat.lt_of_succ_lt (Heap.lt_size z)) (Nat.lt_irrefl _)
  refine call_own F.excBase_ValueError (fun X => refsVE_contains X bm hbm) (X _ _ hC) (looks_findIn X T.iC) (fun self => bind_fn X self T.tC) (one_size v) ?_
  refine low_init (s := ⟨(hp.push (kdv_tup [v])).push (excO C hp.objs.size), g, dr, tk, os⟩) T (X.keeps k) (hlim.keeps k) hget hnx ?_ fun h' tk' dx ⟨k', hx, dn, dne, hns⟩ => ?_
  · show A.depth + 1 < recursionLimit
    exact hroom
  · have old : ∀ b o, hp.get? b = some o → h'.get? b = some o := fun b o e => k' b o (Nat.ne_of_lt (Nat.lt_succ_of_lt (Heap.lt_size e))) (k b o e)
    have z : hp.objs.size + 1 + 1 ≤ dx := by
      first
        | (simpa only [Heap.size_push] using dn)
        | exact dn
        | (have q := dn; rw [Heap.size_push, Heap.size_push] at q; exact q)
    exact ⟨rfl, hq h' tk' (hp.objs.size + 1) dx ⟨old, Nat.le_succ _, ⟨_, _, hx, rfl, rfl, rfl, rfl⟩, Nat.le_trans (Nat.le_trans (Nat.le_succ _) (Nat.le_succ _)) z, dne, hns⟩⟩
end
end ExV
end PySem
namespace L2
open PySem PySem.Spec PyProof.Rows
theorem relO_low {v : V} {v' : Value} (r : RelV v v') (f : Str) : RelO (List.lookup f [(("value" : Str), v)]) (if f = "value" then some v' else none) := by
  by_cases hw : f = "value"
  · subst hw
    rw [if_pos rfl]
    have q : List.lookup ("value" : Str) [(("value" : Str), v)] = some v := by simp [List.lookup]
    rw [q]
    exact r
  · rw [if_neg hw]
    have qw : (f == ("value" : Str)) = false := by simpa using hw
    have q2 : List.lookup f [(("value" : Str), v)] = none := by simp [List.lookup, qw]
    rw [q2]
    trivial
section
variable {X : Cx} {C fI : Addr} {cn qn : Str}
/-- Low(e) -/
def tMkLow (C : Addr) (ta : TA) : St → Hp → XK → Prop := fun σ H Q => ta σ H fun vs H1 => ∃ v, vs = [v] ∧ ∀ d, H1 d = none → Q (.ref C) (some d) (upd H1 d (.xd [(("value" : Str), v)]))
theorem pmk_low {a : Expr} {ta : TA} {p pos : Pos} {k : Nat} (T : PySem.ExV.LowTxt X.K X.mg cn qn C fI) (hr : Room k X.A) (ha : PA X [a] ta) (hdb : (cn == ("__debug__" : Str)) = false := by decide) (hg : Gl X cn := by rfl)
    (he : starEach (a :: []) X.env = (false, eval a X.env) :: starEach [] X.env := by rfl) (hpl : (backTo pos (starEach [] X.env)).any (·.1) = false := by rfl) :
    PMk X (.Call (.Name cn p) [a] [] pos) (tMkLow C ta) := by
  intro pins s σ H Q I h
  refine wpAny_Call_Name_kw (ld_glob I hg T.gC ?_ hdb)
  refine PySem.W.callWith_K (h₀ := X.base) I.ok.mod.kin T.kC (thn (ha.run pos pins s σ H _ I h) fun us s1 hh => ?_) he hpl
  obtain ⟨vs, H1, I1, r1, v, ev, q1⟩ := hh
  subst ev
  refine ⟨I1.kIn, ?_⟩
  cases r1 with
  | cons rv rn =>
    rename_i v' us'
    cases rn
    show wpAny _ _ (call (.ref C) [v']) _ _ _
    have hlim := I1.nolimit
    obtain ⟨hp, g, dr, tk, os⟩ := s1
    refine wpAny_call (PySem.ExV.low_made T I1.kIn hlim (by have := hr.dp; omega) fun h' tk' e d M => ?_)
    show MkP X pins σ Q (.ref e) ⟨h', g, dr, tk', os⟩
    obtain ⟨oe, fv, hoe, hc, hd, hdat, h1⟩ := M.obj
    have hns := M.ns
    obtain ⟨G', g1, g2⟩ := restrict h' fun b => decide (b ≠ e)
    have gk : ∀ b, b ≠ e → G'.get? b = h'.get? b := fun b hb => g1 b (decide_eq_true hb)
    have ge : G'.get? e = none := g2 e (by simp)
    have old : ∀ b o, hp.get? b = some o → G'.get? b = some o := fun b o q => (gk b (Nat.ne_of_lt (Nat.lt_of_lt_of_le (Heap.lt_size q) M.new))).trans (M.keep b o q)
    have ob : ObjOk X.prog X.w (upd H1 d (.xd [(("value" : Str), v)])) G' d (.xd [(("value" : Str), v)]) :=
      ⟨_, hns.at (fun o q => (gk d M.dne).trans q), fun f => relO_low rv f⟩
    have J : Inv X pins σ (upd H1 d (.xd [(("value" : Str), v)])) ⟨G', g, dr, tk', os⟩ := I1.laid (t' := tk') old M.dbig ob
    refine ⟨e, oe, fv, ⟨G', g, dr, tk', os⟩, _, .ref C, some d, rfl, J, fun b o q => ?_, ge, hoe, ⟨hc, hd⟩, hdat, h1, ?_, rfl, I1.bare, raises_own T.exC T.tyC, q1 d (I1.hok.fresh M.dbig)⟩
    · by_cases hb : b = e
      · have q' : G'.get? b = some o := q
        rw [hb, ge] at q'; cases q'
      · exact (gk b hb).symm.trans q
    · rw [upd_ne (Ne.symm M.dne)]
      exact I1.hok.fresh M.new
/-- raise Low(e) -/
def tRaiseLow (C : Addr) (W : WX) (ta : TA) : TS := fun _ σ H => tMkLow C ta σ H fun cls d H' => W cls d σ H'
theorem ps_raiseLow {a : Expr} {ta : TA} {W : WX} {p pos pos2 : Pos} {k : Nat} (hc : X.calm = true) (T : PySem.ExV.LowTxt X.K X.mg cn qn C fI) (hr : Room k X.A) (tk : Takes X W) (ha : PA X [a] ta) (hdb : (cn == ("__debug__" : Str)) = false := by decide) (hg : Gl X cn := by rfl)
    (he : starEach (a :: []) X.env = (false, eval a X.env) :: starEach [] X.env := by rfl) (hpl : (backTo pos (starEach [] X.env)).any (·.1) = false := by rfl) :
    PS X (.Raise (some (.Call (.Name cn p) [a] [] pos)) none pos2) (tRaiseLow C W ta) := ps_raise hc tk (pmk_low T hr ha hdb hg he hpl)
/-- low.by, low the exception that the suite holds (at a; its class cls, its dict d) -/
def tByLow (C : Addr) (a : Addr) (cls : Value) (d : Option Addr) (te : TE) : TE := fun σ H Q => te σ H fun x H1 => x = .ref a ∧ cls = .ref C ∧ ∃ (dd : Addr) (v : V), d = some dd ∧ H1 dd = some (.xd [(("value" : Str), v)]) ∧ Q v H1
theorem pe_byLow {a : Addr} {oe : Obj} {cls : Value} {d : Option Addr} {pn : List (Addr × Obj)} {e : Expr} {te : TE} {pos : Pos} (T : PySem.ExV.LowTxt X.K X.mg cn qn C fI) (hz : Zc cls d oe) (hf : ∃ vs, oe.data = .fields vs) (he : PE (X.suite a ((a, oe) :: pn)) e te)
    (hb : attributeBase e "value" X.env (eval e X.env) = eval e X.env := by rfl) :
    PE (X.suite a ((a, oe) :: pn)) (.Attribute e "value" pos) (tByLow C a cls d te) := by
  refine ⟨fun pins s σ H Q I h => ?_⟩
  refine attr_of hb (thn (he.run pins s σ H _ I h) fun u s1 hh => ?_)
  obtain ⟨x, H1, I1, rx, ex, ec, dd, v, ed, ea, q⟩ := hh
  subst ex
  obtain rfl : u = Value.ref a := rx
  subst ec
  subst ed
  obtain ⟨ha, _⟩ := I1.pin (a, oe) (List.mem_append_left _ List.mem_cons_self)
  obtain ⟨vs, hd⟩ := hf
  have hx : ObjOk X.prog X.w H1 s1.heap dd (.xd [(("value" : Str), v)]) := I1.hok dd _ ea
  obtain ⟨mA, hns, hr⟩ := hx
  obtain ⟨od, ho, hl⟩ := lookIn_ns hns
  have l : List.lookup ("value" : Str) [(("value" : Str), v)] = some v := by simp [List.lookup]
  obtain ⟨u, hu, ru⟩ := RelO.some_of (v := v) (o := mA "value") (by rw [← l]; exact hr "value")
  have J : PySem.W.InstAt s1.heap a oe C (some od) := ⟨ha, hz.1, by unfold PySem.W.notCls; rw [hd] <;> rfl, by rw [hz.2]; exact ho⟩
  exact HandSPX.exc_get I1.kIn J T.ga T.gg T.exC (PySem.W.findObj_own T.hdC T.noN rfl (by rw [hl, hu])) (handed_of ru) ⟨v, H1, I1.tok _, ru, q⟩
end
end L2
set_option Elab.async false
set_option linter.all false
set_option maxRecDepth 100000
set_option maxHeartbeats 2000000
/-! try with several clauses «except C as n» of one name; what no clause takes does not come -/
namespace FR
open PySem PySem.Spec PyProof.Rows L2 TL
/-- behind a suite the clause's name is gone -/
def gone (i : Nat) (D : Ends) : Ends := { nx := fun σ H => D.nx (σ.set i none) H, rt := D.rt, bk := fun σ H => D.bk (σ.set i none) H, ct := fun σ H => D.ct (σ.set i none) H }
def wAsM (K : PySem.W.Frag) (i : Nat) (D : Ends) : List (Value × (Addr → Value → Option Addr → TS)) → WX
  | [] => fun _ _ _ _ => False
  | (c, ts) :: r => fun cls d σ H => ∃ b, PySem.W.exmOne K cls c = some b ∧ (b = true → ∀ a, H a = none → ts a cls d (gone i D) (σ.set i (some (.ref a))) H) ∧ (b = false → wAsM K i D r cls d σ H)
inductive ClausesOk (X : Cx) (n : Str) : List ExceptHandler → List (Value × (Addr → Value → Option Addr → TS)) → Prop
  | nil {hds : List ExceptHandler} : ClausesOk X n hds []
  | cons {x : Str} {c : Value} {ts : Addr → Value → Option Addr → TS} {st : Stmt} {sts : List Stmt} {p1 p2 : Pos} {hds : List ExceptHandler} {l : List (Value × (Addr → Value → Option Addr → TS))} (hc : Names X x c)
      (hsu : ∀ (a : Addr) (oe : Obj) (cls : Value) (d : Option Addr) (pn : List (Addr × Obj)), Zc cls d oe → (∃ vs, oe.data = .fields vs) → PSs (X.suite a ((a, oe) :: pn)) (st :: sts) (ts a cls d)) (r : ClausesOk X n hds l) :
      ClausesOk X n (.ExceptHandler (some (.Name x p1)) (some n) (st :: sts) p2 :: hds) ((c, ts) :: l)
section
variable {X : Cx} {n : Str} {i : Nat} {body : List Stmt} {hd0 : ExceptHandler} {hds : List ExceptHandler} {l : List (Value × (Addr → Value → Option Addr → TS))} {pos : Pos} {tb : WX → TS}
theorem ps_try_asM (hs : X.stack = X.env :: X.outer) (hf : X.env.frame = some X.env.locals) (hN : X.N.Nodup) (hi : X.N[i]? = some n) (hln : X.env.kindOf n = some .local)
    (hb : ∀ (W : WX) (pn : List (Addr × Obj)) (xe : Value → Shared → Prop), Takes (X.tr pn xe) W → PassesOwn (model X.prog X.w) X.A X.env xe → PSs (X.tr pn xe) body (tb W))
    (hh : ClausesOk X n (hd0 :: hds) l) : PS X (.Try body (hd0 :: hds) [] [] pos) (fun D σ H => tb (wAsM X.K i D l) D σ H) := by
  refine ⟨fun pins s σ H D I h => wpAny_Try_except ?_⟩
  have okX := I.ok
  have fr : X.A.frames = some (X.env :: X.outer) := by rw [okX.frames, hs]
  let land : Value → Shared → Prop := fun e s1 => wpAny (model X.prog X.w) X.A (noteFrame e X.env) (fun _ s2 => wpAny (model X.prog X.w) X.A (setFlight e none) (fun _ s3 => wpAny (model X.prog X.w) X.A (handleBy e X.env (hd0 :: hds)) (SP X pins D) X.xe s3) X.xe s2) X.xe s1
  have caught : ∀ (u : Value) (s1 : Shared), XE (X.tr (X.pn ++ pins) land) (wAsM X.K i D l) u s1 → land u s1 := by
    intro u s1 xx
    obtain ⟨a, B, sI, _, σ1, H1, cls, d, rfl, J0, nb, up, sky, na, os, ag, w⟩ := xx
    have J : Inv X pins σ1 H1 sI := J0.ofTry okX
    show wpAny (model X.prog X.w) X.A (noteFrame (.ref a) X.env) _ _ _
    refine Sky.land Zc.steady fr hf (by rw [← hs]; exact sky) fun g1 fl1 up1 => ?_
    have K1 : Inv X pins σ1 H1 { s1 with heap := g1 } := J.landed nb fl1.1 (up.trans up1) os ag
    obtain ⟨ob, fv, e1, z1, d1⟩ := fl1.there
    have out : a ∉ frs (X.env :: X.outer) := fun m => by
      obtain ⟨_, o2, e2, q⟩ := fl1.2.2.1.mem m
      cases e1.symm.trans e2
      exact q _ d1
    have n1 : a ≠ X.env.locals := fun z => out (List.mem_filterMap.mpr ⟨_, List.mem_cons_self, by rw [hf, z]⟩)
    have n2 : a ∉ X.fs := fun m => by
      obtain ⟨e2, m2, q⟩ := List.mem_filterMap.mp m
      exact out (List.mem_filterMap.mpr ⟨e2, List.mem_cons_of_mem _ m2, q⟩)
    have S1 := K1.suite e1 d1 na n1 n2
    have each : ∀ {cs : List ExceptHandler} {ws : List (Value × (Addr → Value → Option Addr → TS))}, ClausesOk X n cs ws → wAsM X.K i D ws cls d σ1 H1 → wpAny (model X.prog X.w) X.A (handleBy (.ref a) X.env cs) (SP X pins D) X.xe { s1 with heap := g1 } := by
      intro cs ws ck
      induction ck with
      | nil => exact fun z => z.elim
      | @cons x c ts st sts p1 p2 more wmore hc hsu _ ih =>
        rintro ⟨b, hm, yes, no⟩
        refine wpAny_handleBy_cons (codeAny_handlers_test ?_) (fun q => by cases q)
        have ty : PySem.W.Looks (model X.prog X.w) g1 (typeOf (.ref a)) cls := fun _ _ _ _ k q => wpAny_typeOf_ref (k _ _ e1) (by rw [z1.1]; exact q)
        have one := PySem.W.exm_one (M := model X.prog X.w) K1.kIn ty hm
        have named : ∀ {Q E : Value → Shared → Prop}, Q c { s1 with heap := g1 } → wpAny (model X.prog X.w) (X.A.mark (some (.ref a))) (eval (.Name x p1) X.env) Q E { s1 with heap := g1 } := by
          intro Q E q
          obtain ⟨y1, y2, y3 | ⟨y3, y4, y5⟩⟩ := hc
          · exact ld_glob (X := X.suite a ((a, ob) :: (X.pn ++ pins))) S1 y1 y3 q y2
          · exact ld_blt (X := X.suite a ((a, ob) :: (X.pn ++ pins))) S1 y1 y3 y4 q y5 y2
        refine named (one.here ?_)
        cases b with
        | false => exact ih (no rfl)
        | true =>
          refine codeAny_handlers_suite_as (HandSPX.lands_againZ fl1 fun g2 fl2 up2 => ?_)
          obtain ⟨oc, fw, e2, z2, d2⟩ := fl2.there
          have K2 : Inv X pins σ1 H1 { s1 with heap := g2 } := J.landed nb fl2.1 ((up.trans up1).trans up2) os ag
          have S2 := K2.suite e2 d2 na n1 n2
          refine store_ok (X := X.suite a ((a, oc) :: (X.pn ++ pins))) (v := .ref a) S2 hN hi (.inl hln) rfl (fun s5 S5 => ?_) (.inr hln)
          refine wpAny_mono ((hsu a oc cls d (X.pn ++ pins) z2 ⟨_, d2⟩).run [] s5 _ H1 _ S5 (yes rfl a na)) (fun f s6 hz => ?_) (fun _ _ z => z.elim)
          have ends : ∀ {σ6 : L2.St} {H6 : Hp} {Q : Shared → Prop}, Inv (X.suite a ((a, oc) :: (X.pn ++ pins))) [] σ6 H6 s6 → (∀ s7, Inv X pins (σ6.set i none) H6 s7 → Q s7) → wpAny (model X.prog X.w) X.A (do bindName X.env n .none; unbindBehindTheSuite X.env n p2) (fun _ s7 => Q s7) X.xe s6 :=
            fun S6 hq => gone_ok (S6.unsuite okX) hN hi hln hq
          match f, hz with
          | .next, ⟨_, _, S6, q6⟩ => exact ends S6 fun _ J7 => ⟨_, _, J7, q6⟩
          | .brk, ⟨_, _, S6, q6⟩ => exact ends S6 fun _ J7 => ⟨_, _, J7, q6⟩
          | .cont, ⟨_, _, S6, q6⟩ => exact ends S6 fun _ J7 => ⟨_, _, J7, q6⟩
          | .ret _, ⟨_, _, _, S6, r6, q6⟩ => exact ends S6 fun _ J7 => ⟨_, _, _, J7, r6, q6⟩
    exact each hh w
  refine wpAny_mono ((hb _ _ land caught PassesOwn.looking).run [] s σ H D (I.toTry _) h) (fun f s1 hz => ?_) (fun _ _ z => z)
  match f, hz with
  | .next, ⟨_, _, J, q⟩ => exact wpAny_execs_nil ⟨_, _, J.ofTry okX, q⟩
  | .brk, ⟨_, _, J, q⟩ => exact ⟨_, _, J.ofTry okX, q⟩
  | .cont, ⟨_, _, J, q⟩ => exact ⟨_, _, J.ofTry okX, q⟩
  | .ret _, ⟨_, _, _, J, r, q⟩ => exact ⟨_, _, _, J.ofTry okX, r, q⟩
end
end FR
set_option Elab.async false
set_option linter.all false
set_option maxRecDepth 100000
/-! isinstance of the exception that a suite holds, one with fields -/
namespace FR
open PySem PySem.Spec PyProof.Rows L2 TL
/-- the exception that the suite holds is one of the class D, with its own dict -/
def HeldE (K : PySem.W.Frag) (cls : Value) (d : Option Addr) (H : Hp) (D : Addr) : Prop := cls = .ref D ∧ ExcC K D ∧ ∃ (dd : Addr) (fs : List (Str × V)), d = some dd ∧ H dd = some (.xd fs)
section
variable {X : Cx} {a : Addr} {oe : Obj} {pn : List (Addr × Obj)} {cls : Value} {d : Option Addr} {pins : List (Addr × Obj)} {σ : L2.St} {H : Hp} {s : Shared} {D : Addr}
theorem kit_held (hz : Zc cls d oe) (hf : ∃ vs, oe.data = .fields vs) (I : Inv (X.suite a ((a, oe) :: pn)) pins σ H s) (h : HeldE X.K cls d H D) : ∃ od, PySem.W.KitX X.K (.ref a) (.ref D) (fun g => PySem.W.InstAt g a oe D (some od)) ∧ PySem.W.InstAt s.heap a oe D (some od) := by
  obtain ⟨rfl, C, dd, fs, rfl, hx⟩ := h
  obtain ⟨hget, _⟩ := I.pin (a, oe) (List.mem_append_left _ List.mem_cons_self)
  obtain ⟨vs, hv⟩ := hf
  obtain ⟨mA, hns, _⟩ := (show ObjOk X.prog X.w H s.heap dd (.xd fs) from I.hok dd _ hx)
  obtain ⟨od, ho, _⟩ := lookIn_ns hns
  obtain ⟨cd, hc, _⟩ := PySem.W.any_some C.hd
  refine ⟨od, PySem.W.kitx_exc (by rw [hc]; rfl) C.hg C.hk C.hs C.ha C.hn C.ht C.hm, hget, hz.1, ?_, ?_⟩
  · unfold PySem.W.notCls
    rw [hv] <;> rfl
  · rw [hz.2]
    exact ho
def rIsH (K : PySem.W.Frag) (a : Addr) (cls : Value) (d : Option Addr) : List V → Hp → VK → Prop := fun xs H Q => ∃ (D : Addr) (c : V) (cv : Value) (b : Bool), HeldE K cls d H D ∧ xs = [.ref a, c] ∧ ClsV c cv ∧ PySem.W.kitOne K (.ref D) cv = some b ∧ Q (.bl b) H
theorem call_isH (hz : Zc cls d oe) (hf : ∃ vs, oe.data = .fields vs) : CallR (X.suite a ((a, oe) :: pn)) (.builtin "isinstance") (rIsH X.K a cls d) := by
  intro pins s σ H xs us Q I r h
  obtain ⟨D, c, cv, b, hh, rfl, hc, e, q⟩ := h
  cases r with
  | cons rx rr =>
    cases rr with
    | cons rt rr =>
      cases rr
      cases (show _ = Value.ref a from rx)
      cases hc.eq rt
      obtain ⟨od, Z, J⟩ := kit_held hz hf I hh
      exact PySem.W.kia_one Z I.kIn J e (fun z => nomatch z) fun tk => ⟨.bl b, H, I.tok tk, rfl, q⟩
def rIsHT (K : PySem.W.Frag) (a : Addr) (cls : Value) (d : Option Addr) : List V → Hp → VK → Prop := fun xs H Q => ∃ (D tp : Addr) (cs : List V) (cvs : List Value) (b : Bool), HeldE K cls d H D ∧ xs = [.ref a, .ref tp] ∧ H tp = some (.tup cs) ∧ Paired ClsV cs cvs ∧ PySem.W.kitAny K (.ref D) cvs = some b ∧ Q (.bl b) H
theorem call_isHT (hz : Zc cls d oe) (hf : ∃ vs, oe.data = .fields vs) : CallR (X.suite a ((a, oe) :: pn)) (.builtin "isinstance") (rIsHT X.K a cls d) := by
  intro pins s σ H xs us Q I r h
  obtain ⟨D, tp, cs, cvs, b, hh, rfl, ht, hc, e, q⟩ := h
  cases r with
  | cons rx rr =>
    cases rr with
    | cons rt rr =>
      cases rr
      cases (show _ = Value.ref a from rx)
      cases (show _ = Value.ref tp from rt)
      obtain ⟨od, Z, J⟩ := kit_held hz hf I hh
      obtain ⟨_, its, rv, ⟨oc, od2, dt, sl⟩, h1, h2, n, h3⟩ := (show ObjOk X.prog X.w H s.heap tp (.tup cs) from I.hok tp _ ht)
      have e3 := ClsV.all hc rv
      subst e3
      simp only at h2 h3
      subst h2 h3
      exact PySem.W.kia_tup Z I.kIn J h1 e (fun z => nomatch z) fun tk => ⟨.bl b, H, I.tok tk, rfl, q⟩
end
end FR
set_option Elab.async false
set_option linter.all false
set_option maxRecDepth 100000
/-! a text beside a dict; «x not in texts» for anything -/
namespace FR
open PySem PySem.Spec PyProof.Rows L2 TL PySem.SeqAt
theorem str_eq_dict (b : Str) (u : Tok) (l : Addr) (c : Value) (es : Array DictEntry) (n : Nat) (dd : Option Addr) (sl : Array (Option Value)) :
    Meets (Builtin.«str.__eq__» ⟨[.str b u, .ref l], []⟩) (fun _ R s => s.heap.get? l = some { cls := c, dict := dd, data := .dict es n, slots := sl } ∧ R (.ok (.ret .notImplemented)) s) :=
  .of_wp fun prog w A R s h => by
    obtain ⟨hp, g, d, tk, os⟩ := s
    obtain ⟨hl, h⟩ := h
    wp_walk using wpAny_loadPart' hl, wpAny_load hl
    exact ⟨_, rfl, h⟩
theorem dict_eq_str (b : Str) (u : Tok) (l : Addr) (c : Value) (es : Array DictEntry) (n : Nat) (dd : Option Addr) (sl : Array (Option Value)) :
    Meets (Builtin.«dict.__eq__» ⟨[.ref l, .str b u], []⟩) (fun _ R s => s.heap.get? l = some { cls := c, dict := dd, data := .dict es n, slots := sl } ∧ R (.ok (.ret .notImplemented)) s) :=
  .of_wp fun prog w A R s h => by
    obtain ⟨hp, g, d, tk, os⟩ := s
    obtain ⟨hl, h⟩ := h
    have f1 := F.sub_str_dict
    wp_walk using wpAny_loadPart' hl, wpAny_load hl
    exact ⟨_, rfl, h⟩
theorem eqAt_str_dict {A : Around} {s : Shared} {l : Addr} {o : Obj} {es : Array DictEntry} {n : Nat} (b : Str) (u : Tok) (ho : s.heap.get? l = some o) (hx : o.cls = .type "dict") (hd : o.data = .dict es n) (hu : A.units < cLine) : EqAt A s (.str b u) (.ref l) false := fun prog w E Q h => by
  unfold eqBool
  refine wpAny_holding (wpAny_ite_split (fun hab => absurd (eq_of_beq hab) nofun) (fun _ => wpAny_bind ?_))
  obtain ⟨cls, dd, data, sl⟩ := o
  simp only at hx hd
  subst hx hd
  exact rc_eq_decline_or (k := false) (typeIs_str s b u) ⟨_, ho, rfl⟩ (by decide) F.sub_dict_str F.slot_str_eq F.slot_dict_eq_refl
    (fun _ hq => call_meets F.slot_str_eq (typeIs_str s b u) F.entry_str_eq (F.args_str_eq_2 _ _) (str_eq_dict b u l (.type "dict") es n dd sl) ⟨ho, hq⟩)
    (fun _ hq => call_meets F.slot_dict_eq_refl ⟨_, ho, rfl⟩ F.entry_dict_eq (F.args_dict_eq_2 _ _) (dict_eq_str b u l _ es n dd sl) ⟨ho, hq⟩)
    (fun _ hq => wpAny_of_eq (rfl : isSame (.str b u) (.ref l) = pure false) hq) (.inr hu) (wpAny_truthy_bool h)
section
variable {X : Cx}
theorem vals_strs : ∀ {ws : List Str} {us : List Value}, Vals (ws.map V.str) us → ∀ u ∈ us, ∃ x t, u = Value.str x t
  | [], _, h, u, hu => by
    cases h
    simp at hu
  | w :: r, _, .cons a b, u, hu => by
    rcases List.mem_cons.mp hu with rfl | hu
    · obtain ⟨t, rfl⟩ := a
      exact ⟨_, t, rfl⟩
    · exact vals_strs b u hu
/-- what «v not in the texts ws» gives -/
def NInW (K : PySem.W.Frag) (H : Hp) (v : V) (ws : List Str) (r : Bool) : Prop := (flatV v = true ∧ (!inV v (ws.map V.str)) = r) ∨ (∃ d, Dp K H v d ∧ SeqAt.shaped d = true ∧ SeqAt.shaped (.list (ws.map .str)) = true ∧ (!(ws.map PyData.str).any fun z => PyData.eqv z d) = r) ∨
  ∃ (a : Addr) (kvs : List (Key × V)), v = .ref a ∧ H a = some (.dK kvs) ∧ true = r
def rNotInW (K : PySem.W.Frag) : R2 := fun x y H Q => ∃ (p : Addr) (ws : List Str) (r : Bool), y = .ref p ∧ SqL K H p (ws.map V.str) ∧ NInW K H x ws r ∧ Q (.bl r) H
theorem op_notInW (hu : X.A.units + 65 < cLine) : OpR X (compareOp .NotIn) (rNotInW X.K) := by
  intro pins s σ H x y v u Q I rx ry h
  obtain ⟨p, ws, r, rfl, hp, ⟨hf, rfl⟩ | ⟨d, hd, s1, s2, rfl⟩ | ⟨a, kvs, rfl, ha, rfl⟩, q⟩ := h
  · exact op_notIn_seq pins s σ H x _ v u Q I rx ry ⟨p, _, rfl, .inl hp, hf, flat_strs ws, q⟩
  · exact op_notInD hu pins s σ H x _ v u Q I rx ry ⟨d, _, hd, .lst hp (dpAll_strs ws), s1, s2, q⟩
  · cases (show v = Value.ref a from rx)
    cases (show u = Value.ref p from ry)
    obtain ⟨_, _, vs, kv, o, es, ep, e, hx, hd, _, _, _⟩ := (show ObjOk X.prog X.w H s.heap a (.dK _) from I.hok _ _ ha)
    obtain ⟨its, rv, hl, _⟩ := I.list hp
    refine notIn_listAt (fun _ => false) hl.isList (fun z hz => ?_) ⟨.bl true, H, I, ?_, q⟩
    · obtain ⟨x, t, rfl⟩ := vals_strs rv z (by simpa using hz)
      exact eqAt_str_dict x t e hx.1 hd (by show X.A.units + 1 < cLine; omega)
    · show Value.bool _ = Value.bool true
      simp
theorem op_notInWK {X : Cx} {K : PySem.W.Frag} (h : X.K = K) (hu : X.A.units + 65 < cLine) : OpR X (compareOp .NotIn) (rNotInW K) := h ▸ op_notInW hu
end
end FR
set_option Elab.async false
set_option linter.all false
set_option maxRecDepth 100000
/-! raising defs with a star parameter, called -/
namespace FR
open PySem PySem.Spec PyProof.Rows L2 TL
theorem okStarX {P : Program} {w : World} {K : PySem.W.Frag} {mg : Str → Option Value} {base : Heap} {x qual pv : Str} {st : Stmt} {f : Addr} {fd : FuncData} {N ps : List Str} {k : Nat} {sp : Sp} (F : L2.Fun K x qual st f fd) (S : FnScope N (ps ++ [pv]) (defScope st))
    (hb : ∀ (kV doc pm : Value) (an : Option Addr) (cdv ct : Value) (us rest : List Value), us.length = ps.length → bindArgs (PySem.W.fnOf x qual (defArgs st) (defBody st) (defScope st) .none kV doc pm an cdv ct) ⟨us ++ rest, []⟩ = (newTuple rest >>= fun t => pure (ps.zip us ++ [(pv, t)])))
    (hbody : ∀ (cdv : Value) (A : Around) (outer : List Env) (s : Shared) (H : Hp) (vs : List V) (Q : VK) (E : XK), Room k (A.deeper (envOfC qual (defScope st) s.heap.objs.size f cdv)) → sp vs H Q E →
      ∃ t, PSs (cxOf (L2.CX P w) P w K mg base N qual (defScope st) f cdv A outer s H E) (defBody st) t ∧ t { nx := fun _ H' => Q .non H', rt := Q } (start N vs) H) :
    FnR P w K mg base (L2.CX P w) (k + 1) f (fun vs H Q E => ∃ ws rest, vs = ws ++ rest ∧ ws.length = ps.length ∧ rest.length ≤ sizeLine ∧ ∀ p, H p = Option.none → sp (ws ++ [V.ref p]) (upd H p (.tup rest)) Q E) := by
  obtain ⟨oc, od, kV, doc, pm, an, cdv, ct, osl, rfl, lk, hcd⟩ := F.ex
  exact StX.fn_star lk hcd S StX.cxUp (hb kV doc pm an cdv ct) fun A outer s H vs Q E hr hsp => hbody cdv A outer s H vs Q E hr hsp
section
variable {X : Cx} {CX : CXT} {k : Nat} {f : Addr} {sp : Sp} {E : L2.St → XK} {x : Str} {e : Expr} {es : List Expr} {t : TA} {p pos : Pos}
theorem pe_callRX (F : FnR X.prog X.w X.K X.mg X.base CX k f sp) (hr : Room k X.A) (hk : PySem.W.keepIn X.K (.ref f) = true) (hg : Gl X x) (hm : X.mg x = some (.ref f)) (hx : ∀ σ, PassesAt CX X σ (E σ)) (ha : PA X (e :: es) t) (hd : (x == ("__debug__" : Str)) = false := by decide)
    (he : starEach (e :: es) X.env = (false, eval e X.env) :: starEach es X.env := by rfl) (hpl : (backTo pos (starEach es X.env)).any (·.1) = false := by rfl) :
    PE X (.Call (.Name x p) (e :: es) [] pos) (fun σ H Q => t σ H fun vs H1 => sp vs H1 Q (E σ)) := ⟨fun pins s σ H Q I h => by
  refine wpAny_Call_Name_kw (ld_glob I hg hm (PySem.W.callWith_K (h₀ := X.base) I.ok.mod.kin hk (thn (ha.run pos pins s σ H _ I h) fun us s1 hz => ?_) he hpl) hd)
  obtain ⟨vs, H1, I1, r, q⟩ := hz
  refine ⟨I1.kIn, wpAny_call (codeAny_mono (F X.A X.stack s1 H1 us vs Q (E σ) hr I1.env0 r q) fun rr s' hq => ?_)⟩
  match rr, hq with
  | .error ee, hq => exact hx σ pins H1 s1 ee s' I1 hq
  | .ok (.ret u), hq => exact I1.after hq
  | .ok .next, hq => exact hq.elim
  | .ok .brk, hq => exact hq.elim
  | .ok .cont, hq => exact hq.elim⟩
end
end FR
set_option Elab.async false
set_option linter.all false
set_option maxRecDepth 100000
/-! how long a shown list is; facts that hang on some addresses alone -/
namespace FR
open PySem PySem.Spec PyProof.Rows L2 TL
theorem len_sep : (Str.ofString ", ").length = 2 := by decide +kernel
theorem len_open : (Str.ofString "[").length = 1 := by decide +kernel
theorem len_close : (Str.ofString "]").length = 1 := by decide +kernel
theorem len_none : (Str.ofString "").length = 0 := by decide +kernel
theorem shown3 (a b c : PyData) : (PyData.list [a, b, c]).shown.length = a.shown.length + b.shown.length + c.shown.length + 6 := by
  show (listText [a.shown, b.shown, c.shown]).length = _
  unfold listText
  rw [len_app, len_close]
  show ((((((Str.ofString "[" ++ Str.ofString "") ++ a.shown) ++ Str.ofString ", ") ++ b.shown) ++ Str.ofString ", ") ++ c.shown).length + 1 = _
  rw [len_app, len_app, len_app, len_app, len_app, len_app, len_open, len_none, len_sep]
  omega
theorem shown2 (a b : PyData) : (PyData.list [a, b]).shown.length = a.shown.length + b.shown.length + 4 := by
  show (listText [a.shown, b.shown]).length = _
  unfold listText
  rw [len_app, len_close]
  show ((((Str.ofString "[" ++ Str.ofString "") ++ a.shown) ++ Str.ofString ", ") ++ b.shown).length + 1 = _
  rw [len_app, len_app, len_app, len_app, len_open, len_none, len_sep]
  omega
theorem Keep.trans0 {H H1 : Hp} {D : Addr} {o : HO} (k : Keep [] H H1) (hD : H D = none) : Keep [] H (upd H1 D o) := fun b u e hb => by
  rw [upd_ne (ne_of_none e hD)]
  exact k b u e hb
def Held (S : List Addr) (H : Hp) (F : Hp → Prop) : Prop := (∀ a ∈ S, H a ≠ none) ∧ ∀ H', (∀ a ∈ S, H' a = H a) → F H'
section
variable {S T M : List Addr} {H H' : Hp} {F G : Hp → Prop}
theorem Held.at (h : Held S H F) : F H := h.2 H fun _ _ => rfl
theorem Held.mono (h : Held S H F) (k : Keep M H H') (d : ∀ a ∈ S, a ∉ M) : Held S H' F := by
  have e : ∀ a ∈ S, H' a = H a := fun a ha => by
    cases e : H a with
    | none => exact absurd e (h.1 a ha)
    | some o => exact k a o e (d a ha)
  exact ⟨fun a ha => by rw [e a ha]; exact h.1 a ha, fun H2 e2 => h.2 H2 fun a ha => (e2 a ha).trans (e a ha)⟩
theorem Held.mono0 (h : Held S H F) (k : Keep [] H H') : Held S H' F := h.mono k (by simp)
theorem Held.and (h : Held S H F) (g : Held T H G) : Held (S ++ T) H (fun H => F H ∧ G H) :=
  ⟨fun a ha => (List.mem_append.mp ha).elim (h.1 a) (g.1 a), fun H2 e => ⟨h.2 H2 fun a ha => e a (List.mem_append_left _ ha), g.2 H2 fun a ha => e a (List.mem_append_right _ ha)⟩⟩
theorem Held.imp (h : Held S H F) (i : ∀ H, F H → G H) : Held S H G := ⟨h.1, fun H2 e => i _ (h.2 H2 e)⟩
theorem Held.none (h : ∀ H, F H) : Held [] H F := ⟨by simp, fun H2 _ => h H2⟩
theorem Held.one {a : Addr} {o : HO} (h : H a = some o) (i : ∀ H2 : Hp, H2 a = some o → F H2) : Held [a] H F := ⟨fun x hx => by rw [List.mem_singleton.mp hx, h]; simp, fun H2 e => i H2 ((e a (by simp)).trans h)⟩
theorem Held.fresh (h : Held S H F) {p : Addr} (np : H p = Option.none) : p ∉ S := fun hp => h.1 p hp np
end
theorem Dq.mono {H H' : Hp} (k : Keep [] H H') {v : V} {d : PyData} (h : Dq H v d) : Dq H' v d := by
  refine Dq.rec (motive_1 := fun v d _ => Dq H' v d) (motive_2 := fun vs ds _ => DqAll H' vs ds) (motive_3 := fun vs ds _ => DqKv H' vs ds) .non .bl .int .str ?_ ?_ ?_ .nil (fun _ _ a b => .cons a b) .nil (fun _ _ a b => .cons a b) h
  · intro a xs ds hx hb _ ih
    exact .lst (k _ _ hx (by simp)) hb ih
  · intro a xs ds hx _ ih
    exact .tup (k _ _ hx (by simp)) ih
  · intro a kvs ds hx _ ih
    exact .dct (k _ _ hx (by simp)) ih
theorem u65 {k : Nat} {A : Around} (r : Room k A) : A.units + 65 < cLine := by have := r.un; omega
theorem okG0 {P : Program} {w : World} {K : PySem.W.Frag} {mg : Str → Option Value} {base : Heap} {k : Nat} {f : Addr} {sp : Sp} {x qual : Str} {st : Stmt} {fd : FuncData} {N ps : List Str} (F : L2.Fun K x qual st f fd) (S : FnScope N ps (defScope st)) (B : Binds K fd ps []) (hlen : ∀ vs H Q E, sp vs H Q E → vs.length = ps.length)
    (hbody : ∀ (cdv : Value) (A : Around) (outer : List Env) (s : Shared) (H : Hp) (vs : List V) (Q : VK) (E : XK), A.guards = some [] → Room k (A.deeper (envOfC qual (defScope st) s.heap.objs.size f cdv)) → sp vs H Q E →
      ∃ t, PSs (cxOf CX0 P w K mg base N qual (defScope st) f cdv A outer s H E).nox (defBody st) t ∧ t { nx := fun _ H' => Q .non H', rt := Q } (start N vs) H) : FnG P w K mg base CX0 (k + 1) f sp :=
  okG F S B hlen fun cdv A outer s H vs Q E hg hr hs => (hbody cdv A outer s H vs Q E hg hr hs).elim fun t h => ⟨t, h.1.nox, h.2⟩
end FR
set_option Elab.async false
set_option linter.all false
set_option maxRecDepth 100000
/-! what `except` and isinstance say of two classes of the text -/
namespace FR
open PySem PySem.Spec PyProof.Rows L2
/-- an error of the class at S is what «except T» names, or not -/
theorem exm_of {K : PySem.W.Frag} {t S : Addr} {b : Bool} (h1 : PySem.W.subIn K (.ref S) (.type "BaseException") = some true) (h2 : PySem.W.isClsIn K S = true) (h3 : PySem.W.typeIn K (.ref S) = some (.type "type")) (h4 : PySem.W.subIn K (.ref t) (.ref S) = some b) :
    PySem.W.exmOne K (.ref t) (.ref S) = some b := by
  have e1 : (PySem.W.subIn K (.ref S) (.type "BaseException") == some true) = true := by rw [h1] <;> rfl
  have e2 : ((PySem.W.clsIn K S).isSome && PySem.W.typeIn K (.ref S) == some (.type "type")) = true := by
    rw [show (PySem.W.clsIn K S).isSome = true from h2, h3] <;> rfl
  unfold PySem.W.exmOne
  rw [if_pos e1]
  show (if ((PySem.W.clsIn K S).isSome && PySem.W.typeIn K (.ref S) == some (.type "type")) = true then PySem.W.subIn K (.ref t) (.ref S) else none) = some b
  rw [if_pos e2]
  exact h4
theorem kit_of {K : PySem.W.Frag} {t S : Addr} {b : Bool} (hs : PySem.W.subIn K (.ref t) (.ref t) = some true) (h2 : PySem.W.isClsIn K S = true) (h3 : PySem.W.typeIn K (.ref S) = some (.type "type")) (h4 : PySem.W.subIn K (.ref t) (.ref S) = some b) :
    PySem.W.kitOne K (.ref t) (.ref S) = some b := by
  have e2 : ((PySem.W.clsIn K S).isSome && PySem.W.typeIn K (.ref S) == some (.type "type")) = true := by
    rw [show (PySem.W.clsIn K S).isSome = true from h2, h3] <;> rfl
  unfold PySem.W.kitOne
  by_cases e : ((Value.ref t : Value) == .ref S) = true
  · rw [if_pos e]
    have e' : t = S := by simpa using e
    subst e'
    exact hs.symm.trans h4
  · rw [if_neg e]
    show (if ((PySem.W.clsIn K S).isSome && PySem.W.typeIn K (.ref S) == some (.type "type")) = true then PySem.W.subIn K (.ref t) (.ref S) else none) = some b
    rw [if_pos e2]
    exact h4

end FR
set_option Elab.async false
set_option linter.all false
set_option maxRecDepth 100000
/-! x = e.replace(old, new) in a def: it wants that something has been made before, as it has where a def runs -/
namespace FR
open PySem PySem.Spec PyProof.Rows L2 TL
theorem okT {P : Program} {w : World} {K : PySem.W.Frag} {mg : Str → Option Value} {base : Heap} {x qual : Str} {st : Stmt} {f : Addr} {fd : FuncData} {N ps : List Str} {k : Nat} {sp : Sp}
    (F : Fun K x qual st f fd) (S : FnScope N ps (defScope st)) (nc : ∀ y ∈ (defScope st).names, y.2 ≠ NameKind.cell) (hp : 1 ≤ ps.length) (len : ∀ vs H Q E, sp vs H Q E → vs.length = ps.length)
    (body : ∀ (cdv : Value) (A : Around) (outer : List Env) (s : Shared) (H : Hp) (vs : List V) (Q : VK) (E : XK), Room k (A.deeper (envOfC qual (defScope st) s.heap.objs.size f cdv)) → sp vs H Q E →
      ∃ t, PSsT (cxOf CX0 P w K mg base N qual (defScope st) f cdv A outer s H E) (defBody st) t ∧ t { nx := fun _ H' => Q .non H', rt := Q } (start N vs) H) :
    FnOk P w K mg base CX0 (k + 1) f fd ps sp := by
  obtain ⟨oc, od, kV, doc, pm, an, cdv, ct, osl, rfl, hl, hc⟩ := F.ex
  exact fn_ofT hl hc S nc hp len fun A outer s H vs Q E hr h => body cdv A outer s H vs Q E hr h
theorem pst_asg {X : Cx} {pos : Pos} {tg e : Expr} {te : TE} {g : TG} (he : PET X e te) (hg : PG X tg g) (h1 : swapsWithSole [tg] e pos.line X.env = pure false := by rfl)
    (h2 : swappedStores [tg] e X.env = pure none := by rfl) (h3 : (assignEach [tg] X.env).map (fun x => x.2) = [assign tg X.env] := by rfl) : PST X (.Assign [tg] e pos) (tAsg te g) := by
  intro pins s σ H D ht I h
  refine wpAny_Assign_stores (wpAny_mono (he pins s σ H _ ht I h) (fun v s1 z => ?_) fun _ _ z => z) h1 h2
  obtain ⟨x, H1, I1, r1, q⟩ := z
  rw [h3]
  unfold assignAll
  exact wpAny_mono (hg.run pins s1 σ H1 x v _ I1 r1 q) (fun u s2 z => z) fun _ _ z => z
/-- without its slashes -/
def noSl (s : Str) : Str := Txt.replace s "/" ""
theorem repl_filter (c : Nat) : ∀ l : List Nat, PySem.StrLaws.replL [c] [] l = l.filter (fun d => d != c)
  | [] => PySem.StrLaws.replL_nil
  | d :: r => by
    by_cases e : d = c
    · subst e
      rw [PySem.StrLaws.replL_hit (by simp) (by simp)]
      simpa using repl_filter d r
    · rw [PySem.StrLaws.replL_miss (by simp [e]), repl_filter c r]
      simp [e]
theorem tl_noSl (s : Str) : tl (noSl s) = (tl s).filter (fun d => d != 47) := by
  refine (PySem.StrLaws.replace_list (x := s) (y := "/") (z := "") (by decide +kernel)).trans ?_
  exact repl_filter 47 _
theorem noSl_asc {s : Str} (a : Asc s) : Asc (noSl s) := fun c hc => a c (by rw [tl_noSl] at hc; exact (List.mem_filter.mp hc).1)
end FR
set_option Elab.async false
set_option linter.all false
set_option maxRecDepth 100000
/-! the parts of a path, and what is left of it without its slashes -/
namespace FR
open PySem PySem.Spec PyProof.Rows L2 TL
theorem spl_all (c : Nat) : ∀ (l acc : List Nat), (spl [c] 0 acc l).flatten = acc ++ l.filter (fun d => d != c)
  | [], acc => by rw [spl_nil]; simp
  | x :: r, acc => by
    by_cases e : pre [c] (x :: r) = true
    · rw [spl_hit e]
      have : x = c := by rw [pre_one] at e; simpa using e
      subst this
      have := spl_all x r []
      simp only [List.flatten_cons]
      show acc ++ (spl [x] 0 [] r).flatten = _
      rw [this]
      simp
    · rw [spl_miss (by simpa using e), spl_all c r (acc ++ [x])]
      have : x ≠ c := by rw [pre_one] at e; simpa using e
      simp [this]
theorem path_parts {s : Str} (h : Txt.startswith s ⟨#[47]⟩ = true) : (((Txt.split s ⟨#[47]⟩).drop 1).map tl).flatten = tl (noSl s) ∧ (Txt.split s ⟨#[47]⟩).drop 1 ≠ [] := by
  rw [starts_one] at h
  have e1 : ((Txt.split s ⟨#[47]⟩).drop 1).map tl = (spl [47] 0 [] (tl s)).drop 1 := by rw [List.map_drop, split_tl _ (by decide)]
  cases e : tl s with
  | nil => rw [e] at h; cases h
  | cons c r =>
    rw [e] at h
    have : c = 47 := by simpa using h
    subst this
    have e2 : (spl [47] 0 [] (47 :: r)).drop 1 = spl [47] 0 [] r := by
      rw [spl_hit (by rw [pre_one]; rfl)]
      rfl
    rw [e, e2] at e1
    constructor
    · rw [e1, spl_all, tl_noSl, e]
      simp
    · intro h0
      rw [h0] at e1
      have : ∀ (l acc : List Nat), spl [47] 0 acc l ≠ [] := by
        intro l
        induction l with
        | nil => intro acc; rw [spl_nil]; simp
        | cons x r ih =>
          intro acc
          by_cases e : pre [47] (x :: r) = true
          · rw [spl_hit e]; simp
          · rw [spl_miss (by simpa using e)]; exact ih _
      exact this r [] e1.symm
theorem path_split {s : Str} (h : Txt.startswith s ⟨#[47]⟩ = true) (p : Nat → Bool) :
    ((Txt.split s ⟨#[47]⟩).drop 1).all (fun u => decide (u ≠ Str.ofString "" ∧ u.length ≤ 8) && (tl u).all p) =
      ((decide (noSl s ≠ Str.ofString "") && (tl (noSl s)).all p) && ((Txt.split s ⟨#[47]⟩).drop 1).all (fun u => decide (1 ≤ u.length ∧ u.length ≤ 8))) := by
  obtain ⟨hf, hn⟩ := path_parts h
  have ne : ∀ u : Str, u ≠ Str.ofString "" ↔ 1 ≤ u.length := fun u => by
    constructor
    · intro e
      rcases Nat.eq_zero_or_pos u.length with z | z
      · refine absurd (ext_tl ?_) e
        rw [len_tl] at z
        rw [List.length_eq_zero_iff.mp z]
        decide +kernel
      · exact z
    · intro e h
      rw [h] at e
      exact absurd e (by decide +kernel)
  rw [Bool.eq_iff_iff, ← hf, List.all_flatten, List.all_map]
  simp only [Bool.and_eq_true, List.all_eq_true, decide_eq_true_eq, Function.comp]
  generalize (Txt.split s ⟨#[47]⟩).drop 1 = ps at hf hn
  constructor
  · intro a
    refine ⟨⟨?_, fun u hu => (a u hu).2⟩, fun u hu => ⟨(ne u).mp (a u hu).1.1, (a u hu).1.2⟩⟩
    intro e
    cases ps with
    | nil => exact hn rfl
    | cons u r =>
      have hu := (ne u).mp (a u (by simp)).1.1
      rw [e] at hf
      have := congrArg List.length hf
      rw [List.map_cons, List.flatten_cons, List.length_append, ← len_tl] at this
      have z : (tl (Str.ofString "")).length = 0 := by decide +kernel
      omega
  · rintro ⟨⟨_, a⟩, b⟩ u hu
    exact ⟨⟨(ne u).mpr (b u hu).1, (b u hu).2⟩, a u hu⟩
end FR
set_option Elab.async false
set_option linter.all false
set_option maxRecDepth 100000
/-! the last slash of a path; a path without its slashes -/
namespace FR
open PySem PySem.Spec PyProof.Rows L2 TL
theorem rfind_one {x : Str} {c i : Nat} (h : (tl x)[i]? = some c) (h2 : ∀ k, i < k → (tl x)[k]? ≠ some c) : Txt.rfind x ⟨#[c]⟩ = (i : Int) := by
  unfold Txt.rfind
  rcases PySem.StrLaws.last_spec x ⟨#[c]⟩ with ⟨_, hn⟩ | ⟨j, e, hj, hm⟩
  · exact absurd ((PySem.StrLaws.subAt_one x c i).mpr h) (hn i)
  · rw [e]
    have hj' := (PySem.StrLaws.subAt_one x c j).mp hj
    rcases Nat.lt_trichotomy i j with l | l | l
    · exact absurd hj' (h2 j l)
    · rw [l]
    · exact absurd ((PySem.StrLaws.subAt_one x c i).mpr h) (hm i l)
theorem flat_app (ms : List Str) (n : Str) : flat (ms ++ [n]) = flat ms ++ 47 :: tl n := by simp [flat]
theorem rfind_path {ms : List Str} {n : Str} (hn : Nm n) : Txt.rfind (pathOf (ms ++ [n])) (Str.ofString "/") = ((flat ms).length : Int) ∧ cutS (pathOf (ms ++ [n])) none (some ((flat ms).length : Int)) = cat ms := by
  have e : tl (pathOf (ms ++ [n])) = flat ms ++ 47 :: tl n := by rw [pathOf_ne (by simp), tl_cat, flat_app]
  constructor
  · rw [slash]
    refine rfind_one (by rw [e, List.getElem?_append_right (Nat.le_refl _), Nat.sub_self]; rfl) fun k hk h => ?_
    rw [e, List.getElem?_append_right (by omega)] at h
    obtain ⟨j, hj⟩ : ∃ j, k - (flat ms).length = j + 1 := ⟨k - (flat ms).length - 1, by omega⟩
    rw [hj, List.getElem?_cons_succ] at h
    have := hn.lt (List.mem_of_getElem? h)
    omega
  · refine ext_tl ?_
    rw [tl_cutTo, e, tl_cat, List.take_left]
theorem low_of {s : Str} (h0 : tl s ≠ []) (h : ∀ c ∈ tl s, lc c = true) : Txt.isascii s = true ∧ Txt.isalpha s = true ∧ Txt.islower s = true := by
  have ha : Asc s := fun c hc => by have := of_decide_eq_true (h c hc); omega
  refine ⟨isascii_asc ha, ?_, ?_⟩
  · show (decide (s.length > 0) && s.cps.all Unicode.isAlpha) = true
    rw [all_tl, Bool.and_eq_true, decide_eq_true_eq, List.all_eq_true, len_tl]
    exact ⟨List.length_pos_iff.mpr h0, fun c hc => (lc_alpha ⟨c, ha c hc⟩ (h c hc)).1⟩
  · show (s.cps.any Unicode.isLower && !s.cps.any fun c => Unicode.isUpper c || Unicode.isTitle c) = true
    rw [any_tl, any_tl, Bool.and_eq_true, List.any_eq_true, Bool.not_eq_true', List.any_eq_false]
    refine ⟨?_, fun c hc => by have := (lc_alpha ⟨c, ha c hc⟩ (h c hc)).2.2; simpa using this⟩
    obtain ⟨c, hc⟩ := List.exists_mem_of_ne_nil _ h0
    exact ⟨c, hc, (lc_alpha ⟨c, ha c hc⟩ (h c hc)).2.1⟩
theorem path_noSl {ns : List Str} (h : Nms ns) (e : ns ≠ []) : Txt.isascii (noSl (pathOf ns)) = true ∧ Txt.isalpha (noSl (pathOf ns)) = true ∧ Txt.islower (noSl (pathOf ns)) = true := by
  have hm : ∀ c, c ∈ tl (noSl (pathOf ns)) ↔ ∃ s ∈ ns, c ∈ tl s := fun c => by
    rw [tl_noSl, pathOf_ne e, tl_cat, List.mem_filter]
    unfold flat
    rw [List.mem_flatten]
    constructor
    · rintro ⟨⟨l, hl, hc⟩, hne⟩
      obtain ⟨s, hs, rfl⟩ := List.mem_map.mp hl
      rcases List.mem_cons.mp hc with rfl | hc
      · simp at hne
      · exact ⟨s, hs, hc⟩
    · rintro ⟨s, hs, hc⟩
      refine ⟨⟨_, List.mem_map.mpr ⟨s, hs, rfl⟩, List.mem_cons_of_mem _ hc⟩, ?_⟩
      have := (h s hs).lt hc
      simp
      omega
  refine low_of (fun z => ?_) fun c hc => ?_
  · cases ns with
    | nil => exact e rfl
    | cons n r =>
      have h0 := (h n List.mem_cons_self).l0
      rw [len_tl] at h0
      obtain ⟨c, hc⟩ := List.exists_mem_of_length_pos h0
      have := (hm c).mpr ⟨n, List.mem_cons_self, hc⟩
      rw [z] at this
      cases this
  · obtain ⟨s, hs, hc⟩ := (hm c).mp hc
    exact (h s hs).lo c hc
end FR
set_option Elab.async false
set_option linter.all false
set_option maxRecDepth 100000
/-! x in t, t a tuple of data, x any datum -/
namespace FR
open PySem PySem.Spec PyProof.Rows L2 TL PySem.SeqAt
def rInTD (K : PySem.W.Frag) : R2 := fun x y H Q => ∃ (p : Addr) (d : PyData) (ds : List PyData), y = .ref p ∧ Dp K H x d ∧ Dp K H y (.tuple ds) ∧ SeqAt.shaped d = true ∧ PyData.canLayAll0 ds = true ∧ Q (.bl (ds.any fun z => z.eqv d)) H
theorem op_inTD {X : Cx} (hu : X.A.units + 65 < cLine) : OpR X (compareOp .In) (rInTD X.K) := by
  intro pins s σ H x y v u Q I rx ry h
  obtain ⟨p, d, ds, rfl, hd, hy, s1, c2, q⟩ := h
  cases (show u = Value.ref p from ry)
  obtain ⟨as, r1⟩ := Dp.reads I _ _ _ hd rx
  obtain ⟨bs, r2⟩ := Dp.reads I _ _ _ hy ry
  unfold SeqAt.shaped at s1
  rw [Bool.and_eq_true, decide_eq_true_eq] at s1
  cases r2 with
  | tuple e hc hdt hr =>
    refine in_tupleAt (fun z => (readOf s.heap z).eqv d) ⟨_, e, hc, _, hdt⟩ (items_eqAt hr r1 c2 s1.1 (by have := Nat.min_le_right (PyData.depthAll ds) d.depth; omega)) ⟨.bl (ds.any fun z => z.eqv d), H, I, ?_, q⟩
    show Value.bool _ = Value.bool _
    rw [any_by_data hr c2]
end FR
set_option Elab.async false
set_option linter.all false
set_option maxRecDepth 100000
/-! keyword calls of raising defs -/
namespace FR
open PySem PySem.Spec PyProof.Rows L2 TL
section
variable {X : Cx} {CX : CXT} {k n : Nat} {f : Addr} {fd : FuncData} {ps ks : List Str} {sp : Sp} {E : L2.St → XK} {x : Str} {p pos : Pos} {e : Expr} {es : List Expr} {kws : List Keyword} {t tk : TA} {g : List Value → List Value → List Value} {gV : List V → List V → List V}
theorem run_fnNS {pins : List (Addr × Obj)} {σ : L2.St} {H : Hp} {s : Shared} {Q : VK} {us ws : List Value} {vs zs : List V} (F : FnOk X.prog X.w X.K X.mg X.base CX k f fd ps sp) (hr : Room k X.A) (hb : KBn X.K fd ps n ks g gV) (hx : PassesAt CX X σ (E σ))
    (I : Inv X pins σ H s) (r : Vals vs us) (rz : Vals zs ws) (l1 : vs.length = n) (l2 : zs.length = ks.length) (h : sp (gV vs zs) H Q (E σ)) : wpAny (model X.prog X.w) X.A (call (.ref f) us (ks.zip ws)) (EP X pins σ Q) X.xe s := by
  have r2 := hb.rel r rz
  refine wpAny_call (codeAny_mono (F.run X.A X.stack s H ⟨us, ks.zip ws⟩ (g us ws) (gV vs zs) Q (E σ) hr I.env0 (hb.to s us ws I.kIn (r.length.symm.trans l1) (rz.length.symm.trans l2)) r2 h) fun r s' hq => ?_)
  cases r with
  | error e => exact hx pins H s e s' I hq
  | ok fl =>
    cases fl with
    | ret u => exact I.after hq
    | next => exact False.elim hq
    | brk => exact False.elim hq
    | cont => exact False.elim hq
def tCallNS (n m : Nat) (sp : Sp) (gV : List V → List V → List V) (E : L2.St → XK) (t tk : TA) : TE := fun σ H Q => t σ H fun vs H1 => tk σ H1 fun zs H2 => vs.length = n ∧ zs.length = m ∧ sp (gV vs zs) H2 Q (E σ)
theorem pe_callN0S (F : FnOk X.prog X.w X.K X.mg X.base CX k f fd ps sp) (hr : Room k X.A) (hg : Gl X x) (hm : X.mg x = some (.ref f)) (hk : PySem.W.keepIn X.K (.ref f) = true) (hb : KBn X.K fd ps 0 ks g gV) (hx : ∀ σ, PassesAt CX X σ (E σ)) (hkw : PK X kws tk)
    (hall : (backToKw pos (keywordEach kws X.env)).all (·.1.isSome) = true := by rfl) (hks : (backToKw pos (keywordEach kws X.env)).filterMap (·.1) = ks := by rfl) (hdb : (x == ("__debug__" : Str)) = false := by decide)
    (hpl : ((backTo pos (starEach [] X.env)).any (·.1) || (backToKw pos (keywordEach kws X.env)).any (·.1.isNone)) = false := by rfl) : PE X (.Call (.Name x p) [] kws pos) (tCallNS 0 ks.length sp gV E tNil tk) := ⟨fun pins s σ H Q I h => by
  refine wpAny_Call_Name_kw (ld_glob I hg hm (PySem.W.callWith_KW0 (h₀ := X.base) I.ok.mod.kin hk hall ?_ hpl) hdb)
  refine thn (hkw.run pos pins s σ H _ I h) fun ws s2 hz => ?_
  obtain ⟨zs, H2, I2, rz, l1, l2, q2⟩ := hz
  refine ⟨I2.kIn, ?_⟩
  rw [hks]
  exact run_fnNS (us := []) (vs := []) F hr hb (hx σ) I2 .nil rz rfl l2 q2⟩
end
end FR
set_option Elab.async false
set_option linter.all false
set_option maxRecDepth 100000
/-! t + u and t[lo:hi] of tuples, whichever object stands for them -/
namespace FR
open PySem PySem.Spec PyProof.Rows L2 TL
section
variable {X : Cx}
def rCatK : R2 := fun x y H Q => ∃ a b xs ys, x = .ref a ∧ y = .ref b ∧ H a = some (.tup xs) ∧ H b = some (.tup ys) ∧ xs.length + ys.length ≤ sizeLine ∧ ∀ p H', Keep [] H H' → H' p = some (.tup (xs ++ ys)) → Q (.ref p) H'
theorem op_catK : OpR X (binaryOp .Add) rCatK := fun pins s σ H x y v u Q I rx ry h => by
  obtain ⟨a, b, xs, ys, rfl, rfl, ha, hb, hz, q⟩ := h
  refine op_catA pins s σ H _ _ v u Q I rx ry ⟨a, b, xs, ys, rfl, rfl, .inl (.inl ha), .inl (.inl hb), hz, fun e => q b H Keep.refl (by rw [e]; exact hb), fun _ e => q a H Keep.refl (by rw [e, List.append_nil]; exact ha), fun _ _ p np => q p _ (keep_new np) upd_same⟩
def rSlK : V → Option Int → Option Int → Hp → VK → Prop := fun x lo hi H Q => ∃ a xs, x = .ref a ∧ H a = some (.tup xs) ∧ ∀ p H', Keep [] H H' → H' p = some (.tup (cutV xs lo hi)) → Q (.ref p) H'
theorem sl_tupK : SlR X rSlK := fun pins s σ H x v vl vu lo hi sl Q I rx hs pl pu h => by
  obtain ⟨a, xs, rfl, ha, q⟩ := h
  refine sl_tupA pins s σ H _ v vl vu lo hi sl Q I rx hs pl pu ⟨a, xs, rfl, .inl (.inl ha), fun e => q a H Keep.refl ?_, fun _ p np => q p _ (keep_new np) upd_same⟩
  rw [ha]
  unfold cutV
  rw [e.1, e.2, List.drop_zero, Nat.sub_zero, List.take_length]
end
theorem cutV_mem {xs : List V} {lo hi : Option Int} {x : V} (h : x ∈ cutV xs lo hi) : x ∈ xs := List.mem_of_mem_drop (List.mem_of_mem_take h)
end FR
set_option Elab.async false
set_option linter.all false
set_option maxRecDepth 100000
/-! blocks of a def that are shown by themselves -/
namespace FR
open PySem PySem.Spec PyProof.Rows L2 TL
/-- a block, by what it asks -/
theorem pss_b {X : Cx} {b : List Stmt} {t R : TS} (h : PSs X b t) (k : ∀ D σ H, R D σ H → t D σ H) : PSs X b R := ⟨fun pins s σ H D I q => h.run pins s σ H D I (k D σ H q)⟩
def bdF : Stmt → List Stmt
  | .For _ _ b _ _ => b
  | .While _ b _ _ => b
  | .If _ b _ _ => b
  | .Try b _ _ _ _ => b
  | _ => []
def bdE : Stmt → List Stmt
  | .For _ _ _ b _ => b
  | .While _ _ b _ => b
  | .If _ _ b _ => b
  | .Try _ _ b _ _ => b
  | _ => []
def nth (l : List Stmt) (i : Nat) : Stmt := l.getD i (.Pass ⟨0, 0, 0, 0⟩)
/-- repr, its text kept closed -/
theorem rep_to {K : PySem.W.Frag} {xs : List V} {H : Hp} {Q : VK} {p : Addr} {d : PyData} {tx : Str} (e : d.shown = tx) (h : Dp K H (.ref p) d ∧ d.showable = true ∧ d.hasDict = false ∧ d.depth ≤ 50 ∧ d.shown.length ≤ sizeLine) (hx : xs = [.ref p]) (q : Q (.str tx) H) : rReprD K xs H Q :=
  ⟨p, d, hx, h.1, h.2.1, h.2.2.1, h.2.2.2.1, h.2.2.2.2, by rw [e]; exact q⟩
theorem rep_ex {K : PySem.W.Frag} {H : Hp} {p : Addr} {d : PyData} (_ : Dp K H (.ref p) d ∧ d.showable = true ∧ d.hasDict = false ∧ d.depth ≤ 50 ∧ d.shown.length ≤ sizeLine) : ∃ t, d.shown = t := ⟨_, rfl⟩
theorem same_txt {t : Str} {A B : Prop} (b : B) : if (!decide (V.str t = V.str t)) = true then A else B := by
  rw [decide_eq_true rfl]
  exact b
end FR
set_option Elab.async false
set_option linter.all false
set_option maxRecDepth 100000
/-! operators, `in`, len, bool, str and == of own classes whose instances have a dict -/
namespace FR
open PySem PySem.Spec PyProof.Rows L2 TL
open SlX (cmpback run_at)
section
variable {X : Cx} {pins : List (Addr × Obj)} {σ : L2.St} {H : Hp} {s : Shared} {C g : Addr} {n : Nat} {sp : Sp} {E : XK} {CX : CXT}
theorem ins_inst {a dx : Addr} {fs : List (Str × V)} (I : Inv X pins σ H s) (e : H a = some (.ins C dx fs)) : ∃ od, PySem.W.InstAt s.heap a (PySem.W.instObj C dx) C (some od) := by
  obtain ⟨mA, O, _⟩ := ins_get I.hok e
  obtain ⟨od, J, _⟩ := O.look
  exact ⟨od, J⟩
/-- x op y, both of the class at C, its def for op at g -/
def rBinI (C : Addr) (sp : Sp) (E : XK) : R2 := fun x y H Q => ∃ a dx fs b dy gs, x = .ref a ∧ y = .ref b ∧ H a = some (.ins C dx fs) ∧ H b = some (.ins C dy gs) ∧ sp [x, y] H Q E
theorem op_binI {op : Operator} (hc : PySem.W.selfFirst X.K C = true) (hs : PySem.W.findIn X.K (.ref C) (PySem.dunder op.info.2) = some (some (.ref g))) (hf : PySem.W.isFn X.K (.ref g) = true) (F : FnR X.prog X.w X.K X.mg X.base CX n g sp)
    (hr : Room n X.A) (hx : Passes CX X E) : OpR X (binaryOp op) (rBinI C sp E) := by
  intro pins s σ H x y v u Q I rx ry h
  obtain ⟨a, dx, fs, b, dy, gs, rfl, rfl, ha, hb, q⟩ := h
  cases (show v = Value.ref a from rx)
  cases (show u = Value.ref b from ry)
  obtain ⟨od, J⟩ := ins_inst I ha
  obtain ⟨od', J'⟩ := ins_inst I hb
  obtain ⟨m, hF⟩ := I.fr
  refine PySem.W.binop_K (op := op) hF I.ok.mod.kin J J'.type hc hs hf ?_
  refine wpAny_mono (wpAny_call (run_fnR (us := [.ref a, .ref b]) (vs := [.ref a, .ref b]) F hr hx I (.cons rfl (.cons rfl .nil)) q)) (fun w s' z => ?_) fun _ _ x => x
  obtain ⟨z', H', I', rz, qz⟩ := z
  exact cmpback rz ⟨z', H', I', rz, qz⟩
/-- ~x -/
def rInvI (C : Addr) (sp : Sp) (E : XK) : V → Hp → VK → Prop := fun x H Q => ∃ a dx fs, x = .ref a ∧ H a = some (.ins C dx fs) ∧ sp [x] H Q E
theorem un_invI (hs : PySem.W.findIn X.K (.ref C) "__invert__" = some (some (.ref g))) (hf : PySem.W.isFn X.K (.ref g) = true) (F : FnR X.prog X.w X.K X.mg X.base CX n g sp)
    (hr : Room n X.A) (hx : Passes CX X E) : UnR X (unaryOp .Invert) (rInvI C sp E) := by
  intro pins s σ H x v Q I rx h
  obtain ⟨a, dx, fs, rfl, ha, q⟩ := h
  cases (show v = Value.ref a from rx)
  obtain ⟨od, J⟩ := ins_inst I ha
  obtain ⟨m, hF⟩ := I.fr
  exact PySem.W.ksp_inv hF I.ok.mod.kin J hs hf (wpAny_call (run_fnR (us := [.ref a]) (vs := [.ref a]) F hr hx I (.cons rfl .nil) q))
/-- x op y (a comparison), x of the class at C whose def for it is at g, y an instance of it too -/
def rCmpI (C : Addr) (sp : Sp) (E : XK) : R2 := fun x y H Q => ∃ a dx fs b dy gs, x = .ref a ∧ y = .ref b ∧ H a = some (.ins C dx fs) ∧ H b = some (.ins C dy gs) ∧ sp [x, y] H Q E
theorem op_cmpI {op : CmpOp} (hop : ∀ a b, compareOp op a b = richCompare op a b) (hs : PySem.W.findIn X.K (.ref C) (cmpInfo op).2.1 = some (some (.ref g))) (hf : PySem.W.isFn X.K (.ref g) = true) (F : FnR X.prog X.w X.K X.mg X.base CX n g sp)
    (hr : Room n X.A) (hx : Passes CX X E) : OpR X (compareOp op) (rCmpI C sp E) := by
  intro pins s σ H x y v u Q I rx ry h
  obtain ⟨a, dx, fs, b, dy, gs, rfl, rfl, ha, hb, q⟩ := h
  cases (show v = Value.ref a from rx)
  cases (show u = Value.ref b from ry)
  obtain ⟨od, J⟩ := ins_inst I ha
  obtain ⟨od', J'⟩ := ins_inst I hb
  obtain ⟨m, hF⟩ := I.fr
  rw [hop]
  refine PySem.W.cmp_K (op := op) (tb := .ref C) hr.units0 hF I.ok.mod.kin J J'.type (by unfold PySem.W.notFirst; simp) hs hf ?_
  refine wpAny_mono (wpAny_call (run_fnR (us := [.ref a, .ref b]) (vs := [.ref a, .ref b]) F hr hx I (.cons rfl (.cons rfl .nil)) q)) (fun w s' z => ?_) fun _ _ x => x
  obtain ⟨z', H', I', rz, qz⟩ := z
  exact cmpback rz ⟨z', H', I', rz, qz⟩
/-- v in x, x of the class at C; the answer of its def is a boolean -/
def rInI (C : Addr) (sp : Sp) (E : XK) : R2 := fun v x H Q => ∃ a dx fs, x = .ref a ∧ H a = some (.ins C dx fs) ∧ sp [x, v] H (fun z H' => ∃ b, z = .bl b ∧ Q (.bl b) H') E
theorem op_inI (hs : PySem.W.findIn X.K (.ref C) "__contains__" = some (some (.ref g))) (hf : PySem.W.isFn X.K (.ref g) = true) (F : FnR X.prog X.w X.K X.mg X.base CX n g sp)
    (hr : Room n X.A) (hx : Passes CX X E) : OpR X (compareOp .In) (rInI C sp E) := by
  intro pins s σ H x y v u Q I rx ry h
  obtain ⟨a, dx, fs, rfl, ha, q⟩ := h
  cases (show u = Value.ref a from ry)
  obtain ⟨od, J⟩ := ins_inst I ha
  obtain ⟨m, hF⟩ := I.fr
  refine PySem.W.in_K hF I.ok.mod.kin J hs hf (wpAny_mono (wpAny_call (run_fnR (us := [.ref a, v]) (vs := [.ref a, x]) F hr hx I (.cons rfl (.cons rx .nil)) q)) (fun w s' z => ?_) fun _ _ x => x)
  obtain ⟨z', H', I', rz, b, eb, qz⟩ := z
  subst eb
  cases (show w = Value.bool b from rz)
  exact wpAny_truthy_bool ⟨.bl b, H', I', rfl, qz⟩
/-- the truth of x, of the class at C with an own __bool__ -/
def rTruI (C : Addr) (sp : Sp) (E : XK) : V → Hp → (Bool → Hp → Prop) → Prop := fun x H Q => ∃ a dx fs, x = .ref a ∧ H a = some (.ins C dx fs) ∧ sp [x] H (fun z H' => ∃ b, z = .bl b ∧ Q b H') E
theorem tru_I (hs : PySem.W.findIn X.K (.ref C) "__bool__" = some (some (.ref g))) (hf : PySem.W.isFn X.K (.ref g) = true) (F : FnR X.prog X.w X.K X.mg X.base CX n g sp)
    (hr : Room n X.A) (hx : Passes CX X E) : TruR X (rTruI C sp E) := by
  intro pins s σ H x v Q I rx h
  obtain ⟨a, dx, fs, rfl, ha, q⟩ := h
  cases (show v = Value.ref a from rx)
  obtain ⟨od, J⟩ := ins_inst I ha
  obtain ⟨m, hF⟩ := I.fr
  refine PySem.W.truthy_K hF I.ok.mod.kin J hs hf (wpAny_mono (wpAny_call (run_fnR (us := [.ref a]) (vs := [.ref a]) F hr hx I (.cons rfl .nil) q)) (fun w s' z => ?_) fun _ _ x => x)
  obtain ⟨z', H', I', rz, b, eb, qz⟩ := z
  subst eb
  cases (show w = Value.bool b from rz)
  exact ⟨H', I', qz⟩
/-- len(x), x of the class at C with an own __len__ -/
def rLenI (C : Addr) (sp : Sp) (E : XK) : List V → Hp → VK → Prop := fun xs H Q => ∃ a dx fs, xs = [.ref a] ∧ H a = some (.ins C dx fs) ∧ sp xs H (fun z H' => ∃ i, z = .int i ∧ 0 ≤ i ∧ i < 2 ^ 63 ∧ Q (.int i) H') E
theorem call_lenI (hs : PySem.W.findIn X.K (.ref C) "__len__" = some (some (.ref g))) (hf : PySem.W.isFn X.K (.ref g) = true) (F : FnR X.prog X.w X.K X.mg X.base CX n g sp)
    (hr : Room (n + 1) X.A) (hx : Passes CX X E) : CallR X (.builtin "len") (rLenI C sp E) := by
  intro pins s σ H xs us Q I r h
  obtain ⟨a, dx, fs, rfl, ha, q⟩ := h
  obtain ⟨u, rfl, ru⟩ := r.one
  cases (show u = Value.ref a from ru)
  obtain ⟨od, J⟩ := ins_inst I ha
  obtain ⟨m, hF⟩ := I.fr
  refine PySem.W.len_K hF I.ok.mod.kin J hs hf (wpAny_mono (wpAny_call (run_at (us := [.ref a]) (ws := [.ref a]) F hr.in1 I.env0.in1 hx I (.cons rfl .nil) q)) (fun w s' z => ?_) fun _ _ x => x)
  obtain ⟨z', H', I', rz, i, ei, h0, h1, qz⟩ := z
  subst ei
  obtain ⟨t, e⟩ := (show ∃ t, w = Value.int i t from rz)
  cases e
  exact ⟨⟨h0, h1⟩, .int i, H', I'.tok _, ⟨_, rfl⟩, qz⟩
/-- str(x), x of the class at C with an own __str__ -/
def rStrI (C : Addr) (sp : Sp) (E : XK) : List V → Hp → VK → Prop := fun xs H Q => ∃ a dx fs, xs = [.ref a] ∧ H a = some (.ins C dx fs) ∧ sp xs H (fun z H' => ∃ t, z = .str t ∧ Q (.str t) H') E
theorem call_strI (hs : PySem.W.findIn X.K (.ref C) "__str__" = some (some (.ref g))) (hf : PySem.W.isFn X.K (.ref g) = true) (F : FnR X.prog X.w X.K X.mg X.base CX n g sp)
    (hr : Room (n + 2) X.A) (hx : Passes CX X E) : CallR X (.type "str") (rStrI C sp E) := by
  intro pins s σ H xs us Q I r h
  obtain ⟨a, dx, fs, rfl, ha, q⟩ := h
  obtain ⟨u, rfl, ru⟩ := r.one
  cases (show u = Value.ref a from ru)
  obtain ⟨od, J⟩ := ins_inst I ha
  have hr2 : Room n X.A.in1.in1 := (show Room (n + 1) X.A.in1 from Room.in1 hr).in1
  refine PySem.W.kso_call hr2.units0 I.kIn J hs hf (wpAny_mono (wpAny_call (run_at (us := [.ref a]) (ws := [.ref a]) F hr2 I.env0.in1.in1 hx I (.cons rfl .nil) q)) (fun w s' z => ?_) fun _ _ x => x)
  obtain ⟨z', H', I', rz, t, et, qz⟩ := z
  subst et
  obtain ⟨t', e⟩ := (show ∃ t', w = Value.str t t' from rz)
  cases e
  exact ⟨.str t, H', I', ⟨_, rfl⟩, qz⟩
end
end FR
set_option Elab.async false
set_option linter.all false
set_option maxRecDepth 100000
/-! x op= y of own classes without a def of their own for op= -/
namespace FR
open PySem PySem.W PySem.Calls PyProof.Rows
section
variable {prog : Program} {w : World} {M : Model} {A : Around} {E : Value → Shared → Prop} {s : Shared} {K : Frag} {x C L f : Addr} {h₀ : Heap} {m : Str → Option Value} {ox : Obj} {od : Option Obj} {nm : String} {cd : ClassData}
theorem inplace_no {h : Heap} {add : Bool} (X : K.In h) (hc : clsIn K C = some cd) (hm : cd.mro = [.ref C, .type "object"]) (h1 : findIn K (.ref C) (dunderI nm) = some none) (h2 : findIn K (.type "object") (dunderI nm) = some none) :
    Looks M h (fillsInplaceSlot (.ref C) nm add) false := by
  intro A Q E s k q
  have Lm : Looks M h (mroOf (.ref C)) cd.mro := (looks_clsIn X hc).andThen (f := fun cd => pure cd.mro) .now
  have Lm' := Lm.keeps k
  obtain ⟨hh, g, d, tk, os⟩ := s
  have X' : K.In hh := X.keeps k
  have L1 : Looks M hh (typeLookup (.ref C) (dunderI nm)) none := looks_findIn X' h1
  have L2 : Looks M hh (typeLookup (.type "object") (dunderI nm)) none := looks_findIn X' h2
  unfold fillsInplaceSlot
  refine wpAny_bind (Lm'.at ?_)
  rw [hm, List.anyM_cons]
  refine wpAny_bind ?_
  repeat lk
  exact q
theorem bin1_own {b : Value} {Q : Value → Shared → Prop} (X : K.In s.heap) (I : InstAt s.heap x ox C od) (hb : Looks M s.heap (typeOf b) (.ref C)) (hc : clsIn K C = some cd) (hm : cd.mro = [.ref C, .type "object"])
    (hs : findIn K (.ref C) (PySem.dunder nm) = some (some (.ref f))) (hf : isFn K (.ref f) = true)
    (h : wpAny M A (call (.ref f) [.ref x, b]) (PySem.W.CmpBack Q) E s) : wpAny M A (binaryOp1 nm (.ref x) b) (fun r s' => ∃ v, r = some v ∧ Q v s') E s := by
  have one := ksp_try X I hs hf h
  obtain ⟨hh, g, d, tk, os⟩ := s
  have L1 : Looks M hh (typeOf (.ref x)) (.ref C) := I.type
  have L2 : Looks M hh (typeOf b) (.ref C) := hb
  have L3 : Looks M hh (fillsNumberSlot (.ref C) nm) true := fills_K X hc hm hs
  unfold binaryOp1
  refine wpAny_bind (L1.at (wpAny_bind (L2.at (wpAny_bind (L3.at ?_)))))
  simp only [beq_self_eq_true, if_true]
  ksp_lk
  refine wpAny_mono one (fun r s' hr' => ?_) fun _ _ e => e
  obtain ⟨v, rfl, hq⟩ := hr'
  ksp_lk
  exact ⟨_, rfl, hq⟩
theorem inplace_own {op : Operator} {b : Value} {Q : Value → Shared → Prop} (X : K.In s.heap) (I : InstAt s.heap x ox C od) (hb : Looks M s.heap (typeOf b) (.ref C)) (hc : clsIn K C = some cd) (hm : cd.mro = [.ref C, .type "object"])
    (h1 : findIn K (.ref C) (dunderI op.info.2) = some none) (h2 : findIn K (.type "object") (dunderI op.info.2) = some none)
    (hs : findIn K (.ref C) (PySem.dunder op.info.2) = some (some (.ref f))) (hf : isFn K (.ref f) = true)
    (h : wpAny M A (call (.ref f) [.ref x, b]) (PySem.W.CmpBack Q) E s) : wpAny M A (inplaceOp op (.ref x) b) Q E s := by
  have one := bin1_own X I hb hc hm hs hf h
  obtain ⟨hh, g, d, tk, os⟩ := s
  have L1 : Looks M hh (typeOf (.ref x)) (.ref C) := I.type
  have L2 : Looks M hh (fillsInplaceSlot (.ref C) op.info.2 (op == .Add)) false := inplace_no X hc hm h1 h2
  unfold inplaceOp
  refine wpAny_holding ?_
  refine wpAny_bind (L1.at (wpAny_bind (L2.at ?_)))
  simp only [Bool.false_eq_true, if_false]
  refine wpAny_bind (wpAny_mono one (fun r s' hr' => ?_) fun _ _ e => e)
  obtain ⟨v, rfl, hq⟩ := hr'
  exact wpAny_pure hq
theorem ifBound_slot {name : Str} {id : String} {args : List Value} {Q : Option Value → Shared → Prop} (X : K.In s.heap) (I : InstAt s.heap x ox C od) (hs : findIn K (.ref C) name = some (some (.builtin id)))
    (hb : ∀ self, bindSpecial (.builtin id) self = pure (.builtin id, [self])) (h : wpAny M A (call (.builtin id) (.ref x :: args)) (fun v => Q (some v)) E s) : wpAny M A (callSpecialIfBound? (.ref x) name args) Q E s := by
  simp only [callSpecialIfBound?, bindSpecialIfBound?]
  refine wpAny_holding (wpAny_bind (wpAny_bind (wpAny_bind (I.type.here ((looks_findIn X hs).here ?_)))))
  simp only [hb]
  refine wpAny_bind (wpAny_askSetting (wpAny_ite ?_))
  have fin : wpAny M A (call (.builtin id) ([.ref x] ++ args) >>= fun v => pure (some v)) Q E s := wpAny_bind (wpAny_mono h (fun v s' h' => wpAny_pure h') fun _ _ h' => h')
  split
  · exact wpAny_bind (wpAny_pure (wpAny_pure (by exact fin)))
  · exact wpAny_tryCatch (wpAny_bind (wpAny_pure (wpAny_pure (by exact fin))))
open Builtin in
/-- object's «not equal» where the class has its own «equal», which answers a boolean -/
theorem objNe_own {b : Value} {Q : Value → Shared → Prop} (hu : A.in1.units < cLine) (X : K.In s.heap) (I : InstAt s.heap x ox C od) (hm : mroIn K C (.type "object") = some true) (hs : findIn K (.ref C) "__eq__" = some (some (.ref f))) (hf : isFn K (.ref f) = true)
    (h : wpAny (model prog w) A.in1 (call (.ref f) [.ref x, b]) (fun r s' => ∃ v, r = .bool v ∧ Q (.bool (!v)) s') E s) : wpAny (model prog w) A (call (.builtin "object.__ne__") [.ref x, b]) Q E s := by
  refine wpAny_call (codeAny_call_builtin PySem.F.cmp_object.ne.plain PySem.F.cmpEntry_ne (check_slot (i := "object.__ne__") (owner := "object") (n := "__ne__") (by decide +kernel) (by decide +kernel) (I.type.andThen (looks_mroIn X hm)) (PySem.F.cmpArgs_ne _ _) ?_))
  unfold Builtin.«object.__ne__»
  refine wpAny_bind (m := slotArgs "__ne__" 1 _) (wpAny_pure ?_)
  refine wpAny_bind (m := cRoomFor _ _) (wpAny_cRoomFor hu ?_)
  refine wpAny_bind (m := callSpecialIfBound? (.ref x) (Str.ofString "__eq__") _) (ifBound_K X I hs hf (wpAny_mono h (fun r s' hq => ?_) fun _ _ y => y))
  obtain ⟨v, rfl, q⟩ := hq
  refine wpAny_bind (wpAny_truthy_bool ?_)
  exact wpAny_pure q
/-- x != b where the class of x has an own «equal» alone -/
theorem rc_ne_own {b tb : Value} {Q : Value → Shared → Prop} (hu : A.units < cLine) (hu1 : A.in1.units < cLine) (X : K.In s.heap) (I : InstAt s.heap x ox C od) (hb : Looks (model prog w) s.heap (typeOf b) tb) (hn : notFirst K C tb = true)
    (hm : mroIn K C (.type "object") = some true) (hne : findIn K (.ref C) "__ne__" = some (some (.builtin "object.__ne__"))) (hs : findIn K (.ref C) "__eq__" = some (some (.ref f))) (hf : isFn K (.ref f) = true)
    (h : wpAny (model prog w) A.in1 (call (.ref f) [.ref x, b]) (fun r s' => ∃ v, r = .bool v ∧ Q (.bool (!v)) s') E s) : wpAny (model prog w) A (richCompare .NotEq (.ref x) b) Q E s := by
  have one : wpAny (model prog w) A (tryCompare (.ref x) (cmpInfo .NotEq).2.1 b) (fun r s' => ∃ v, r = some v ∧ Q v s') E s := by
    unfold tryCompare
    refine wpAny_bind (ifBound_slot X I hne PySem.F.cmp_object.ne.bind (objNe_own hu1 X I hm hs hf (wpAny_mono h (fun v s' hv => ?_) fun _ _ e => e)))
    obtain ⟨v, rfl, q⟩ := hv
    exact ⟨v, rfl, wpAny_pure ⟨_, rfl, q⟩⟩
  unfold richCompare
  simp only [oneThing_ref]
  refine wpAny_holding (wpAny_bind (wpAny_cRoomFor hu ?_))
  refine wpAny_bind (I.type.here (wpAny_bind (hb.here ?_)))
  split
  · rename_i q
    have e : subIn K tb (.ref C) = some false := by
      rcases Bool.or_eq_true_iff.mp hn with e | e
      · rw [beq_iff_eq.mp e] at q; simp at q
      · exact beq_iff_eq.mp e
    refine wpAny_bind ((looks_subIn X e).here ?_)
    simp only [Bool.false_eq_true, if_false]
    refine wpAny_bind (wpAny_mono one (fun r s' z => ?_) fun _ _ e => e)
    obtain ⟨v, rfl, hq⟩ := z
    exact wpAny_pure hq
  · refine wpAny_bind (wpAny_pure ?_)
    simp only [Bool.false_eq_true, if_false]
    refine wpAny_bind (wpAny_mono one (fun r s' z => ?_) fun _ _ e => e)
    obtain ⟨v, rfl, hq⟩ := z
    exact wpAny_pure hq
end
section
open L2
open SlX (cmpback run_at)
variable {X : Cx} {C g : Addr} {n : Nat} {sp : Sp} {E : XK} {CX : CXT}
theorem op_ibinI {op : Operator} {cd : ClassData} (hc : clsIn X.K C = some cd) (hm : cd.mro = [.ref C, .type "object"]) (h1 : findIn X.K (.ref C) (dunderI op.info.2) = some none) (h2 : findIn X.K (.type "object") (dunderI op.info.2) = some none)
    (hs : findIn X.K (.ref C) (PySem.dunder op.info.2) = some (some (.ref g))) (hf : isFn X.K (.ref g) = true) (F : FnR X.prog X.w X.K X.mg X.base CX n g sp) (hr : Room n X.A) (hx : Passes CX X E) : InOp X op (rBinI C sp E) := by
  intro pins s σ H x y v u Q I rx ry h
  obtain ⟨a, dx, fs, b, dy, gs, rfl, rfl, ha, hb, q⟩ := h
  cases (show v = Value.ref a from rx)
  cases (show u = Value.ref b from ry)
  obtain ⟨od, J⟩ := ins_inst I ha
  obtain ⟨od', J'⟩ := ins_inst I hb
  refine inplace_own I.kIn J J'.type hc hm h1 h2 hs hf ?_
  refine wpAny_mono (wpAny_call (run_fnR (us := [.ref a, .ref b]) (vs := [.ref a, .ref b]) F hr hx I (.cons rfl (.cons rfl .nil)) q)) (fun w s' z => ?_) fun _ _ x => x
  obtain ⟨z', H', I', rz, qz⟩ := z
  exact cmpback rz ⟨z', H', I', rz, qz⟩
/-- x != y, both of the class at C with an own «equal» alone -/
def rNeI (C : Addr) (sp : Sp) (E : XK) : R2 := fun x y H Q => ∃ a dx fs b dy gs, x = .ref a ∧ y = .ref b ∧ H a = some (.ins C dx fs) ∧ H b = some (.ins C dy gs) ∧ sp [x, y] H (fun z H' => ∃ v, z = .bl v ∧ Q (.bl (!v)) H') E
theorem op_neI (hm : mroIn X.K C (.type "object") = some true) (hne : findIn X.K (.ref C) "__ne__" = some (some (.builtin "object.__ne__"))) (hs : findIn X.K (.ref C) "__eq__" = some (some (.ref g))) (hf : isFn X.K (.ref g) = true)
    (F : FnR X.prog X.w X.K X.mg X.base CX n g sp) (hr : Room (n + 1) X.A) (hx : Passes CX X E) : OpR X (compareOp .NotEq) (rNeI C sp E) := by
  intro pins s σ H x y v u Q I rx ry h
  obtain ⟨a, dx, fs, b, dy, gs, rfl, rfl, ha, hb, q⟩ := h
  cases (show v = Value.ref a from rx)
  cases (show u = Value.ref b from ry)
  obtain ⟨od, J⟩ := ins_inst I ha
  obtain ⟨od', J'⟩ := ins_inst I hb
  refine rc_ne_own (tb := .ref C) hr.units0 hr.in1.units0 I.kIn J J'.type (by unfold notFirst; simp) hm hne hs hf ?_
  refine wpAny_mono (wpAny_call (run_at (us := [.ref a, .ref b]) (ws := [.ref a, .ref b]) F hr.in1 I.env0.in1 hx I (.cons rfl (.cons rfl .nil)) q)) (fun w s' z => ?_) fun _ _ x => x
  obtain ⟨z', H', I', rz, b', eb, qz⟩ := z
  subst eb
  cases (show w = Value.bool b' from rz)
  exact ⟨b', rfl, .bl (!b'), H', I', rfl, qz⟩
end
end FR
set_option Elab.async false
set_option linter.all false
set_option maxRecDepth 100000
/-! whole numbers as tests; dicts of the module inside a comprehension -/
namespace FR
open PySem PySem.Spec PyProof.Rows L2
def tTruI (ta : TE) : TT := fun σ H Q => ta σ H fun x H' => ∃ i, x = .int i ∧ Q (i != 0) H'
theorem pt_truthI {X : Cx} {a : Expr} {ta : TE} (ha : PE X a ta) (he : ∀ whole, isTrue a X.env whole = (do let v ← whole; standAt a.pos; holding [v] (truthy v))) : PT X a (tTruI ta) := by
  refine ⟨fun pins s σ H Q I h => ?_⟩
  exact isTrue_plain (thn (ha.run pins s σ H _ I h) fun v s1 ⟨x, H1, I1, r1, i, ex, q1⟩ => tru_ok pins s1 σ H1 x v Q I1 r1 ⟨i != 0, by subst ex; rfl, q1⟩) (he _)
theorem ix_kdictK {X : Cx} {K : PySem.W.Frag} {w : World} (hk : X.K = K) (hw : X.w = w) : IxR X (rIxD K w) := by
  subst hk hw
  exact ix_kdict
def rInW (K : PySem.W.Frag) (d : Addr) : R2 := fun x y H Q => ∃ (z : Str) (r : Option Value), x = .str z ∧ y = .ref d ∧ PySem.W.nsIn K d z = some r ∧ Q (.bl r.isSome) H
theorem op_inW {X : Cx} {K : PySem.W.Frag} {w : World} {d : Addr} (hk : X.K = K) (hw : X.w = w) (D : ∃ es n, KDict K w d es n) : OpR X (compareOp .In) (rInW K d) := by
  subst hk hw
  obtain ⟨es, n, D⟩ := D
  exact op_in_kd D
end FR
set_option Elab.async false
set_option linter.all false
set_option maxRecDepth 100000
/-! list(x) of a text -/
namespace FR
open PySem PySem.Spec PyProof.Rows L2 TL
def rListT : List V → Hp → VK → Prop := fun xs H Q => ∃ x : Str, xs = [.str x] ∧ x.cps.size ≤ sizeLine ∧ NewS (.lst ((tl x).map fun c => .str ⟨#[c]⟩)) Q H
theorem call_listT {X : Cx} (hc : X.calm = true) : CallR X (.type "list") rListT := by
  intro pins s σ H xs us Q I r h
  obtain ⟨x, rfl, hz, q⟩ := h
  obtain ⟨u, rfl, t, rfl⟩ : ∃ u, us = [u] ∧ ∃ t, u = Value.str x t := by
    cases r with
    | cons a b => cases b; exact ⟨_, rfl, a⟩
  refine call_list_str (hn := hz) (I.ok.hd hc) x t fun h' tk acc' c' hkeep hS hacc => ?_
  refine ⟨.ref s.heap.objs.size, upd H s.heap.objs.size (.lst ((tl x).map fun c => .str ⟨#[c]⟩)), I.laid hkeep (Nat.le_refl _) (show ObjOk X.prog X.w _ _ _ (.lst ((tl x).map fun c => .str ⟨#[c]⟩)) from ⟨?_, acc'.toList, c', ?_, ?_⟩), rfl,
    q.to _ _ (I.hok.fresh (Nat.le_refl _)) I.big (keep_new (I.hok.fresh (Nat.le_refl _))) upd_same⟩
  · rw [List.length_map]
    simpa using hz
  · have el : acc'.toList.length = acc'.size := by simp
    refine vals_of_at (by rw [List.length_map, el, hacc.1]; simp) fun j y v h1 h2 => ?_
    obtain ⟨c, tk2, hj, rfl⟩ := hacc.2 j v (by rw [← Array.getElem?_toList]; exact h2)
    rw [List.getElem?_map, show (tl x)[j]? = some c by simpa using hj] at h1
    cases h1
    exact ⟨tk2, rfl⟩
  · rw [Array.toArray_toList]; exact hS
end FR
set_option Elab.async false
set_option linter.all false
set_option maxRecDepth 100000
set_option maxHeartbeats 4000000
/-! bool(x), x == y and x != y of an own class, whatever stands on the right -/
namespace FR
open PySem PySem.Spec PyProof.Rows
theorem call_bool_tru {P : Program} {w : World} {A : Around} {E : Value → Shared → Prop} {s : Shared} {x : Value} {Q : Value → Shared → Prop} (h : wpAny (model P w) A.in1.in1 (truthy x) (fun b s' => Q (.bool b) s') E s) :
    wpAny (model P w) A (call (.type "bool") [x]) Q E s := by
  refine callType_newIn (S := fun A R s => wpAny (model P w) A.in1 (truthy x) (fun b s' => R (.ok (.ret (.bool b))) s') (fun e s' => R (.error e) s') s) PySem.F.called_bool (by decide +kernel) (PySem.F.typeCall_bool_1 x) (PySem.F.newCall_bool_1 x) (fun o => PySem.F.args_object_init_2 o x) PySem.F.entry_bool_new ?_ ?_
  · intro A R s h
    unfold Builtin.«bool.__new__»
    have hsm : someArgs "bool" 0 1 { pos := [x] } = pure [x] := by rfl
    have hty : isType (Value.type "bool") = pure true := by rfl
    have hsub := PySem.F.called_bool.sub
    show wpAny _ _ (do let __do_lift ← isType (Value.type "bool"); _) _ _ _
    rw [hty, pure_bind]
    simp only [hsub, hsm, pure_bind, Bool.not_true, Bool.false_eq_true, if_false]
    refine wpAny_bind (wpAny_mono h (fun b s1 hb => ?_) fun _ _ z => z)
    exact wpAny_pure hb
  · exact wpAny_mono h (fun b s' q => ⟨PySem.typeIs_bool _ _, q⟩) fun _ _ z => z
open L2
open SlX (cmpback run_at)
section
variable {X : Cx} {C g : Addr} {n : Nat} {sp : Sp} {E : XK} {CX : CXT}
/-- bool(x), x of the class at C with an own __bool__ -/
def rBoolI (C : Addr) (sp : Sp) (E : XK) : List V → Hp → VK → Prop := fun xs H Q => ∃ a dx fs, xs = [.ref a] ∧ H a = some (.ins C dx fs) ∧ sp xs H (fun z H' => ∃ b, z = .bl b ∧ Q (.bl b) H') E
theorem call_boolI (hs : PySem.W.findIn X.K (.ref C) "__bool__" = some (some (.ref g))) (hf : PySem.W.isFn X.K (.ref g) = true) (F : FnR X.prog X.w X.K X.mg X.base CX n g sp)
    (hr : Room (n + 2) X.A) (hx : Passes CX X E) : CallR X (.type "bool") (rBoolI C sp E) := by
  intro pins s σ H xs us Q I r h
  obtain ⟨a, dx, fs, rfl, ha, q⟩ := h
  obtain ⟨u, rfl, ru⟩ := r.one
  cases (show u = Value.ref a from ru)
  obtain ⟨od, J⟩ := ins_inst I ha
  obtain ⟨m, hF⟩ := I.fr
  have hr2 : Room n X.A.in1.in1 := (show Room (n + 1) X.A.in1 from Room.in1 hr).in1
  refine call_bool_tru (PySem.W.truthy_K hF I.ok.mod.kin J hs hf (wpAny_mono (wpAny_call (run_at (us := [.ref a]) (ws := [.ref a]) F hr2 I.env0.in1.in1 hx I (.cons rfl .nil) q)) (fun w s' z => ?_) fun _ _ x => x))
  obtain ⟨z', H', I', rz, b, eb, qz⟩ := z
  subst eb
  cases (show w = Value.bool b from rz)
  exact ⟨.bl b, H', I', rfl, qz⟩
/-- not x, as a value -/
def rNotR (r : V → Hp → (Bool → Hp → Prop) → Prop) : V → Hp → VK → Prop := fun x H Q => r x H fun b H' => Q (.bl (!b)) H'
theorem un_not {r : V → Hp → (Bool → Hp → Prop) → Prop} (h : TruR X r) : UnR X (unaryOp .Not) (rNotR r) := by
  intro pins s σ H x v Q I rx q
  unfold unaryOp
  refine wpAny_holding ?_
  show wpAny _ _ (do let b ← truthy v; pure (Value.bool !b)) _ _ _
  refine wpAny_bind (wpAny_mono (h pins s σ H x v _ I rx q) (fun b s' z => ?_) fun _ _ z => z)
  obtain ⟨H', I', q'⟩ := z
  exact wpAny_pure ⟨.bl (!b), H', I', rfl, q'⟩
/-- what stands on the right of a comparison: one of the class, a text, a whole number -/
inductive Right (K : PySem.W.Frag) (H : Hp) (C : Addr) : V → Prop
  | own {b dy : Addr} {gs : List (Str × V)} : H b = some (.ins C dy gs) → Right K H C (.ref b)
  | str (t : Str) : PySem.W.notFirst K C (.type "str") = true → Right K H C (.str t)
  | int (i : Int) : PySem.W.notFirst K C (.type "int") = true → Right K H C (.int i)
theorem right_looks {pins : List (Addr × Obj)} {σ : L2.St} {H : Hp} {s : Shared} {y : V} {u : Value} (I : Inv X pins σ H s) (r : RelV y u) (h : Right X.K H C y) : ∃ tb, PySem.W.Looks (model X.prog X.w) s.heap (typeOf u) tb ∧ PySem.W.notFirst X.K C tb = true := by
  cases h with
  | own e =>
    cases (show u = _ from r)
    obtain ⟨od, J⟩ := ins_inst I e
    exact ⟨_, J.type, by unfold PySem.W.notFirst; simp⟩
  | str t e =>
    obtain ⟨tk, rfl⟩ := (show ∃ tk, u = Value.str t tk from r)
    exact ⟨_, fun A Q E s' _ q => by show wpAny _ _ (pure (Value.type "str")) _ _ _; exact wpAny_pure q, e⟩
  | int i e =>
    obtain ⟨tk, rfl⟩ := (show ∃ tk, u = Value.int i tk from r)
    exact ⟨_, fun A Q E s' _ q => by show wpAny _ _ (pure (Value.type "int")) _ _ _; exact wpAny_pure q, e⟩
def rCmpA (K : PySem.W.Frag) (C : Addr) (sp : Sp) (E : XK) : R2 := fun x y H Q => ∃ a dx fs, x = .ref a ∧ H a = some (.ins C dx fs) ∧ Right K H C y ∧ sp [x, y] H Q E
theorem op_cmpA {op : CmpOp} (hop : ∀ a b, compareOp op a b = richCompare op a b) (hs : PySem.W.findIn X.K (.ref C) (cmpInfo op).2.1 = some (some (.ref g))) (hf : PySem.W.isFn X.K (.ref g) = true) (F : FnR X.prog X.w X.K X.mg X.base CX n g sp)
    (hr : Room n X.A) (hx : Passes CX X E) : OpR X (compareOp op) (rCmpA X.K C sp E) := by
  intro pins s σ H x y v u Q I rx ry h
  obtain ⟨a, dx, fs, rfl, ha, hy, q⟩ := h
  cases (show v = Value.ref a from rx)
  obtain ⟨od, J⟩ := ins_inst I ha
  obtain ⟨tb, hl, hn⟩ := right_looks I ry hy
  obtain ⟨m, hF⟩ := I.fr
  rw [hop]
  refine PySem.W.cmp_K (op := op) (tb := tb) hr.units0 hF I.ok.mod.kin J hl hn hs hf ?_
  refine wpAny_mono (wpAny_call (run_fnR (us := [.ref a, u]) (vs := [.ref a, y]) F hr hx I (.cons rfl (.cons ry .nil)) q)) (fun w s' z => ?_) fun _ _ x => x
  obtain ⟨z', H', I', rz, qz⟩ := z
  exact cmpback rz ⟨z', H', I', rz, qz⟩
def rNeA (K : PySem.W.Frag) (C : Addr) (sp : Sp) (E : XK) : R2 := fun x y H Q => ∃ a dx fs, x = .ref a ∧ H a = some (.ins C dx fs) ∧ Right K H C y ∧ sp [x, y] H (fun z H' => ∃ v, z = .bl v ∧ Q (.bl (!v)) H') E
theorem op_neA (hm : PySem.W.mroIn X.K C (.type "object") = some true) (hne : PySem.W.findIn X.K (.ref C) "__ne__" = some (some (.builtin "object.__ne__"))) (hs : PySem.W.findIn X.K (.ref C) "__eq__" = some (some (.ref g))) (hf : PySem.W.isFn X.K (.ref g) = true)
    (F : FnR X.prog X.w X.K X.mg X.base CX n g sp) (hr : Room (n + 1) X.A) (hx : Passes CX X E) : OpR X (compareOp .NotEq) (rNeA X.K C sp E) := by
  intro pins s σ H x y v u Q I rx ry h
  obtain ⟨a, dx, fs, rfl, ha, hy, q⟩ := h
  cases (show v = Value.ref a from rx)
  obtain ⟨od, J⟩ := ins_inst I ha
  obtain ⟨tb, hl, hn⟩ := right_looks I ry hy
  refine rc_ne_own (tb := tb) hr.units0 hr.in1.units0 I.kIn J hl hn hm hne hs hf ?_
  refine wpAny_mono (wpAny_call (run_at (us := [.ref a, u]) (ws := [.ref a, y]) F hr.in1 I.env0.in1 hx I (.cons rfl (.cons ry .nil)) q)) (fun w s' z => ?_) fun _ _ x => x
  obtain ⟨z', H', I', rz, b', eb, qz⟩ := z
  subst eb
  cases (show w = Value.bool b' from rz)
  exact ⟨b', rfl, .bl (!b'), H', I', rfl, qz⟩
end
/-- isinstance(x, C): x one of the class, or of another kind -/
def rIsA (K : PySem.W.Frag) (C : Addr) : List V → Hp → VK → Prop := fun xs H Q => (∃ a dx fs, xs = [.ref a, .ref C] ∧ H a = some (.ins C dx fs) ∧ Q (.bl true) H) ∨ rIsi K xs H Q
theorem call_isA {X : Cx} {C : Addr} (h : C8.InsC X.K C) : CallR X (.builtin "isinstance") (rIsA X.K C) := by
  intro pins s σ H xs us Q I r q
  rcases q with q | q
  · exact C8.call_isC h pins s σ H xs us Q I r q
  · exact call_isi pins s σ H xs us Q I r q
theorem op_in_seqK {X : Cx} {K : PySem.W.Frag} (h : X.K = K) : OpR X (compareOp .In) (rIn K false) := h ▸ op_in_seq
theorem kit_ofT {K : PySem.W.Frag} {n : String} {S : Addr} {b : Bool} (h2 : PySem.W.isClsIn K S = true) (h3 : PySem.W.typeIn K (.ref S) = some (.type "type")) (h4 : PySem.W.subIn K (.type n) (.ref S) = some b) : PySem.W.kitOne K (.type n) (.ref S) = some b := by
  have e2 : ((PySem.W.clsIn K S).isSome && PySem.W.typeIn K (.ref S) == some (.type "type")) = true := by
    rw [show (PySem.W.clsIn K S).isSome = true from h2, h3] <;> rfl
  unfold PySem.W.kitOne
  rw [if_neg (show ¬ (Value.type n == Value.ref S) = true by simp)]
  show (if ((PySem.W.clsIn K S).isSome && PySem.W.typeIn K (.ref S) == some (.type "type")) = true then PySem.W.subIn K (.type n) (.ref S) else none) = some b
  rw [if_pos e2]
  exact h4
end FR
set_option Elab.async false
set_option linter.all false
set_option maxRecDepth 100000
/-! cls(..) where cls is a local; classmethods -/
namespace FR
open PySem PySem.Spec PyProof.Rows L2 TL
section
variable {X : Cx} {CX : CXT} {k : Nat} {f C : Addr} {fd : FuncData} {ps : List Str} {sp : Sp} {dvs : List V} {ds : List Value} {E : XK} {x : Str} {p pos : Pos} {i : Nat}
def tMakeL (i : Nat) (C : Addr) (sp : Sp) (dvs : List V) (E : XK) (t : TA) : TE := fun σ H Q => σ[i]? = some (some (.ref C)) ∧ tMake C sp dvs E t σ H Q
theorem pe_makeL0 (hv : PE X (.Name x p) (tVar i)) (M : Mk X.K C f) (F : FnOk X.prog X.w X.K X.mg X.base CX k f fd ps sp) (hr : Room (k + 1) X.A) (hb : Binds X.K fd ps ds) (hd : Vals dvs ds) (hx : Passes CX X E) :
    PE X (.Call (.Name x p) [] [] pos) (tMakeL i C sp dvs E tNil) := by
  refine ⟨fun pins s σ H Q I h => ?_⟩
  obtain ⟨h1, h2⟩ := h
  refine wpAny_Call_Name_kw (thn (hv.run pins s σ H (fun v H' => v = .ref C ∧ tMake C sp dvs E tNil σ H' Q) I ⟨_, h1, rfl, h2⟩) fun u s1 hh => ?_)
  obtain ⟨v, H1, I1, r1, rfl, q⟩ := hh
  cases (show u = Value.ref C from r1)
  refine PySem.W.callWith_K0 I1.kIn M.kp ?_
  exact run_make (us := []) (vs := []) M F hr hb hd hx I1 .nil q
theorem pe_makeL {e : Expr} {es : List Expr} {t : TA} (hv : PE X (.Name x p) (tVar i)) (M : Mk X.K C f) (F : FnOk X.prog X.w X.K X.mg X.base CX k f fd ps sp) (hr : Room (k + 1) X.A) (hb : Binds X.K fd ps ds) (hd : Vals dvs ds) (hx : Passes CX X E) (ha : PA X (e :: es) t)
    (he : starEach (e :: es) X.env = (false, eval e X.env) :: starEach es X.env := by rfl) (hpl : (backTo pos (starEach es X.env)).any (·.1) = false := by rfl) :
    PE X (.Call (.Name x p) (e :: es) [] pos) (tMakeL i C sp dvs E t) := by
  refine ⟨fun pins s σ H Q I h => ?_⟩
  obtain ⟨h1, h2⟩ := h
  refine wpAny_Call_Name_kw (thn (hv.run pins s σ H (fun v H' => v = .ref C ∧ tMake C sp dvs E t σ H' Q) I ⟨_, h1, rfl, h2⟩) fun u s1 hh => ?_)
  obtain ⟨v, H1, I1, r1, rfl, q⟩ := hh
  cases (show u = Value.ref C from r1)
  refine PySem.W.callWith_K (h₀ := X.base) I1.ok.mod.kin M.kp (thn (ha.run pos pins s1 σ H1 _ I1 q) fun us s2 hz => ?_) he hpl
  obtain ⟨vs, H2, I2, r2, q2⟩ := hz
  exact ⟨I2.kIn, run_make (us := us) (vs := vs) M F hr hb hd hx I2 r2 q2⟩
end
end FR
set_option Elab.async false
set_option linter.all false
set_option maxRecDepth 100000
set_option maxHeartbeats 4000000
/-! set(x) of any text of seven bits; its len -/
namespace FR
open PySem PySem.Spec PyProof.Rows PySem.Froz
/-- the signs that were met, each once -/
def meet (l : List Str) (cs : List Nat) : List Str := cs.foldl (fun l c => if sing c ∈ l then l else sing c :: l) l
section
variable {P : Program} {w : World} {A : Around} {E : Value → Shared → Prop}
/-- a text that is there already -/
theorem add_there {s : Shared} {a : Addr} {T : String} {D : SD} {l : List Str} {k : Str} {u : Tok} {Q : Bool → Shared → Prop} (at_ : s.heap.get? a = some (sObj T D)) (F : TxOk P w D l) (m : k ∈ l) (room : l.length < scanBound) (q : Q false s) :
    wpAny (model P w) A (setAddHashed a (.str k u) (hashStr w k)) Q E s := by
  obtain ⟨es, ep, t⟩ := D
  have data : (sObj T (es, ep, t)).data = .set es ep t := rfl
  have small : es.size < scanBound := by
    have : es.size = l.length := F.sz
    omega
  have key : (strKind P w).is k (.str k u) = true := is_str k u
  obtain ⟨j, hj⟩ : ∃ j, List.findIdx? (fun e => (strKind P w).is k e.2) es.toList = some j := by
    cases z : List.findIdx? (fun e => (strKind P w).is k e.2) es.toList with
    | some j => exact ⟨j, rfl⟩
    | none =>
      obtain ⟨e, he, y⟩ := (F.mem k).mp m
      have := List.findIdx?_eq_none_iff.mp z e he
      rw [y] at this
      cases this
  unfold setAddHashed setAddHashedIn
  refine wpAny_holding (wpAny_bind (wpAny_setState_of at_ data F.fit ?_))
  dsimp only
  rw [byScan_of rfl small F.el, if_pos rfl]
  unfold setAddByScan
  refine wpAny_bind (wpAny_bind (wpAny_rule (wpAny_bind (wpAny_setScan_of (knd := strKind P w) (k := k) key at_ data F.fit F.el ?_))))
  rw [hj]
  exact wpAny_pure (wpAny_pure q)
/-- the rest of a text's signs into the set -/
theorem upd_signs {R : Result → Shared → Prop} {a it : Addr} (ne : a ≠ it) {T : String} {x : Str} {u : Tok} (hh : A.handled = none) : ∀ (cs : List Nat) (i : Nat) (D : SD) (l : List Str) (s : Shared), x.cps.toList.drop i = cs →
    s.heap.get? a = some (sObj T D) → s.heap.get? it = some (itObj x u i) → TxOk P w D l → l.length + cs.length < scanBound →
    (∀ (D' : SD) (h' : Heap) (tk : Nat), TxOk P w D' (meet l cs) → h'.get? a = some (sObj T D') → (∀ b o, b ≠ a → b ≠ it → s.heap.get? b = some o → h'.get? b = some o) → R (.ok (.ret .none)) { s with heap := h', toks := tk }) →
    codeAny (model P w) A (.builtin "set.update.loop" ⟨[.ref a, .ref it], []⟩) R s
  | [], i, D, l, s, dr, ha, hit, F, room, q => by
    refine codeAny_builtin PyProof.Rows.F.entry_set_update_loop ?_
    rw [Around.under_plainId PyProof.Rows.F.plain_set_update_loop _]
    show wpAny _ A.in1 (pyNext (.ref it) >>= fun _ => _) _ _ s
    refine wpAny_bind (end_x (u := u) (by exact hh) hit (at_end dr) ?_)
    show wpAny _ A.in1 (ret Value.none) _ _ _
    refine wpAny_pure (q D _ _ F (Heap.get?_push_of_some _ (Heap.get?_push_of_some _ (PySem.Heap.get?_update_of_ne _ (Ne.symm ne) ha))) fun b o _ n2 e => ?_)
    exact Heap.get?_push_of_some _ (Heap.get?_push_of_some _ (PySem.Heap.get?_update_of_ne _ (Ne.symm n2) e))
  | c :: r, i, D, l, s, dr, ha, hit, F, room, q => by
    obtain ⟨hx, dr2⟩ := at_of dr
    have room2 : l.length + (r.length + 1) < scanBound := room
    have move : ∀ b o, b ≠ it → s.heap.get? b = some o → (s.heap.update it (fun _ => itObj x u (i + 1))).get? b = some o := fun b o n e => PySem.Heap.get?_update_of_ne _ (Ne.symm n) e
    refine codeAny_builtin PyProof.Rows.F.entry_set_update_loop ?_
    rw [Around.under_plainId PyProof.Rows.F.plain_set_update_loop _]
    show wpAny _ A.in1 (pyNext (.ref it) >>= fun _ => _) _ _ s
    refine wpAny_bind (next_x (u := u) hit hx ?_)
    show wpAny _ A.in1 (holding [Value.str (sing c) s.toks] (setAdd a (.str (sing c) s.toks)) >>= fun _ => _) _ _ _
    refine wpAny_bind (wpAny_holding ?_)
    unfold setAdd
    refine wpAny_holding (wpAny_bind ((strKind P w).pyHash (k := sing c) (is_str _ _) ?_))
    have ha1 := move a _ ne ha
    have hit1 : (s.heap.update it (fun _ => itObj x u (i + 1))).get? it = some (itObj x u (i + 1)) := get_upd _ hit rfl
    by_cases m : sing c ∈ l
    · refine add_there (s := { s with heap := s.heap.update it (fun _ => itObj x u (i + 1)), toks := s.toks + 1 + 1 }) ha1 F m (by omega) ?_
      refine wpAny_pure ⟨plainId_quiet PyProof.Rows.F.plain_set_update_loop _, upd_signs ne hh r (i + 1) D l _ dr2 ha1 hit1 F (by omega) fun D' h' tk F' a' k' => ?_⟩
      exact q D' h' tk (by unfold meet at F' ⊢; rw [List.foldl_cons, if_pos m]; exact F') a' fun b o n1 n2 e => k' b o n1 n2 (move b o n2 e)
    · refine add_x (l := l) (D := D) (s := { s with heap := s.heap.update it (fun _ => itObj x u (i + 1)), toks := s.toks + 1 + 1 }) ha1 F m (by omega) ?_
      have ha2 : ((s.heap.update it (fun _ => itObj x u (i + 1))).update a (fun _ => sObj T (addTx (hashStr w (sing c)) (.str (sing c) s.toks) D))).get? a = some (sObj T (addTx (hashStr w (sing c)) (.str (sing c) s.toks) D)) := get_upd _ ha1 rfl
      have hit2 : ((s.heap.update it (fun _ => itObj x u (i + 1))).update a (fun _ => sObj T (addTx (hashStr w (sing c)) (.str (sing c) s.toks) D))).get? it = some (itObj x u (i + 1)) := PySem.Heap.get?_update_of_ne _ ne hit1
      refine wpAny_pure ⟨plainId_quiet PyProof.Rows.F.plain_set_update_loop _, upd_signs ne hh r (i + 1) _ (sing c :: l) _ dr2 ha2 hit2 (add_ok s.toks F) (by show l.length + 1 + r.length < scanBound; omega) fun D' h' tk F' a' k' => ?_⟩
      exact q D' h' tk (by unfold meet at F' ⊢; rw [List.foldl_cons, if_neg m]; exact F') a' fun b o n1 n2 e => k' b o n1 n2 (PySem.Heap.get?_update_of_ne _ (Ne.symm n1) (move b o n2 e))
theorem call_set_any {s : Shared} {x : Str} {u : Tok} {Q : Value → Shared → Prop} (hh : A.handled = none) (ha : x.cps.all (· < 128) = true) (hb : x.cps.toList.length < scanBound)
    (h : ∀ (h' : Heap) (tk : Nat) (D : SD), h'.get? s.heap.objs.size = some (sObj "set" D) → TxOk P w D (meet [] x.cps.toList) → (∀ b o, b < s.heap.objs.size → s.heap.get? b = some o → h'.get? b = some o) →
      Q (.ref s.heap.objs.size) { s with heap := h', toks := tk }) :
    wpAny (model P w) A (call (.type "set") [.str x u]) Q E s := by
  obtain ⟨c, tl, hmro⟩ := PySem.F.called_set.mro
  have hmade := PySem.F.called_set.made
  have hsub := PySem.F.called_set.sub
  refine wpAny_call (codeAny_of_tree ?_)
  show wpAny _ _ (callAny (.type "set") _) _ _ _
  refine wpAny_pure ⟨Code.quiet_builtin _ (by decide +kernel), codeAny_builtin PySem.F.entry_type_call ?_⟩
  rw [Around.under_plain (weight_type_call_type "set" [.str x u] []) rfl]
  have h1 := PySem.F.called_set.notType
  have h2 := PySem.F.called_set.canCreate
  have hct := PySem.F.typeCall_set_1 (.str x u)
  repeat (any_goals (first | assumption | wp_step))
  let S0 : Bool → Obj := fun led => { cls := .type "set", dict := none, data := .set #[] 0 (.fresh 0 0 led) }
  refine codeAny_mono (code_set_new_1 (.str x u) (E := E) (Q₁ := fun obj s1 => ∃ led : Bool, obj = .ref s.heap.objs.size ∧ s1 = { s with heap := s.heap.push (S0 led) }) fun led => ⟨led, rfl, rfl⟩) fun r s1 hr => ?_
  match r, hr with
  | .error e, hr => exact hr
  | .ok (.ret obj), hr =>
    obtain ⟨led, rfl, rfl⟩ := hr
    have hS : (s.heap.push (S0 led)).get? s.heap.objs.size = some (S0 led) := Heap.get?_push_size _ rfl
    have hT : Shared.TypeIs { s with heap := s.heap.push (S0 led) } (.ref s.heap.objs.size) "set" := ⟨_, hS, rfl⟩
    have hli := PySem.F.called_set.init.lookup
    have hbi := PySem.F.called_set.init.bind (.ref s.heap.objs.size)
    repeat (any_goals (first | assumption | wp_step))
    refine codeAny_mono (codeAny_call_builtin (R := wants (fun r s2 => r = .none ∧ ∃ (h' : Heap) (tk : Nat) (D : SD), s2 = { s with heap := h', toks := tk } ∧ h'.get? s.heap.objs.size = some (sObj "set" D) ∧ TxOk P w D (meet [] x.cps.toList) ∧
      (∀ b o, b < s.heap.objs.size → s.heap.get? b = some o → h'.get? b = some o)) E) PySem.F.called_set.init.plain PySem.F.entry_set_init (check_set_init_1 hT ?_)) fun r2 s2 hr2 => ?_
    · have hs1 := PySem.F.sub_str_set
      have hs2 := PySem.F.sub_str_frozenset
      have hne : (Value.type "str" == Value.type "dict") = false := by decide
      unfold Builtin.«set.__init__» noKeywords Builtin.Frozenset.updateFrom
      generalize hPI : pyIter = PI
      wp_walk
      subst hPI
      refine wpAny_pyIter_ascii ha ?_
      refine wpAny_bind (wpAny_runValue ?_)
      have hsz : (s.heap.push (S0 led)).objs.size = s.heap.objs.size + 1 := Heap.size_push ..
      have hne2 : s.heap.objs.size ≠ (s.heap.push (S0 led)).objs.size := by omega
      have F0 : TxOk P w (#[], 0, .fresh 0 0 led) [] := TxOk.nil (by rfl)
      refine upd_signs (T := "set") (x := x) (u := u) (P := P) (w := w) hne2 (by simp [hh]) x.cps.toList 0 (#[], 0, .fresh 0 0 led) [] _ rfl (Heap.get?_push_of_some _ hS) (Heap.get?_push_size _ rfl) F0 (by simpa using hb) fun D' h' tk F' a' k' => ?_
      show wpAny _ _ (pure ()) _ _ _
      refine wpAny_pure ?_
      show wpAny _ _ (ret Value.none) _ _ _
      refine wpAny_pure ⟨rfl, _, _, D', rfl, a', F', fun b o hb2 e => ?_⟩
      have n1 : b ≠ s.heap.objs.size := Nat.ne_of_lt hb2
      have n2 : b ≠ (s.heap.push (S0 led)).objs.size := by omega
      exact k' b o n1 n2 (Heap.get?_push_of_some _ (Heap.get?_push_of_some _ e))
    · match r2, hr2 with
      | .error e, hr2 => exact hr2
      | .ok (.ret r), hr2 =>
        obtain ⟨rfl, h', tk, D, rfl, g1, g2, g4⟩ := hr2
        repeat (any_goals (first | assumption | wp_step))
        exact h _ _ _ g1 g2 g4
      | .ok .next, hr2 => exact hr2.elim
      | .ok .brk, hr2 => exact hr2.elim
      | .ok .cont, hr2 => exact hr2.elim
  | .ok .next, hr => exact hr.elim
  | .ok .brk, hr => exact hr.elim
  | .ok .cont, hr => exact hr.elim
end
section
open L2
theorem meet_len : ∀ (cs : List Nat) (l : List Str), (meet l cs).length ≤ l.length + cs.length
  | [], l => Nat.le_refl _
  | c :: r, l => by
    unfold meet
    rw [List.foldl_cons]
    have h1 := meet_len r l
    have h2 := meet_len r (sing c :: l)
    unfold meet at h1 h2
    split
    · simp only [List.length_cons] at h1 ⊢; omega
    · simp only [List.length_cons] at h2 ⊢; omega
def tLenSetA (ta : TE) : TE := fun σ H Q => ta σ H fun x H1 => ∃ t : Str, x = .str t ∧ t.cps.all (· < 128) = true ∧ t.cps.toList.length ≤ 4000 ∧ Q (.int ((meet [] t.cps.toList).length : Nat)) H1
/-- len(set(e)), e a text -/
theorem pe_lenSetA {X : Cx} {a : Expr} {ta : TE} {p p2 q pos : Pos} (hg : Gl X "len") (hm : X.mg "len" = none) (hg2 : Gl X "set") (hm2 : X.mg "set" = none) (ha : PE X a ta) (hc : X.calm = true := by rfl)
    (na : starEach [a] X.env = (false, eval a X.env) :: starEach [] X.env := by rfl) : PE X (.Call (.Name "len" p) [.Call (.Name "set" p2) [a] [] q] [] pos) (tLenSetA ta) := by
  refine ⟨fun pins s σ H Q I h => ?_⟩
  refine Call_ (ld_blt I hg hm boot_len ?_)
  refine PyProof.Rows.callWith_builtin1 (PyProof.Rows.args_cons ?_ rfl) rfl rfl
  refine Call_ (ld_blt I hg2 hm2 (show bootBuiltins ("set" : Str) = some (.type "set") by decide +kernel) ?_)
  refine PyProof.Rows.callWith_type1 (PyProof.Rows.args_cons (thn (ha.run pins s σ H _ I h) fun v s1 ⟨x, H1, I1, r1, q1⟩ => PyProof.Rows.args_nil ?_) na) na rfl
  obtain ⟨t, rfl, h1, h3, q1⟩ := q1
  obtain ⟨tk0, rfl⟩ := r1
  refine call_set_any (I1.ok.hd hc) h1 (by unfold scanBound; omega) fun h' tk D g1 F hk => ?_
  refine PyProof.Rows.args_nil ?_
  have I2 : Inv X pins σ H1 { s1 with heap := h', toks := tk } := I1.kept fun b o e => hk b o (Heap.lt_size e) e
  have hn : D.1.size = (meet [] t.cps.toList).length := F.sz
  have hl := meet_len t.cps.toList []
  simp only [List.length_nil, Nat.zero_add] at hl
  exact call_len_set (es := D.1) (ep := D.2.1) (t := D.2.2) g1 ⟨rfl, rfl, rfl⟩ rfl F.fit (by rw [hn]; omega) ⟨.int (meet [] t.cps.toList).length, H1, I2.tok _, ⟨_, by rw [hn]⟩, q1⟩
end
end FR
set_option Elab.async false
set_option linter.all false
set_option maxRecDepth 100000
set_option maxHeartbeats 2000000
/-! a lambda handed to a def, where no repr is under way -/
namespace FR
open PySem PySem.Spec PyProof.Rows L2 TL LamX
section
variable {X : Cx} {σ : L2.St} {H : Hp} {s : Shared} {params : Arguments} {body : Expr} {scope : Scope} {f c' : Addr} {pm ctv : Value} {pins : List (Addr × Obj)}
/-- the lambda's own run, at the around Y -/
theorem lam_run {Y : Around} {outer : List Env} {s1 : Shared} {HZ : Hp} {E : XK} {Q : VK} {tb : TE} {k : Nat} (I : Inv X pins σ H s) (L : LamS X.env.scope scope)
    (hb : bindArgs (PySem.W.kla_fn "<lambda>" (X.env.qual ++ "<lambda>") params body scope (cloFrom X.env.cells scope.names []) pm (.ref c') ctv) ⟨[], []⟩ = pure [])
    (e0 : Env0 X.prog X.w X.K X.mg X.base Y outer s1 HZ) (nl : s1.heap.NoLimit) (hd : Y.handled = none) (hr : Room (k + 1) Y) (un : Un (frs X.stack) [] H HZ s.heap s1.heap)
    (at_ : s1.heap.get? f = some (PySem.W.kla_obj "<lambda>" (X.env.qual ++ "<lambda>") params body scope (cloFrom X.env.cells scope.names []) pm c' ctv)) (hc : HZ c' = some (CodeO c' (X.env.qual ++ "<lambda>")))
    (P : PE (lamCx X Y outer s1 HZ E scope f c') body tb) (ht : tb σ HZ Q) : codeAny (model X.prog X.w) Y (.call (.ref f) ⟨[], []⟩) (CR (L2.CX X.prog X.w) outer X.prog X.w HZ s1 Q E) s1 := by
  obtain ⟨oc, vs, t, g1, g2, g3⟩ := (e0.hok c' _ hc).1
  refine PySem.W.kla_callFunE hr.depth at_ rfl L.co L.gen rfl ⟨c', oc, vs, t, rfl, g1, g2, g3⟩ ?_
  rw [hb]
  refine wpAny_pure (wpAny_newFunctionEnv (fun y hy => (L.own y hy).2) (fun y hy => absurd hy (by simp)) (fun h1 ns same => ⟨nl.fresh _ same, ?_⟩) L.kind)
  have up : ∀ b o, s1.heap.get? b = some o → h1.get? b = some o := fun b o e => same.extBut b o (Nat.ne_of_lt (Heap.lt_size e)) (Heap.get?_push_of_some _ e)
  have J := lam_start2 (E := E) (f := f) (c' := c') (tk := s1.toks + ([] : List (Str × Value)).length) I L e0 hd un ns up
  show codeAny _ _ (.expr body (lamEnv X scope s1.heap.objs.size f c')) _ _
  refine PySem.W.kla_codeExpr (wpAny_mono (P.run [] _ _ HZ Q J ht) (fun v s2 z => ?_) fun _ _ z => z)
  obtain ⟨u, H2, J2, ru, qu⟩ := z
  exact ⟨u, H2, J2.os, J2.bare, J2.base, J2.hok, ru, qu⟩
/-- a() in the def that got the lambda -/
def tAct (f c' : Addr) (q : Str) (i : Nat) (tl : XK → Hp → VK → Prop) (W : WX) : TE := fun σZ HZ Q => σZ[i]? = some (some (.ref f)) ∧ HZ c' = some (CodeO c' q) ∧ tl (WE W σZ) HZ Q
end
/-- a def that is handed a lambda and calls it: TT is what it makes of the lambda's reading -/
def Gives (X : Cx) (N : List Str) (x : Str) (sc : Scope) (g : Addr) (cd : Value) (b : List Stmt) (a : Str) (q : Str) (TT : (XK → Hp → VK → Prop) → Hp → VK → Prop) : Prop :=
  ∀ (f c' : Addr) (s : Shared) (H : Hp) (Q : VK) (tl : XK → Hp → VK → Prop),
    (∀ (W : WX) (pn : List (Addr × Obj)) (xe : Value → Shared → Prop) (p1 p2 : Pos), Takes ((cxOf CX0 X.prog X.w X.K X.mg X.base N x sc g cd X.A X.stack s H fun _ _ _ => False).tr pn xe) W →
      PE ((cxOf CX0 X.prog X.w X.K X.mg X.base N x sc g cd X.A X.stack s H fun _ _ _ => False).tr pn xe) (.Call (.Name a p1) [] [] p2) (tAct f c' q 0 tl W)) →
    Room 1 (X.A.deeper (envOfC x sc s.heap.objs.size g cd)) → H c' = some (CodeO c' q) → TT tl H Q →
    ∃ t, PSs (cxOf CX0 X.prog X.w X.K X.mg X.base N x sc g cd X.A X.stack s H fun _ _ _ => False).nox b t ∧ t { nx := fun _ H' => Q .non H', rt := Q } (L2.start N [.ref f]) H
/-- x(lambda: body) -/
def tGive (T : List (Addr × Str)) (TT : (XK → Hp → VK → Prop) → Hp → VK → Prop) (t : XK → TE) : TE := fun σ H Q => Tabs T H ∧ ∀ H1, ExtN H H1 → Tabs T H1 → TT (fun E H' Q' => t E σ H' Q') H1 Q
section
variable {X : Cx}
theorem pe_give {T : List (Addr × Str)} {TT : (XK → Hp → VK → Prop) → Hp → VK → Prop} {x a : Str} {g c P : Addr} {k : Nat} {st : Stmt} {fd : FuncData} {N : List Str} {params : Arguments} {body : Expr} {scope : Scope} {t : XK → TE} {p lp pos : Pos}
    (hgd : X.A.guards = some []) (hr : Room (k + 2) X.A) (F : Fun X.K x x st g fd) (B : Binds X.K fd [a] []) (S : FnScope N [a] (defScope st)) (hN : N[0]? = some a) (hv : Vis (defScope st) a) (hg : Gl X x) (hm : X.mg x = some (.ref g)) (hk : PySem.W.keepIn X.K (.ref g) = true)
    (G : ∀ cd, Gives X N x (defScope st) g cd (defBody st) a (X.env.qual ++ "<lambda>") TT)
    (TB : TabB X.base X.mg c P) (hcode : X.env.code = .ref c) (hT : (P, X.env.qual ++ "<lambda>") ∈ T) (hu : ∀ p ∈ T, p.1 = P → p.2 = X.env.qual ++ "<lambda>") (L : LamS X.env.scope scope) (hdef : defaultsOf params X.env = ([], []))
    (hb : ∀ (q : Str) (cl : List (Str × Addr)) (pm cv ctv : Value), bindArgs (PySem.W.kla_fn "<lambda>" q params body scope cl pm cv ctv) ⟨[], []⟩ = pure [])
    (hbody : ∀ (Y : Around) (outer : List Env) (s : Shared) (H : Hp) (E : XK) (f c' : Addr), Y.guards = some [] → Room k (Y.deeper (lamEnv X scope s.heap.objs.size f c')) → PE (lamCx X Y outer s H E scope f c') body (t E))
    (hdb : (x == ("__debug__" : Str)) = false := by decide) (hda : (a == ("__debug__" : Str)) = false := by decide) (hca : (a == ("__classdict__" : Str)) = false := by decide) :
    PE X (.Call (.Name x p) [.Lambda params body scope lp] [] pos) (tGive T TT t) := by
  refine ⟨fun pins s σ H Q I ⟨ht, h⟩ => wpAny_Call_Name_kw (ld_glob I hg hm (PySem.W.callWith_K (h₀ := X.base) I.ok.mod.kin hk ?_ (by rfl) (by rfl)) hdb)⟩
  show wpAny _ _ (spliced ((false, eval (.Lambda params body scope lp) X.env) :: backTo pos (starEach [] X.env))) _ _ s
  refine Calls.spliced_cons (lam_make2 I TB hcode hT hu ht hdef (L.has I.ok) fun f c' pm ctv H1 s1 I1 eN T1 hf hfn hfr hco => Calls.spliced_nil ⟨I1.kIn, ?_⟩)
  obtain ⟨oc, od, kV, doc, pm', an, cdv, ct, osl, rfl, lk, hcd⟩ := F.ex
  have rc : codeAny (model X.prog X.w) X.A (.call (.ref g) ⟨[.ref f], []⟩) (CR CX0 X.stack X.prog X.w H1 s1 Q fun _ _ _ => False) s1 := by
    refine run_ofS (N := N) (ps := [a]) (us := [.ref f]) (vs := [.ref f]) lk hcd S hr I1.env0 (B s1 [.ref f] I1.kIn rfl) (.cons rfl .nil) rfl fun hr1 => ?_
    have hr0 : Room 1 (X.A.deeper (envOfC x (defScope st) s1.heap.objs.size g cdv)) := hr1.mono (by omega)
    have act : ∀ (W : WX) (pn : List (Addr × Obj)) (xe : Value → Shared → Prop) (p1 p2 : Pos), Takes ((cxOf CX0 X.prog X.w X.K X.mg X.base N x (defScope st) g cdv X.A X.stack s1 H1 fun _ _ _ => False).tr pn xe) W →
        PE ((cxOf CX0 X.prog X.w X.K X.mg X.base N x (defScope st) g cdv X.A X.stack s1 H1 fun _ _ _ => False).tr pn xe) (.Call (.Name a p1) [] [] p2) (tAct f c' (X.env.qual ++ "<lambda>") 0 (fun E H' Q' => t E σ H' Q') W) := by
      intro W pn xe p1 p2 tk
      refine ⟨fun pinsZ sZ σZ HZ QZ IZ hz => ?_⟩
      obtain ⟨z1, z2, z3⟩ := hz
      refine wpAny_Call_Name_kw (thn ((pe_var (pos := p1) (i := 0) hN hv hda hca).run pinsZ sZ σZ HZ (fun v H2 => v = .ref f ∧ H2 = HZ) IZ ⟨.ref f, z1, rfl, rfl⟩) fun u s2 ⟨v, H2, I2, r2, q2⟩ => ?_)
      obtain ⟨rfl, rfl⟩ := q2
      obtain rfl : u = Value.ref f := r2
      have stay := I2.base.keep f _ hf hfn hfr (fun z => nomatch (show f ∈ ([] : List Addr) from z))
      refine PySem.W.callWith_F0 ⟨_, _, _, _, stay⟩ ?_
      have run2 : codeAny (model X.prog X.w) (X.A.deeper (envOfC x (defScope st) s1.heap.objs.size g cdv)) (.call (.ref f) ⟨[], []⟩) (CR (L2.CX X.prog X.w) (envOfC x (defScope st) s1.heap.objs.size g cdv :: X.stack) X.prog X.w H2 s2 QZ (WE W σZ)) s2 :=
        lam_run (X := X) (k := k) (tb := t (WE W σZ)) I1 L (hb _ _ _ _ _) I2.env0 I2.nolimit hr1.hd hr1 I2.base stay z2 (hbody _ _ s2 H2 (WE W σZ) f c' hgd (hr1.deeper _)) z3
      refine wpAny_call (codeAny_mono run2 fun r s3 hq => ?_)
      cases r with
      | error e => exact passAt tk σZ pinsZ H2 s2 e s3 I2 hq
      | ok fl =>
        cases fl with
        | ret u => exact I2.after hq
        | next => exact False.elim hq
        | brk => exact False.elim hq
        | cont => exact False.elim hq
    obtain ⟨t', a1, a2⟩ := G cdv f c' s1 H1 Q (fun E H' Q' => t E σ H' Q') act hr0 hco (h H1 eN T1)
    exact ⟨t', a1.nox, a2⟩
  refine wpAny_call (codeAny_mono rc fun r s2 hq => ?_)
  cases r with
  | error e => exact (show False from hq).elim
  | ok fl =>
    cases fl with
    | ret u => exact I1.after hq
    | next => exact False.elim hq
    | brk => exact False.elim hq
    | cont => exact False.elim hq
end
end FR
set_option Elab.async false
set_option linter.all false
set_option maxRecDepth 100000
set_option maxHeartbeats 4000000
/-! own operators with anything on the right; repr of any datum; what a raising call lets out; keys of a dict of the module -/
namespace FR
open PySem PySem.Spec PyProof.Rows L2 TL
section
variable {X : Cx}
theorem tk0 {X : Cx} : Takes X (fun _ _ _ _ => False) := fun u s' h => by
  obtain ⟨_, _, _, _, _, _, _, _, _, _, _, _, _, _, _, _, z⟩ := h
  exact z.elim
/-- nothing is let out -/
theorem px0 : Passes (L2.CX X.prog X.w) X (fun _ _ _ => False) := passes_call tk0 fun _ _ _ _ h => h
/-- let out of the def itself -/
theorem pxE {E : XK} (hs : X.stack = X.env :: X.outer) (hf : X.env.frame = some X.env.locals) (hex : X.ex = []) {E1 : Value → Shared → Prop}
    (hx : X.xe = fun e s' => wpAny (model X.prog X.w) X.A (leaving X.env e) (fun _ s'' => L2.CX X.prog X.w X.outer X.H_0 X.s_0 E e s'') E1 s') : Passes (L2.CX X.prog X.w) X E := passes_call (takes_of hs hf hex hx) fun _ _ _ _ h => h
def known (T : String) (nm : String) : Bool := (fastLookup T (dunder nm)).isSome && (fastLookup T (dunderR nm)).isSome
theorem fills_any {T nm : String} (h : known T nm = true) : ∃ r z, fillsNumberSlot (.type T) nm = pure r ∧ typeLookup (.type T) (dunderR nm) = pure z := by
  unfold known at h
  rw [Bool.and_eq_true] at h
  obtain ⟨a, ha⟩ := Option.isSome_iff_exists.mp h.1
  obtain ⟨b, hb⟩ := Option.isSome_iff_exists.mp h.2
  have e1 : typeLookup (.type T) (dunder nm) = pure a := by rw [typeLookup_type, builtinLookup_eq_fast, ha]
  have e2 : typeLookup (.type T) (dunderR nm) = pure b := by rw [typeLookup_type, builtinLookup_eq_fast, hb]
  unfold fillsNumberSlot
  simp only [e1, e2, pure_bind]
  exact ⟨_, _, rfl, rfl⟩
variable {C g : Addr} {n : Nat} {sp : Sp} {E : XK} {CX : CXT}
/-- x op y, x of the class at C; its def lets something out -/
def rBinX (K : PySem.W.Frag) (C : Addr) (nm : String) (sp : Sp) (E : XK) : R2 := fun x y H Q => ∃ a dx fs, x = .ref a ∧ H a = some (.ins C dx fs) ∧
  ((∃ b dy gs, y = .ref b ∧ H b = some (.ins C dy gs) ∧ sp [x, y] H Q E) ∨ ∃ T, TyX K H y (.type T) ∧ known T nm = true ∧ PySem.W.subIn K (.type T) (.ref C) = some false ∧ sp [x, y] H (fun _ _ => False) E)
theorem op_binX {op : Operator} (hc : PySem.W.selfFirst X.K C = true) (hs : PySem.W.findIn X.K (.ref C) (PySem.dunder op.info.2) = some (some (.ref g))) (hR : PySem.W.findIn X.K (.ref C) (PySem.dunderR op.info.2) = some none) (hf : PySem.W.isFn X.K (.ref g) = true)
    (F : FnR X.prog X.w X.K X.mg X.base CX n g sp) (hr : Room n X.A) (hx : Passes CX X E) : OpR X (binaryOp op) (rBinX X.K C op.info.2 sp E) := by
  intro pins s σ H x y v u Q I rx ry h
  obtain ⟨a, dx, fs, rfl, ha, ⟨b, dy, gs, rfl, hb, q⟩ | ⟨T, ty, kn, sub, q⟩⟩ := h
  · exact op_binI hc hs hf F hr hx pins s σ H _ _ v u Q I rx ry ⟨a, dx, fs, b, dy, gs, rfl, rfl, ha, hb, q⟩
  cases (show v = Value.ref a from rx)
  obtain ⟨od, J⟩ := ins_inst I ha
  obtain ⟨Pk, kx, hP, _⟩ := L2.kit_of I ry ty
  have KI := I.kIn
  have look := kx.ty (model X.prog X.w) s.heap KI hP
  obtain ⟨cd, hcd, hm⟩ := PySem.W.any_some hc
  obtain ⟨rest, hm⟩ : ∃ rest, cd.mro = .ref C :: rest := by
    cases z : cd.mro with
    | nil => rw [z] at hm; cases hm
    | cons c r => rw [z, List.head?_cons] at hm; cases (beq_iff_eq.mp hm); exact ⟨r, rfl⟩
  obtain ⟨r, z0, hfill, hz0⟩ := fills_any kn
  have run : wpAny (model X.prog X.w) X.A (callSpecial? (.ref a) (PySem.dunder op.info.2) [u]) (fun _ _ => False) X.xe s := by
    refine PySem.W.special_fn KI J hs (beq_iff_eq.mp hf) (wpAny_mono (wpAny_call (run_fnR (us := [.ref a, u]) (vs := [.ref a, y]) F hr hx I (.cons rfl (.cons ry .nil)) q)) (fun w s' z => ?_) fun _ _ z => z)
    obtain ⟨_, _, _, _, z⟩ := z
    exact z
  have fin : ∀ {α : Type} (f : Option Value → Sem α) (Q' : α → Shared → Prop), wpAny (model X.prog X.w) X.A (tryMethod (.ref a) (PySem.dunder op.info.2) u >>= f) Q' X.xe s := fun f Q' => by
    refine wpAny_bind ?_
    unfold tryMethod
    exact wpAny_bind (wpAny_mono run (fun _ _ z => z.elim) fun _ _ z => z)
  unfold binaryOp
  refine wpAny_holding (wpAny_bind ?_)
  show wpAny _ _ (binaryOp1 op.info.2 (.ref a) u) _ _ _
  generalize op.info.2 = nm at *
  unfold binaryOp1
  refine wpAny_bind (J.type.here (wpAny_bind (look.here (wpAny_bind ((PySem.W.fills_K KI hcd hm hs).here ?_)))))
  have ne : (Value.ref C == Value.type T) = false := by simp
  simp only [ne, Bool.false_eq_true, if_false]
  rw [hfill]
  refine wpAny_bind (wpAny_pure ?_)
  cases r with
  | false =>
    simp only [Bool.and_false, Bool.false_eq_true, if_false, Bool.false_and, if_true, pure_bind]
    exact fin _ _
  | true =>
    simp only [Bool.and_self, Bool.not_false, if_true]
    refine wpAny_bind ((PySem.W.looks_subIn KI sub).here ?_)
    simp only [Bool.false_eq_true, if_false, Bool.not_false, Bool.and_self, if_true, pure_bind]
    refine wpAny_bind ?_
    unfold numberSlotInPython
    refine wpAny_bind ((PySem.W.looks_findIn KI hs).here ?_)
    refine wpAny_bind ?_
    refine wpAny_pure ?_
    refine wpAny_bind ((PySem.W.looks_findIn KI hR).here ?_)
    refine wpAny_bind (wpAny_pure ?_)
    simp only [Bool.or_false, if_true, Bool.true_or]
    refine wpAny_pure ?_
    simp only [if_true, pure_bind, Bool.not_false]
    rw [hz0]
    exact wpAny_bind (wpAny_pure (fin _ _))
/-- x op y (a comparison), x of the class at C, anything on the right -/
def rCmpX (K : PySem.W.Frag) (C : Addr) (sp : Sp) (E : XK) : R2 := fun x y H Q => ∃ a dx fs t, x = .ref a ∧ H a = some (.ins C dx fs) ∧ TyX K H y t ∧ PySem.W.notFirst K C t = true ∧ sp [x, y] H Q E
theorem op_cmpX {op : CmpOp} (hop : ∀ a b, compareOp op a b = richCompare op a b) (hs : PySem.W.findIn X.K (.ref C) (cmpInfo op).2.1 = some (some (.ref g))) (hf : PySem.W.isFn X.K (.ref g) = true) (F : FnR X.prog X.w X.K X.mg X.base CX n g sp)
    (hr : Room n X.A) (hx : Passes CX X E) : OpR X (compareOp op) (rCmpX X.K C sp E) := by
  intro pins s σ H x y v u Q I rx ry h
  obtain ⟨a, dx, fs, t, rfl, ha, ty, hn, q⟩ := h
  cases (show v = Value.ref a from rx)
  obtain ⟨od, J⟩ := ins_inst I ha
  obtain ⟨Pk, kx, hP, _⟩ := L2.kit_of I ry ty
  obtain ⟨m, hF⟩ := I.fr
  rw [hop]
  refine PySem.W.cmp_K (op := op) (tb := t) hr.units0 hF I.ok.mod.kin J (kx.ty _ _ I.kIn hP) hn hs hf ?_
  refine wpAny_mono (wpAny_call (run_fnR (us := [.ref a, u]) (vs := [.ref a, y]) F hr hx I (.cons rfl (.cons ry .nil)) q)) (fun w s' z => ?_) fun _ _ x => x
  obtain ⟨z', H', I', rz, qz⟩ := z
  exact SlX.cmpback rz ⟨z', H', I', rz, qz⟩
end
/-! ### repr -/
section
variable {X : Cx}
/-- repr of data, of a scalar too -/
def rReprS : List V → Hp → VK → Prop := fun xs H Q => rReprQ xs H Q ∨ (∃ i : Int, xs = [.int i] ∧ i.natAbs.log2 < 1920 ∧ Q (.str (PyData.shown (.int i))) H) ∨ (∃ b : Bool, xs = [.bl b] ∧ Q (.str (PyData.shown (.bool b))) H) ∨ (xs = [.non] ∧ Q (.str (PyData.shown .none)) H) ∨
  ∃ t : Str, xs = [.str t] ∧ (PyData.shown (.str t)).length ≤ sizeLine ∧ Q (.str (PyData.shown (.str t))) H
theorem call_reprX (hgd : X.A.guards = some []) (hu : X.A.units + 65 < cLine) : CallR X (.builtin "repr") rReprS := fun pins s σ H xs us Q I r h => by
  have fin : ∀ (t : Str) (u : Tok), Q (.str t) H → EP X pins σ Q (.str t u) { s with toks := s.toks + 1 } := fun t u q => ⟨.str t, H, I.tok _, ⟨_, rfl⟩, q⟩
  rcases h with h | ⟨i, rfl, hi, q⟩ | ⟨b, rfl, q⟩ | ⟨rfl, q⟩ | ⟨t, rfl, ht, q⟩
  · exact call_reprQ hgd hu pins s σ H xs us Q I r h
  · obtain ⟨u, rfl, k, rfl⟩ := r.one
    exact PySem.P.repr_of_int hi (fin _ _ q)
  · obtain ⟨u, rfl, ru⟩ := r.one
    cases (show u = Value.bool b from ru)
    exact PySem.P.repr_of_bool (fin _ _ (by cases b <;> exact q))
  · obtain ⟨u, rfl, ru⟩ := r.one
    cases (show u = Value.none from ru)
    exact PySem.P.repr_of_none (fin _ _ q)
  · obtain ⟨u, rfl, k, rfl⟩ := r.one
    exact PySem.P.repr_of_str (fin _ _ q) ht
end
/-! ### the keys of a dict of the module -/
theorem keys_miss {z : Str} : ∀ {ks : List Str} {l : List DictEntry}, Vals (ks.map V.str) (l.map (·.key)) → z ∉ ks → l.find? (·.key.isStr z) = none ∧ l.any (·.refKey) = false
  | [], l, h, _ => by
    cases l with
    | nil => exact ⟨rfl, rfl⟩
    | cons e r => cases h
  | k :: ks, l, h, hz => by
    cases l with
    | nil => cases h
    | cons e r =>
      cases h with
      | cons a b =>
        obtain ⟨t, ht⟩ := (show ∃ t, e.key = Value.str k t from a)
        obtain ⟨h1, h2⟩ := keys_miss b fun m => hz (List.mem_cons_of_mem _ m)
        have nk : k ≠ z := fun e => hz (by rw [e]; exact List.mem_cons_self)
        refine ⟨?_, ?_⟩
        · rw [List.find?_cons_of_neg (by rw [ht]; simp [Value.isStr, nk])]
          exact h1
        · rw [List.any_cons, h2]
          simp [DictEntry.refKey, ht]
theorem ns_miss {K : PySem.W.Frag} {d : Addr} {c : Value} {od : Option Addr} {es : Array DictEntry} {ep : Nat} {sl : Array (Option Value)} {ks : List Str} {z : Str} (hl : K.lookup d = some ⟨c, od, .dict es ep, sl⟩) (hv : Vals (ks.map V.str) (es.toList.map (·.key))) (hz : z ∉ ks) : PySem.W.nsIn K d z = some none := by
  obtain ⟨h1, h2⟩ := keys_miss hv hz
  unfold PySem.W.nsIn
  rw [hl]
  simp only [h1, h2, Bool.false_eq_true, if_false]
end FR
set_option Elab.async false
set_option linter.all false
set_option maxRecDepth 100000
/-! «x in texts» for anything; a list of anything beside the empty list -/
namespace FR
open PySem PySem.Spec PyProof.Rows L2 TL PySem.SeqAt
section
variable {X : Cx}
/-- what «v in the texts ws» gives -/
def InT (K : PySem.W.Frag) (H : Hp) (v : V) (ws : List Str) (r : Bool) : Prop := (flatV v = true ∧ inV v (ws.map V.str) = r) ∨ (∃ d, Dp K H v d ∧ SeqAt.shaped d = true ∧ SeqAt.shaped (.list (ws.map .str)) = true ∧ ((ws.map PyData.str).any fun z => PyData.eqv z d) = r) ∨
  ∃ (a : Addr) (kvs : List (Key × V)), v = .ref a ∧ H a = some (.dK kvs) ∧ false = r
def rInT (K : PySem.W.Frag) : R2 := fun x y H Q => ∃ (p : Addr) (ws : List Str) (r : Bool), y = .ref p ∧ SqL K H p (ws.map V.str) ∧ InT K H x ws r ∧ Q (.bl r) H
theorem op_inT (hu : X.A.units + 65 < cLine) : OpR X (compareOp .In) (rInT X.K) := by
  intro pins s σ H x y v u Q I rx ry h
  obtain ⟨p, ws, r, rfl, hp, ⟨hf, rfl⟩ | ⟨d, hd, s1, s2, rfl⟩ | ⟨a, kvs, rfl, ha, rfl⟩, q⟩ := h
  · exact op_in_seq pins s σ H x _ v u Q I rx ry ⟨p, _, rfl, .inl hp, hf, flat_strs ws, q⟩
  · exact op_inD hu pins s σ H x _ v u Q I rx ry ⟨d, _, hd, .lst hp (dpAll_strs ws), s1, s2, q⟩
  · cases (show v = Value.ref a from rx)
    cases (show u = Value.ref p from ry)
    obtain ⟨_, _, vs, kv, o, es, ep, e, hx, hd, _, _, _⟩ := (show ObjOk X.prog X.w H s.heap a (.dK _) from I.hok _ _ ha)
    obtain ⟨its, rv, hl, _⟩ := I.list hp
    refine in_listAt (fun _ => false) hl.isList (fun z hz => ?_) ⟨.bl false, H, I, ?_, q⟩
    · obtain ⟨x, t, rfl⟩ := vals_strs rv z (by simpa using hz)
      exact eqAt_str_dict x t e hx.1 hd (by show X.A.units + 1 < cLine; omega)
    · show Value.bool _ = Value.bool false
      simp
def rNil (K : PySem.W.Frag) (neg : Bool) : R2 := fun x y H Q => ∃ (p q : Addr) (xs : List V), x = .ref p ∧ y = .ref q ∧ SqL K H p xs ∧ SqL K H q [] ∧ Q (.bl (neg != xs.isEmpty)) H
theorem op_eqNil (hu : X.A.units + 65 < cLine) : OpR X (compareOp .Eq) (rNil X.K false) := by
  intro pins s σ H x y v u Q I rx ry h
  obtain ⟨p, q, xs, rfl, rfl, hp, hq, z⟩ := h
  cases (show v = Value.ref p from rx)
  cases (show u = Value.ref q from ry)
  obtain ⟨its, rv, hl, _⟩ := I.list hp
  obtain ⟨its2, rv2, hl2, _⟩ := I.list hq
  cases rv2
  cases rv with
  | nil => exact SeqAt.eq_listAt (e := fun _ => true) hl.isList hl2.isList rfl (by omega) (fun j h1 _ => absurd h1 (by simp)) ⟨.bl true, H, I, rfl, z⟩
  | cons a b => exact SeqAt.eq_list_lengthsAt hl.isList hl2.isList (by simp) (by omega) ⟨.bl false, H, I, rfl, z⟩
theorem op_neNil (hu : X.A.units + 65 < cLine) : OpR X (compareOp .NotEq) (rNil X.K true) := by
  intro pins s σ H x y v u Q I rx ry h
  obtain ⟨p, q, xs, rfl, rfl, hp, hq, z⟩ := h
  cases (show v = Value.ref p from rx)
  cases (show u = Value.ref q from ry)
  obtain ⟨its, rv, hl, _⟩ := I.list hp
  obtain ⟨its2, rv2, hl2, _⟩ := I.list hq
  cases rv2
  cases rv with
  | nil => exact RcNeAt.lists (e := fun _ => true) hl.isList hl2.isList rfl (by omega) (fun j h1 _ => absurd h1 (by simp)) X.prog X.w _ _ ⟨.bl false, H, I, rfl, z⟩
  | cons a b => exact RcNeAt.lists_lengths hl.isList hl2.isList (by simp) (by omega) X.prog X.w _ _ ⟨.bl true, H, I, rfl, z⟩
end
end FR
set_option Elab.async false
set_option linter.all false
set_option maxRecDepth 100000
set_option maxHeartbeats 2000000
/-! the end of a row whose defs make lambdas, for a promise that knows that no repr is under way -/
namespace FR
open PySem PySem.Spec PyProof.Rows L2 TL LamX
/-- the script (where it is not the module's) and the empty tables -/
def hStart (a : Addr) (o : HO) (own : Bool) (ts : List Addr) : Hp := fun b => if b ∈ ts then some (.tbl #[]) else if b = a ∧ own = true then some o else none
section
variable {a : Addr} {o : HO} {own : Bool} {ts : List Addr}
theorem hStart.tab {b : Addr} (h : b ∈ ts) : hStart a o own ts b = some (.tbl #[]) := if_pos h
theorem hStart.script (h : a ∉ ts) (w : own = true) : hStart a o own ts a = some o := (if_neg h).trans (if_pos ⟨rfl, w⟩)
theorem hStart.what {b : Addr} {u : HO} (h : hStart a o own ts b = some u) : (b ∈ ts ∧ u = .tbl #[]) ∨ (b ∉ ts ∧ b = a ∧ own = true ∧ u = o) := by
  unfold hStart at h
  split at h
  · rename_i m
    exact .inl ⟨m, (Option.some.inj h).symm⟩
  · rename_i m
    split at h
    · rename_i e
      exact .inr ⟨m, e.1, e.2, (Option.some.inj h).symm⟩
    · cases h
end
abbrev oTab : Obj := { cls := .none, data := .fields #[] }
theorem law_callTG {P : Program} {w : World} {K : PySem.W.Frag} {mg mb : Str → Option Value} {k : Nat} {fa a : Addr} {cs : List (Addr × Addr)} {sp : Sp} {s1 : Shared} {vs : List Value} {ns : List Int}
    (KX : K.In s1.heap) (hns : s1.heap.Ns mainGlobals mg) (hb : s1.heap.Ns builtinsNs mb) (hbb : ∀ x : Str, x ≠ "__name__" → mb x = bootBuiltins x) (hlim : s1.heap.NoLimit) (hg : s1.gens = #[])
    (hT : ∀ p ∈ cs, s1.heap.get? p.2 = some oTab) (nT : ∀ p ∈ cs, K.lookup p.2 = none) (C : ∀ p ∈ cs, PySem.W.CodeHd s1.heap p.1 p.2)
    (hbm : ∃ (bm : Addr) (ob : Obj), mg "__builtins__" = some (.ref bm) ∧ bm ≠ builtinsNs ∧ s1.heap.get? bm = some ob ∧ ob.cls = .type "module" ∧ ob.dict = some builtinsNs ∧ ob.data = .plain)
    (ha : s1.heap.get? a = some { cls := .type "list", data := .seq vs.toArray }) (hi : IntsAre vs ns) (hl : ns.length ≤ sizeLine) (hr : Room k callerA)
    (F : ∀ base : Heap, K.In base → base.Ns mainGlobals mg → (∀ p ∈ cs, TabB base mg p.1 p.2) → FnG P w K mg base CX0 k fa sp)
    (hsp : ∀ H : Hp, (∀ p ∈ cs, H p.2 = some (.tbl #[])) → SqL K H a (ns.map V.int) → sp [.ref a] H (fun v _ => v = .bl true) fun _ _ _ => False) :
    codeAny (model P w) callerA (.call (.ref fa) ⟨[.ref a], []⟩) (fun r s' => r = .ok (.ret (.bool true)) ∧ OldK s1.heap s'.heap ∧ s'.os = s1.os ∧ AllBare s'.gens) s1 := by
  have rv := vals_ints hi
  have lv := hi.length
  have isT : ∀ b ∈ cs.map (·.2), s1.heap.get? b = some oTab := fun b m => by
    obtain ⟨p, hp, rfl⟩ := List.mem_map.mp m
    exact hT p hp
  have aT : a ∉ cs.map (·.2) := fun m => by
    have := isT a m
    rw [ha] at this
    cases congrArg Obj.data (Option.some.inj this)
  obtain ⟨own, how⟩ : ∃ own, own = (K.lookup a).isNone := ⟨_, rfl⟩
  obtain ⟨H, hH⟩ : ∃ H, hStart a (.frz { cls := .type "list", data := .seq vs.toArray } (.lst (ns.map V.int))) own (cs.map (·.2)) = H := ⟨_, rfl⟩
  have tabs : ∀ b ∈ cs.map (·.2), H b = some (.tbl #[]) := fun b m => by rw [← hH]; exact hStart.tab m
  have what : ∀ {b : Addr} {u : HO}, H b = some u → (b ∈ cs.map (·.2) ∧ u = .tbl #[]) ∨ (b ∉ cs.map (·.2) ∧ b = a ∧ own = true ∧ u = .frz { cls := .type "list", data := .seq vs.toArray } (.lst (ns.map V.int))) := fun {b u} h => hStart.what (by rw [hH]; exact h)
  have hS : SqL K H a (ns.map V.int) := by
    cases hk : K.lookup a with
    | some o =>
      cases ha.symm.trans (KX a o hk)
      exact .inr ⟨_, vs.toArray, _, hk, rfl, rfl, rfl, by rw [List.size_toArray, lv]; exact hl, by simpa using rv⟩
    | none => exact .inl (.inr ⟨_, by rw [← hH]; exact hStart.script aT (by rw [how, hk]; rfl)⟩)
  have hok : HOk P w H s1.heap := fun b u z => by
    rcases what z with ⟨m, rfl⟩ | ⟨_, rfl, _, rfl⟩
    · exact isT b m
    · exact ⟨ha, by rw [List.length_map]; exact hl, vs, _, rv, ha⟩
  have apart : ∀ {b : Addr} {ob : Obj}, s1.heap.get? b = some ob → (∀ l n, ob.data ≠ .seq l n) → ob.data ≠ .fields #[] → H b = none := fun {b ob} e n1 n2 => by
    cases q : H b with
    | none => rfl
    | some u =>
      rcases what q with ⟨m, _⟩ | ⟨_, rfl, _, _⟩
      · cases (isT b m).symm.trans e
        exact (n2 rfl).elim
      · cases ha.symm.trans e
        exact (n1 _ _ rfl).elim
  have isD : ∀ {b : Addr} {ob : Obj} {es : Array DictEntry} {ep : Nat}, s1.heap.get? b = some ob → ob.data = .dict es ep → H b = none := fun e d => apart e (by rw [d]; exact fun _ _ z => nomatch z) (by rw [d]; exact fun z => nomatch z)
  have nsH : ∀ {b : Addr} {m : Str → Option Value}, s1.heap.Ns b m → (hidT s1.heap H).Ns b m := fun ⟨o, es, ep, e, d, r⟩ => ⟨o, es, ep, hidT_get e (isD e d), d, r⟩
  have KH : K.In (hidT s1.heap H) := fun b o e => hidT_get (KX b o e) (by
    cases q : H b with
    | none => rfl
    | some u =>
      rcases what q with ⟨m, _⟩ | ⟨_, rfl, w0, _⟩
      · obtain ⟨p, hp, rfl⟩ := List.mem_map.mp m
        cases (nT p hp).symm.trans e
      · rw [how, e] at w0
        cases w0)
  have md : Mod K mg (hidT s1.heap H) := ⟨KH, nsH hns, ⟨mb, nsH hb, hbb⟩, hlim.elim fun mc hc => ⟨mc, nsH hc.1, hc.2⟩⟩
  have en : Env0 P w K mg (hidT s1.heap H) callerA [] s1 H := ⟨rfl, md, fun _ _ e => of_hidT e, Nat.le_of_eq (hidT_size ..), True.intro, fun _ hb => (List.not_mem_nil hb).elim, hok, AllBare.of_eq hg⟩
  have tb : ∀ p ∈ cs, TabB (hidT s1.heap H) mg p.1 p.2 := fun p hp => by
    refine ⟨?_, ?_, fun z => ?_⟩
    · obtain ⟨oc, us, file, tf, flags, tg, inF, text, tt, e1, r1, r2, r3, r⟩ := C p hp
      refine ⟨oc, us, file, tf, flags, tg, inF, text, tt, hidT_get e1 (apart e1 (by rw [r2]; exact fun _ _ z => nomatch z) fun z => ?_), r1, r2, r3, r⟩
      rw [r2] at z
      cases z
      simp at r3
    · obtain ⟨bm, ob, b1, b2, b3, b4, b5, b6⟩ := hbm
      refine ⟨bm, ob, b1, b2, fun z => ?_, fun z => ?_, hidT_get b3 (apart b3 (by rw [b6]; exact fun _ _ z => nomatch z) (by rw [b6]; exact fun z => nomatch z)), b4, b5, b6⟩
      · obtain ⟨og, es, ep, e, d, _⟩ := hns
        rw [z] at b3
        cases e.symm.trans b3
        rw [b6] at d
        cases d
      · rw [z] at b3
        cases (hT p hp).symm.trans b3
        cases b6
    · obtain ⟨og, es, ep, e, d, _⟩ := hns
      rw [z] at e
      cases (hT p hp).symm.trans e
      cases d
  refine codeAny_mono (F _ KH (nsH hns) tb callerA [] s1 H [.ref a] [.ref a] _ _ rfl hr en (.cons rfl .nil) (hsp H (fun p hp => tabs _ (List.mem_map.mpr ⟨p, hp, rfl⟩)) hS)) fun r s' h => ?_
  match r, h with
  | .error e, h => exact h.elim
  | .ok .next, h => exact h.elim
  | .ok .brk, h => exact h.elim
  | .ok .cont, h => exact h.elim
  | .ok (.ret u), h =>
    obtain ⟨v, H', os, bare, un, hok', rr, q⟩ := h
    cases (show v = .bl true from q)
    cases (show u = Value.bool true from rr)
    have same : ∀ b ob, b ∉ cs.map (·.2) → s1.heap.get? b = some ob → s'.heap.get? b = some ob := fun b ob nb e => by
      cases z : H b with
      | none => exact un.keep b ob e z (fun y => (List.not_mem_nil y).elim) List.not_mem_nil
      | some u =>
        rcases what z with ⟨m, _⟩ | ⟨_, rfl, _, rfl⟩
        · exact (nb m).elim
        · cases ha.symm.trans e
          exact (hok' b _ (un.frzs b _ _ z)).1
    have more : ∀ p ∈ cs, ∃ ms : Array Value, s'.heap.get? p.2 = some { cls := .none, data := .fields ms } := fun p hp => by
      obtain ⟨ms, z⟩ := un.tbls p.2 #[] (tabs _ (List.mem_map.mpr ⟨p, hp, rfl⟩))
      exact ⟨_, hok' p.2 _ z⟩
    refine ⟨rfl, ⟨fun b ob e => ?_, fun b ob e => ?_⟩, os, bare⟩
    · by_cases m : b ∈ cs.map (·.2)
      · obtain ⟨p, hp, rfl⟩ := List.mem_map.mp m
        obtain ⟨ms, z⟩ := more p hp
        cases (hT p hp).symm.trans e
        exact .inr (.inl ⟨((C p hp).tab (hT p hp)).isCodeTable, rfl, #[], ms, rfl, by rw [Array.empty_append]; exact z⟩)
      · exact .inl (same b ob m e)
    · by_cases m : b ∈ cs.map (·.2)
      · obtain ⟨p, hp, rfl⟩ := List.mem_map.mp m
        obtain ⟨ms, z⟩ := more p hp
        exact ⟨_, z⟩
      · exact ⟨ob, same b ob m e⟩
/-- what is known of the law's promise at the heap h -/
def LawG (l : PySem.W.OpenLaw) (w : World) (K : PySem.W.Frag) (k n : Nat) (mg : Str → Option Value) (fa : Addr) (h : Heap) : Prop :=
  ∃ (cs : List (Addr × Addr)) (sp : Sp), (∀ p ∈ cs, h.get? p.2 = some oTab) ∧ (∀ p ∈ cs, K.lookup p.2 = none) ∧ (∀ p ∈ cs, PySem.W.CodeHd h p.1 p.2) ∧
    (∀ (H : Hp) (a : Addr) (ns : List Int), ns.length ≤ n → (∀ p ∈ cs, H p.2 = some (.tbl #[])) → SqL K H a (ns.map V.int) → sp [.ref a] H (fun v _ => v = .bl true) fun _ _ _ => False) ∧
    ∀ base : Heap, K.In base → base.Ns mainGlobals mg → (∀ p ∈ cs, TabB base mg p.1 p.2) → FnG l.prog w K mg base CX0 k fa sp
theorem walk_ofTG {l : PySem.W.OpenLaw} {n k : Nat} {q : Program} {loose : List Str} {XP : (Str → Option Value) → Heap → Prop} {YP : World → Heap → Prop} {d : DefRec} {K : Params → PySem.W.Frag}
    (hn : l.most = some n) (hn2 : n ≤ sizeLine) (hdf : d.params.defaults = []) (hr : Room k callerA) (hY : ∀ (w : World) (h : Heap), YP w h → (K w.params).In h)
    (F : ∀ (w : World) (mg : Str → Option Value) (fa : Addr) (h : Heap), YP w h → (K w.params).In h → h.Ns mainGlobals mg → mg d.name = some (.ref fa) → LawG l w (K w.params) k n mg fa h) :
    PySem.W.WalkO q loose XP YP l.row.toRowW d [] (fun f vs => PySem.call f vs) := by
  refine Att.attach_call hn hdf fun w s0 s1 mg mb fa o pm cd doc a vs ns G Y ho hd hcd hmg hobj hints hlen hg => ?_
  have KX := hY w _ Y
  obtain ⟨cs, sp, hT, nT, C, hsp, hF⟩ := F w mg fa _ Y KX G.T.g hmg
  exact law_callTG KX G.T.g G.T.b G.T.builtins G.T.nolimit hg hT nT C G.T.bmain hobj hints (Nat.le_trans hlen hn2) hr hF fun H hH hS => hsp H a ns hlen hH hS
/-- a def whose code object is known: it makes lambdas -/
structure FunL (K : PySem.W.Frag) (x qual : Str) (st : Stmt) (f : Addr) (c : Addr) : Prop where
  ex : ∃ (oc : Value) (od : Option Addr) (kV doc pm : Value) (an : Option Addr) (ct : Value) (osl : Array (Option Value)), K.lookup f = some ⟨oc, od, .func (PySem.W.fnOf x qual (defArgs st) (defBody st) (defScope st) .none kV doc pm an (.ref c) ct), osl⟩
  cd : PySem.W.codeIn K (.ref c) qual = true
theorem okGC0 {P : Program} {w : World} {K : PySem.W.Frag} {mg : Str → Option Value} {base : Heap} {k : Nat} {f c : Addr} {sp : Sp} {x qual : Str} {st : Stmt} {fd : FuncData} {N ps : List Str} (L : FunL K x qual st f c) (F : L2.Fun K x qual st f fd) (S : FnScope N ps (defScope st)) (B : Binds K fd ps []) (hlen : ∀ vs H Q E, sp vs H Q E → vs.length = ps.length)
    (hbody : ∀ (A : Around) (outer : List Env) (s : Shared) (H : Hp) (vs : List V) (Q : VK) (E : XK), A.guards = some [] → Room k (A.deeper (envOfC qual (defScope st) s.heap.objs.size f (.ref c))) → sp vs H Q E →
      ∃ t, PSs (cxOf CX0 P w K mg base N qual (defScope st) f (.ref c) A outer s H E).nox (defBody st) t ∧ t { nx := fun _ H' => Q .non H', rt := Q } (start N vs) H) : FnG P w K mg base CX0 (k + 1) f sp := by
  intro A outer s H us vs Q E hg hr e0 r hsp
  obtain ⟨oc, od, kV, doc, pm, an, cdv, ct, osl, rfl, lk, hcd⟩ := F.ex
  obtain ⟨oc', od', kV', doc', pm', an', ct', osl', lk'⟩ := L.ex
  cases lk.symm.trans lk'
  have hv : vs.length = ps.length := hlen _ _ _ _ hsp
  have hu : us.length = ps.length := by rw [← r.length]; exact hv
  have KI : K.In s.heap := e0.mod.kin.keeps fun b o e => (e0.bs b o e).1
  have b0 := B s us KI (by rw [List.append_nil]; exact hu)
  rw [List.append_nil] at b0
  refine StX.run_bnd lk hcd S hr e0 (G := fun xs H2 => xs = vs ∧ H2 = H) (fun A' Ex Q' h => ?_) fun s2 H2 xs ⟨ex, eH⟩ hr' => ?_
  · exact b0 _ _ _ _ (h s H vs us e0 Un.refl rfl (fun _ _ z => z) r hv ⟨rfl, rfl⟩)
  · subst ex eH
    obtain ⟨t, a, b⟩ := hbody A outer s2 _ _ Q E hg hr' hsp
    exact ⟨t, a.nox, b⟩
end FR
set_option Elab.async false
set_option linter.all false
set_option maxRecDepth 100000
/-! a classmethod without arguments -/
namespace ClX
open PySem PySem.Spec PyProof.Rows L2
section
variable {X : Cx} {C g p : Addr} {mc : Value} {m : Str} {o : Expr} {ta : TE} {CX : CXT} {k : Nat} {sp : Sp} {E : XK} {apos pos : Pos}
theorem pe_cmeth0 {pl : Sem Bool} (he : PE X o ta) (r : CRead X.K C mc) (c : CMet X.K C mc m p g) (F : FnR X.prog X.w X.K X.mg X.base CX k g sp) (hr : Room k X.A) (hx : Passes CX X E)
    (ht : eval (.Call (.Attribute o m apos) [] [] pos) X.env = (do
      let ov ← eval o X.env
      standAt apos.atName
      let (f, first) ← holding [ov] (getMethod ov m pl)
      callWith pos f first (backTo pos (starEach [] X.env)) (backToKw pos (keywordEach [] X.env))) := by rfl) :
    PE X (.Call (.Attribute o m apos) [] [] pos) (tCMeth C sp E ta tNil) := by
  refine ⟨fun pins s σ H Q I h => ?_⟩
  refine PySem.W.methodCall_KW (pl := pl) (thn (he.run pins s σ H _ I h) fun u s1 ⟨x, H1, I1, rx, ex, q⟩ => ?_) ht
  subst ex
  obtain rfl : u = Value.ref C := rx
  refine getmethcm_ok I1 r c fun s2 I2 => ?_
  exact PySem.W.callWith_M0 (first := []) ⟨pin_at I2, I2.kIn⟩ c.fi (run_cm F hr hx I2 .nil q)
end
end ClX
set_option Elab.async false
set_option linter.all false
set_option maxRecDepth 100000
/-! two makers of lambdas, told by the written part -/
namespace FR
open PySem PySem.Spec PyProof.Rows L2 TL LamX PySem.W
/-- the table that a code object tells -/
def tabOf (o : Obj) : Option Addr := match o.data with
  | .fields vs => (match (vs[11]? : Option Value) with
    | some (.ref P) => some P
    | _ => none)
  | _ => none
theorem lawG_mk {l : OpenLaw} {w : World} {K : Frag} {k n : Nat} {mg : Str → Option Value} {fa : Addr} {h : Heap} {c1 P1 c2 P2 : Addr} {ts : List Addr} {spF : Frag → List (Addr × Str) → Sp} {q1 q2 : Str} {o1 o2 : Obj} (X : K.In h) (hT : ∀ P ∈ ts, h.get? P = some (tabObj #[])) (_ : K.lookup c1 = some o1) (_ : K.lookup c2 = some o2) (_ : tabOf o1 = some P1) (_ : tabOf o2 = some P2)
    (d1 : codeHdIn K c1 P1 = true) (d2 : codeHdIn K c2 P2 = true) (m1 : ts.contains P1 = true) (m2 : ts.contains P2 = true) (n1 : K.lookup P1 = none) (n2 : K.lookup P2 = none)
    (hne : P1 ≠ P2) (F : ∀ base : Heap, K.In base → base.Ns mainGlobals mg → TabB base mg c1 P1 → TabB base mg c2 P2 → P1 ≠ P2 → FnG l.prog w K mg base CX0 k fa (spF K [(P1, q1), (P2, q2)]))
    (hsp : ∀ (H : Hp) (a : Addr) (ns : List Int), ns.length ≤ n → H P1 = some (.tbl #[]) → H P2 = some (.tbl #[]) → SqL K H a (ns.map V.int) → spF K [(P1, q1), (P2, q2)] [.ref a] H (fun v _ => v = .bl true) fun _ _ _ => False) : LawG l w K k n mg fa h := by
  have two : ∀ {F : Addr × Addr → Prop}, F (c1, P1) → F (c2, P2) → ∀ p ∈ [(c1, P1), (c2, P2)], F p := fun a b p hp => by
    simp only [List.mem_cons, List.not_mem_nil, or_false] at hp
    rcases hp with rfl | rfl
    · exact a
    · exact b
  refine ⟨[(c1, P1), (c2, P2)], spF K [(P1, q1), (P2, q2)], two (F := fun p => h.get? p.2 = some oTab) (hT P1 (by simpa using m1)) (hT P2 (by simpa using m2)), two (F := fun p => K.lookup p.2 = none) n1 n2, two (F := fun p => CodeHd h p.1 p.2) (codeHd_of_K X d1) (codeHd_of_K X d2), fun H a ns hl ht hS => ?_, fun base hK hN tb => ?_⟩
  · exact hsp H a ns hl (ht (c1, P1) (by simp)) (ht (c2, P2) (by simp)) hS
  · exact F base hK hN (tb (c1, P1) (by simp)) (tb (c2, P2) (by simp)) hne
end FR
set_option Elab.async false
set_option linter.all false
set_option maxRecDepth 100000
set_option maxHeartbeats 8000000
local macro_rules | `(tactic| walk_at "sq") => `(tactic| first
  | (refine' FR.Ow.sq (i := 0) ?w ?e; (case w => assumption); (case e => rfl))
  | (refine' FR.Ow.sq (i := 1) ?w ?e; (case w => assumption); (case e => rfl))
  | (refine' FR.Ow.sq (i := 2) ?w ?e; (case w => assumption); (case e => rfl))
  | (refine' FR.Ow.sq (i := 3) ?w ?e; (case w => assumption); (case e => rfl))
  | (refine' FR.Ow.sq (i := 4) ?w ?e; (case w => assumption); (case e => rfl))
  | (refine' FR.Ow.sq (i := 5) ?w ?e; (case w => assumption); (case e => rfl))
  | (refine' FR.Ow.sq (i := 6) ?w ?e; (case w => assumption); (case e => rfl))
  | (refine' FR.Ow.sq (i := 7) ?w ?e; (case w => assumption); (case e => rfl))
  | (refine' FR.Ow.sq (i := 8) ?w ?e; (case w => assumption); (case e => rfl))
  | (refine' FR.Ow.sq (i := 9) ?w ?e; (case w => assumption); (case e => rfl))
  | (refine' FR.Ow.sq (i := 10) ?w ?e; (case w => assumption); (case e => rfl))
  | (refine' FR.Ow.sq (i := 11) ?w ?e; (case w => assumption); (case e => rfl))
  | (refine' FR.Ow.sq (i := 12) ?w ?e; (case w => assumption); (case e => rfl))
  | (refine' FR.Ow.sq (i := 13) ?w ?e; (case w => assumption); (case e => rfl))
  | assumption)
local macro_rules | `(tactic| walk_at "hp") => `(tactic| first
  | (refine' FR.Ow.get (i := 0) ?w ?e; (case w => assumption); (case e => rfl))
  | (refine' FR.Ow.get (i := 1) ?w ?e; (case w => assumption); (case e => rfl))
  | (refine' FR.Ow.get (i := 2) ?w ?e; (case w => assumption); (case e => rfl))
  | (refine' FR.Ow.get (i := 3) ?w ?e; (case w => assumption); (case e => rfl))
  | (refine' FR.Ow.get (i := 4) ?w ?e; (case w => assumption); (case e => rfl))
  | (refine' FR.Ow.get (i := 5) ?w ?e; (case w => assumption); (case e => rfl))
  | (refine' FR.Ow.get (i := 6) ?w ?e; (case w => assumption); (case e => rfl))
  | (refine' FR.Ow.get (i := 7) ?w ?e; (case w => assumption); (case e => rfl))
  | (refine' FR.Ow.get (i := 8) ?w ?e; (case w => assumption); (case e => rfl))
  | (refine' FR.Ow.get (i := 9) ?w ?e; (case w => assumption); (case e => rfl))
  | (refine' FR.Ow.get (i := 10) ?w ?e; (case w => assumption); (case e => rfl))
  | (refine' FR.Ow.get (i := 11) ?w ?e; (case w => assumption); (case e => rfl))
  | (refine' FR.Ow.get (i := 12) ?w ?e; (case w => assumption); (case e => rfl))
  | (refine' FR.Ow.get (i := 13) ?w ?e; (case w => assumption); (case e => rfl))
  | assumption)
local macro_rules | `(tactic| walk_at "ar") => `(tactic| first | assumption | omega | decide)
local macro_rules | `(tactic| walk_at "cd") => `(tactic| first
  | assumption | (with_reducible rfl) | exact (rfl : List.length _ = _) | (dsimp only; walk_at "ar") | walk_at "ar"
  | (refine And.intro (a := (_ : Int) < _) ?_ ?_ <;> walk_at "ar")
  | (refine And.intro (a := (0 : Int) ≤ _) ?_ (And.intro ?_ ?_) <;> walk_at "ar")
  | exact FR.size_le (by omega) | exact FR.size_ok (by omega)
  | (refine Or.inl (And.intro ?_ ?_) <;> walk_at "ar")
  | (refine Or.inr (And.intro ?_ ?_) <;> walk_at "ar"))
local macro_rules | `(tactic| walk_at "ty") => `(tactic| first
  | exact L2.TyOf.int _
  | exact L2.TyOf.str _
  | exact L2.TyOf.bl _
  | exact L2.TyOf.non
  | (refine' L2.TyOf.lst ?e; (case e => walk_at "hp"))
  | (refine' L2.TyOf.tup ?e; (case e => walk_at "hp"))
  | (refine' L2.TyOf.dK ?e; (case e => walk_at "hp")))
local macro_rules | `(tactic| walk_at "kit") => `(tactic| first
  | exact FR.ki_int_str
  | exact FR.ki_int_int
  | exact FR.ki_int_bool
  | exact FR.ki_int_list
  | exact FR.ki_int_tuple
  | exact FR.ki_int_dict
  | exact FR.ki_str_str
  | exact FR.ki_str_int
  | exact FR.ki_str_bool
  | exact FR.ki_str_list
  | exact FR.ki_str_tuple
  | exact FR.ki_str_dict
  | exact FR.ki_bl_str
  | exact FR.ki_bl_int
  | exact FR.ki_bl_bool
  | exact FR.ki_bl_list
  | exact FR.ki_bl_tuple
  | exact FR.ki_bl_dict
  | exact FR.ki_non_str
  | exact FR.ki_non_int
  | exact FR.ki_non_bool
  | exact FR.ki_non_list
  | exact FR.ki_non_tuple
  | exact FR.ki_non_dict
  | exact FR.ki_lst_str
  | exact FR.ki_lst_int
  | exact FR.ki_lst_bool
  | exact FR.ki_lst_list
  | exact FR.ki_lst_tuple
  | exact FR.ki_lst_dict
  | exact FR.ki_tup_str
  | exact FR.ki_tup_int
  | exact FR.ki_tup_bool
  | exact FR.ki_tup_list
  | exact FR.ki_tup_tuple
  | exact FR.ki_tup_dict
  | exact FR.ki_dK_str
  | exact FR.ki_dK_int
  | exact FR.ki_dK_bool
  | exact FR.ki_dK_list
  | exact FR.ki_dK_tuple
  | exact FR.ki_dK_dict)
local macro_rules | `(tactic| walk_at "isi") => `(tactic| (refine' ⟨_, _, _, _, _, rfl, L2.ClsV.ty _, L2.TyX.base ?k1, L2.kit_ty ?k2, ?k3⟩; (case k1 => walk_at "ty"); (case k2 => walk_at "kit")))
local macro_rules | `(tactic| walk_at "w1") => `(tactic| first
  | (refine' FR.with1 0 ?k1 ?k2 (by assumption) (by assumption) ?k3; (case k1 => assumption); (case k2 => rfl); intro W)
  | (refine' FR.with1 1 ?k1 ?k2 (by assumption) (by assumption) ?k3; (case k1 => assumption); (case k2 => rfl); intro W)
  | (refine' FR.with1 2 ?k1 ?k2 (by assumption) (by assumption) ?k3; (case k1 => assumption); (case k2 => rfl); intro W)
  | (refine' FR.with1 3 ?k1 ?k2 (by assumption) (by assumption) ?k3; (case k1 => assumption); (case k2 => rfl); intro W)
  | (refine' FR.with1 4 ?k1 ?k2 (by assumption) (by assumption) ?k3; (case k1 => assumption); (case k2 => rfl); intro W)
  | (refine' FR.with1 5 ?k1 ?k2 (by assumption) (by assumption) ?k3; (case k1 => assumption); (case k2 => rfl); intro W)
  | (refine' FR.with1 6 ?k1 ?k2 (by assumption) (by assumption) ?k3; (case k1 => assumption); (case k2 => rfl); intro W)
  | (refine' FR.with1 7 ?k1 ?k2 (by assumption) (by assumption) ?k3; (case k1 => assumption); (case k2 => rfl); intro W)
  | (refine' FR.with1 8 ?k1 ?k2 (by assumption) (by assumption) ?k3; (case k1 => assumption); (case k2 => rfl); intro W)
  | (refine' FR.with1 9 ?k1 ?k2 (by assumption) (by assumption) ?k3; (case k1 => assumption); (case k2 => rfl); intro W)
  | (refine' FR.with1 10 ?k1 ?k2 (by assumption) (by assumption) ?k3; (case k1 => assumption); (case k2 => rfl); intro W)
  | (refine' FR.with1 11 ?k1 ?k2 (by assumption) (by assumption) ?k3; (case k1 => assumption); (case k2 => rfl); intro W)
  | (refine' FR.with1 12 ?k1 ?k2 (by assumption) (by assumption) ?k3; (case k1 => assumption); (case k2 => rfl); intro W)
  | (refine' FR.with1 13 ?k1 ?k2 (by assumption) (by assumption) ?k3; (case k1 => assumption); (case k2 => rfl); intro W))
local macro_rules | `(tactic| walk_at "obj") => `(tactic| first
  | (refine FR.NewO.mk ?_; intro p H np kp hp; refine' FR.withN ?k1 np kp hp ?k2; (case k1 => assumption); intro W)
  | (refine FR.NewS.mk ?_; intro p H np sp kp hp; refine' FR.withN ?k1 np kp hp ?k2; (case k1 => assumption); intro W)
  | (refine FR.MutO.mk ?_; intro H kp hp; walk_at "w1"))
local macro_rules | `(tactic| walk_at "sz") => `(tactic| exact FR.size_ok (by (try simp only [List.length_map, List.length_append, List.length_cons, List.length_nil]); omega))
local macro_rules | `(tactic| walk_at "rd1") => `(tactic| first
  | (refine ⟨_, rfl, ?_⟩)
  | (refine ⟨_, _, rfl, rfl, ?_⟩)
  | (refine ⟨_, _, rfl, ?_⟩)
  | (refine' ⟨_, _, _, _, rfl, rfl, ?k1, ?k2, ?k3⟩; (case k1 => walk_at "hp"); (case k2 => rfl); walk_at "obj")
  | (refine' ⟨_, _, _, _, rfl, rfl, ?k1, ?k2, ?k3⟩; (case k1 => walk_at "sq"); (case k2 => rfl))
  | walk_at "obj"
  | (refine' ⟨_, _, _, rfl, rfl, ?k1, ?k2, ?k3⟩; (case k1 => walk_at "hp"); (case k2 => walk_at "sz"); walk_at "obj")
  | (refine And.intro (show List.length _ ≤ PySem.sizeLine from Nat.le_of_ble_eq_true rfl) ?_; walk_at "obj")
  | (refine' ⟨_, _, rfl, Or.inl ?k1, ?k2⟩; (case k1 => walk_at "sq"))
  | (refine FR.ifT rfl ?_) | (refine FR.ifF rfl ?_)
  | (refine And.intro (show L2.scal _ _ = true from rfl) ?_)
  | (refine And.intro (show L2.tyV _ "str" (L2.V.str _) _ from rfl) ?_)
  | (refine' And.intro (show L2.tyV _ "list" (L2.V.ref _) _ from Or.inl ⟨rfl, _, ?k1⟩) ?k2; (case k1 => walk_at "sq"))
  | (refine And.intro (Exists.intro _ rfl) ?_)
  | (refine And.intro (show L2.wipe _ _ = L2.wipe _ _ from rfl) ?_)
  | (refine And.intro (by walk_at "cd") ?_)
  | walk_at "isi")
local macro_rules | `(tactic| walk_at "rd") => `(tactic| repeat walk_at "rd1")
local macro_rules | `(tactic| walk_at "take") => `(tactic| (refine' ⟨_, _, _, _, _, _, rfl, ?k1, ?k2, ?k3, ?k4, ?k5, ?k6⟩; (case k1 => walk_at "hp"); (case k2 => assumption); (case k3 => omega); (case k4 => first | decide | omega); (case k5 => first | decide | omega); intro d x y z H d0 d1 ok kp hb; walk_at "w1"))
set_option Elab.async false
set_option linter.all false
set_option maxRecDepth 100000
namespace K09
open PySem PySem.Spec PyProof.Rows L2 FR
def top (i : Nat) : Stmt := PySem.Challenge.pw_filerights_k09_rights_refused.main.body.getD i (.Pass ⟨0, 0, 0, 0⟩)
def inCls (s : Stmt) (j : Nat) : Stmt := match s with
  | .ClassDef _ _ _ b _ _ _ _ _ _ _ => b.getD j (.Pass ⟨0, 0, 0, 0⟩)
  | _ => .Pass ⟨0, 0, 0, 0⟩
abbrev s_is_integer : Stmt := top 7
abbrev N_is_integer : List Str := ["value", "low", "high"]
theorem sc_is_integer : FnScope N_is_integer ["value", "low", "high"] (defScope s_is_integer) := ⟨rfl, rfl, rfl, by decide +kernel, rfl, by decide +kernel, by decide +kernel⟩
abbrev s_is_rights : Stmt := top 14
abbrev N_is_rights : List Str := ["value"]
theorem sc_is_rights : FnScope N_is_rights ["value"] (defScope s_is_rights) := ⟨rfl, rfl, rfl, by decide +kernel, rfl, by decide +kernel, by decide +kernel⟩
abbrev s_as_rights : Stmt := top 15
abbrev N_as_rights : List Str := ["value"]
theorem sc_as_rights : FnScope N_as_rights ["value"] (defScope s_as_rights) := ⟨rfl, rfl, rfl, by decide +kernel, rfl, by decide +kernel, by decide +kernel⟩
abbrev s__is_letters : Stmt := top 16
abbrev N__is_letters : List Str := ["value"]
theorem sc__is_letters : FnScope N__is_letters ["value"] (defScope s__is_letters) := ⟨rfl, rfl, rfl, by decide +kernel, rfl, by decide +kernel, by decide +kernel⟩
abbrev s__digit_of : Stmt := top 17
abbrev N__digit_of : List Str := ["value"]
theorem sc__digit_of : FnScope N__digit_of ["value"] (defScope s__digit_of) := ⟨rfl, rfl, rfl, by decide +kernel, rfl, by decide +kernel, by decide +kernel⟩
abbrev s_cell : Stmt := top 19
abbrev N_cell : List Str := ["_law_script", "_law_k"]
theorem sc_cell : FnScope N_cell ["_law_script", "_law_k"] (defScope s_cell) := ⟨rfl, rfl, rfl, by decide +kernel, rfl, by decide +kernel, by decide +kernel⟩
abbrev s_box : Stmt := top 20
abbrev N_box : List Str := ["_law_cell_here"]
theorem sc_box : FnScope N_box ["_law_cell_here"] (defScope s_box) := ⟨rfl, rfl, rfl, by decide +kernel, rfl, by decide +kernel, by decide +kernel⟩
abbrev s_take : Stmt := top 21
abbrev N_take : List Str := ["_law_box_here", "_law_many", "_law_digit", "_law_mixed"]
theorem sc_take : FnScope N_take ["_law_box_here", "_law_many"] (defScope s_take) := ⟨rfl, rfl, rfl, by decide +kernel, rfl, by decide +kernel, by decide +kernel⟩
abbrev s_odd : Stmt := top 22
abbrev N_odd : List Str := ["_law_box_here", "_law_some"]
theorem sc_odd : FnScope N_odd ["_law_box_here"] (defScope s_odd) := ⟨rfl, rfl, rfl, by decide +kernel, rfl, by decide +kernel, by decide +kernel⟩
abbrev s_sign : Stmt := top 23
abbrev N_sign : List Str := ["_law_one", "_law_odd_here", "_law_way"]
theorem sc_sign : FnScope N_sign ["_law_one", "_law_odd_here", "_law_way"] (defScope s_sign) := ⟨rfl, rfl, rfl, by decide +kernel, rfl, by decide +kernel, by decide +kernel⟩
abbrev s_ask : Stmt := top 24
abbrev N_ask : List Str := ["_law_way", "_law_odd_here"]
theorem sc_ask : FnScope N_ask ["_law_way", "_law_odd_here"] (defScope s_ask) := ⟨rfl, rfl, rfl, by decide +kernel, rfl, by decide +kernel, by decide +kernel⟩
abbrev s_caught : Stmt := top 25
abbrev N_caught : List Str := ["_law_ask_here", "_law_found", "e"]
theorem sc_caught : FnScope N_caught ["_law_ask_here"] (defScope s_caught) := ⟨rfl, rfl, rfl, by decide +kernel, rfl, by decide +kernel, by decide +kernel⟩
abbrev s_is_letters : Stmt := top 26
abbrev N_is_letters : List Str := ["_law_thing", "_law_sign_here"]
theorem sc_is_letters : FnScope N_is_letters ["_law_thing"] (defScope s_is_letters) := ⟨rfl, rfl, rfl, by decide +kernel, rfl, by decide +kernel, by decide +kernel⟩
abbrev s_same : Stmt := top 27
abbrev N_same : List Str := ["_law_found", "_law_due"]
theorem sc_same : FnScope N_same ["_law_found", "_law_due"] (defScope s_same) := ⟨rfl, rfl, rfl, by decide +kernel, rfl, by decide +kernel, by decide +kernel⟩
abbrev s_right : Stmt := top 28
abbrev N_right : List Str := ["_law_odd_here", "_law_strange", "_law_good", "_law_way", "_law_found", "_law_first", "_law_whole", "_law_one"]
theorem sc_right : FnScope N_right ["_law_odd_here", "_law_strange"] (defScope s_right) := ⟨rfl, rfl, rfl, by decide +kernel, rfl, by decide +kernel, by decide +kernel⟩
abbrev s_law : Stmt := top 29
abbrev N_law : List Str := ["_law_script", "_law_k", "_law_box_here", "_law_turn", "_law_text", "_law_odd_here", "_law_strange", "_law_a", "_law_b", "_law_one", "_law_other", "_law_found", "_law_at"]
theorem sc_law : FnScope N_law ["_law_script"] (defScope s_law) := ⟨rfl, rfl, rfl, by decide +kernel, rfl, by decide +kernel, by decide +kernel⟩
abbrev s_Rights___init__ : Stmt := inCls (top 13) 0
abbrev N_Rights___init__ : List Str := ["self", "letters"]
theorem sc_Rights___init__ : FnScope N_Rights___init__ ["self", "letters"] (defScope s_Rights___init__) := ⟨rfl, rfl, rfl, by decide +kernel, rfl, by decide +kernel, by decide +kernel⟩
abbrev s_Rights_of : Stmt := inCls (top 13) 1
abbrev N_Rights_of : List Str := ["cls", "parts", "whole", "part"]
theorem sc_Rights_of : FnScope N_Rights_of ["cls", "parts"] (defScope s_Rights_of) := ⟨rfl, rfl, rfl, by decide +kernel, rfl, by decide +kernel, by decide +kernel⟩
abbrev s_Rights_from_digit : Stmt := inCls (top 13) 2
abbrev N_Rights_from_digit : List Str := ["cls", "digit"]
theorem sc_Rights_from_digit : FnScope N_Rights_from_digit ["cls", "digit"] (defScope s_Rights_from_digit) := ⟨rfl, rfl, rfl, by decide +kernel, rfl, by decide +kernel, by decide +kernel⟩
abbrev s_Rights_digit : Stmt := inCls (top 13) 3
abbrev N_Rights_digit : List Str := ["self"]
theorem sc_Rights_digit : FnScope N_Rights_digit ["self"] (defScope s_Rights_digit) := ⟨rfl, rfl, rfl, by decide +kernel, rfl, by decide +kernel, by decide +kernel⟩
abbrev s_Rights_listed : Stmt := inCls (top 13) 4
abbrev N_Rights_listed : List Str := ["self"]
theorem sc_Rights_listed : FnScope N_Rights_listed ["self"] (defScope s_Rights_listed) := ⟨rfl, rfl, rfl, by decide +kernel, rfl, by decide +kernel, by decide +kernel⟩
abbrev s_Rights_covers : Stmt := inCls (top 13) 5
abbrev N_Rights_covers : List Str := ["self", "other", "digit"]
theorem sc_Rights_covers : FnScope N_Rights_covers ["self", "other"] (defScope s_Rights_covers) := ⟨rfl, rfl, rfl, by decide +kernel, rfl, by decide +kernel, by decide +kernel⟩
abbrev s_Rights___or__ : Stmt := inCls (top 13) 6
abbrev N_Rights___or__ : List Str := ["self", "other"]
theorem sc_Rights___or__ : FnScope N_Rights___or__ ["self", "other"] (defScope s_Rights___or__) := ⟨rfl, rfl, rfl, by decide +kernel, rfl, by decide +kernel, by decide +kernel⟩
abbrev s_Rights___and__ : Stmt := inCls (top 13) 7
abbrev N_Rights___and__ : List Str := ["self", "other"]
theorem sc_Rights___and__ : FnScope N_Rights___and__ ["self", "other"] (defScope s_Rights___and__) := ⟨rfl, rfl, rfl, by decide +kernel, rfl, by decide +kernel, by decide +kernel⟩
abbrev s_Rights___sub__ : Stmt := inCls (top 13) 8
abbrev N_Rights___sub__ : List Str := ["self", "other"]
theorem sc_Rights___sub__ : FnScope N_Rights___sub__ ["self", "other"] (defScope s_Rights___sub__) := ⟨rfl, rfl, rfl, by decide +kernel, rfl, by decide +kernel, by decide +kernel⟩
abbrev s_Rights___xor__ : Stmt := inCls (top 13) 9
abbrev N_Rights___xor__ : List Str := ["self", "other"]
theorem sc_Rights___xor__ : FnScope N_Rights___xor__ ["self", "other"] (defScope s_Rights___xor__) := ⟨rfl, rfl, rfl, by decide +kernel, rfl, by decide +kernel, by decide +kernel⟩
abbrev s_Rights___invert__ : Stmt := inCls (top 13) 10
abbrev N_Rights___invert__ : List Str := ["self"]
theorem sc_Rights___invert__ : FnScope N_Rights___invert__ ["self"] (defScope s_Rights___invert__) := ⟨rfl, rfl, rfl, by decide +kernel, rfl, by decide +kernel, by decide +kernel⟩
abbrev s_Rights___eq__ : Stmt := inCls (top 13) 11
abbrev N_Rights___eq__ : List Str := ["self", "other"]
theorem sc_Rights___eq__ : FnScope N_Rights___eq__ ["self", "other"] (defScope s_Rights___eq__) := ⟨rfl, rfl, rfl, by decide +kernel, rfl, by decide +kernel, by decide +kernel⟩
abbrev s_Rights___contains__ : Stmt := inCls (top 13) 12
abbrev N_Rights___contains__ : List Str := ["self", "value"]
theorem sc_Rights___contains__ : FnScope N_Rights___contains__ ["self", "value"] (defScope s_Rights___contains__) := ⟨rfl, rfl, rfl, by decide +kernel, rfl, by decide +kernel, by decide +kernel⟩
abbrev s_Rights___len__ : Stmt := inCls (top 13) 13
abbrev N_Rights___len__ : List Str := ["self"]
theorem sc_Rights___len__ : FnScope N_Rights___len__ ["self"] (defScope s_Rights___len__) := ⟨rfl, rfl, rfl, by decide +kernel, rfl, by decide +kernel, by decide +kernel⟩
abbrev s_Rights___bool__ : Stmt := inCls (top 13) 14
abbrev N_Rights___bool__ : List Str := ["self"]
theorem sc_Rights___bool__ : FnScope N_Rights___bool__ ["self"] (defScope s_Rights___bool__) := ⟨rfl, rfl, rfl, by decide +kernel, rfl, by decide +kernel, by decide +kernel⟩
abbrev s_Rights___str__ : Stmt := inCls (top 13) 15
abbrev N_Rights___str__ : List Str := ["self", "letter"]
theorem sc_Rights___str__ : FnScope N_Rights___str__ ["self"] (defScope s_Rights___str__) := ⟨rfl, rfl, rfl, by decide +kernel, rfl, by decide +kernel, by decide +kernel⟩
abbrev s_Rights___repr__ : Stmt := inCls (top 13) 16
abbrev N_Rights___repr__ : List Str := ["self"]
theorem sc_Rights___repr__ : FnScope N_Rights___repr__ ["self"] (defScope s_Rights___repr__) := ⟨rfl, rfl, rfl, by decide +kernel, rfl, by decide +kernel, by decide +kernel⟩
structure Ads where
  f_is_integer : Addr
  d_is_integer : FuncData
  f_is_rights : Addr
  d_is_rights : FuncData
  f_as_rights : Addr
  d_as_rights : FuncData
  f__is_letters : Addr
  d__is_letters : FuncData
  f__digit_of : Addr
  d__digit_of : FuncData
  f_cell : Addr
  d_cell : FuncData
  f_box : Addr
  d_box : FuncData
  f_take : Addr
  d_take : FuncData
  f_odd : Addr
  d_odd : FuncData
  f_sign : Addr
  d_sign : FuncData
  f_ask : Addr
  d_ask : FuncData
  f_caught : Addr
  d_caught : FuncData
  f_is_letters : Addr
  d_is_letters : FuncData
  f_same : Addr
  d_same : FuncData
  f_right : Addr
  d_right : FuncData
  f_law : Addr
  d_law : FuncData
  f_Rights___init__ : Addr
  d_Rights___init__ : FuncData
  f_Rights_of : Addr
  d_Rights_of : FuncData
  P_Rights_of : Addr
  f_Rights_from_digit : Addr
  d_Rights_from_digit : FuncData
  P_Rights_from_digit : Addr
  f_Rights_digit : Addr
  d_Rights_digit : FuncData
  P_Rights_digit : Addr
  f_Rights_listed : Addr
  d_Rights_listed : FuncData
  f_Rights_covers : Addr
  d_Rights_covers : FuncData
  f_Rights___or__ : Addr
  d_Rights___or__ : FuncData
  f_Rights___and__ : Addr
  d_Rights___and__ : FuncData
  f_Rights___sub__ : Addr
  d_Rights___sub__ : FuncData
  f_Rights___xor__ : Addr
  d_Rights___xor__ : FuncData
  f_Rights___eq__ : Addr
  d_Rights___eq__ : FuncData
  f_Rights___contains__ : Addr
  d_Rights___contains__ : FuncData
  C_Rights : Addr
  C_InvalidInteger : Addr
  C_InvalidRights : Addr
  C_RightsError : Addr
  C_MissingError : Addr
  C_RefusedError : Addr
  I_InvalidInteger : Addr
  I_InvalidRights : Addr
  K_DIGITS : Addr
  K_WORDS : Addr
structure Txt (w : World) (K : PySem.W.Frag) (mg : Str → Option Value) (A : Ads) : Prop where
  F_is_integer : Fun K "is_integer" "is_integer" s_is_integer A.f_is_integer A.d_is_integer
  B_is_integer : Binds K A.d_is_integer ["value", "low", "high"] []
  g_is_integer : mg "is_integer" = some (.ref A.f_is_integer)
  F_is_rights : Fun K "is_rights" "is_rights" s_is_rights A.f_is_rights A.d_is_rights
  B_is_rights : Binds K A.d_is_rights ["value"] []
  g_is_rights : mg "is_rights" = some (.ref A.f_is_rights)
  F_as_rights : Fun K "as_rights" "as_rights" s_as_rights A.f_as_rights A.d_as_rights
  B_as_rights : Binds K A.d_as_rights ["value"] []
  g_as_rights : mg "as_rights" = some (.ref A.f_as_rights)
  F__is_letters : Fun K "_is_letters" "_is_letters" s__is_letters A.f__is_letters A.d__is_letters
  B__is_letters : Binds K A.d__is_letters ["value"] []
  g__is_letters : mg "_is_letters" = some (.ref A.f__is_letters)
  F__digit_of : Fun K "_digit_of" "_digit_of" s__digit_of A.f__digit_of A.d__digit_of
  B__digit_of : Binds K A.d__digit_of ["value"] []
  g__digit_of : mg "_digit_of" = some (.ref A.f__digit_of)
  F_cell : Fun K "_law_cell" "_law_cell" s_cell A.f_cell A.d_cell
  B_cell : Binds K A.d_cell ["_law_script", "_law_k"] []
  g_cell : mg "_law_cell" = some (.ref A.f_cell)
  F_box : Fun K "_law_box" "_law_box" s_box A.f_box A.d_box
  B_box : Binds K A.d_box ["_law_cell_here"] []
  g_box : mg "_law_box" = some (.ref A.f_box)
  F_take : Fun K "_law_take" "_law_take" s_take A.f_take A.d_take
  B_take : Binds K A.d_take ["_law_box_here", "_law_many"] []
  g_take : mg "_law_take" = some (.ref A.f_take)
  F_odd : Fun K "_law_odd" "_law_odd" s_odd A.f_odd A.d_odd
  B_odd : Binds K A.d_odd ["_law_box_here"] []
  g_odd : mg "_law_odd" = some (.ref A.f_odd)
  F_sign : Fun K "_law_sign" "_law_sign" s_sign A.f_sign A.d_sign
  B_sign : Binds K A.d_sign ["_law_one", "_law_odd_here", "_law_way"] []
  g_sign : mg "_law_sign" = some (.ref A.f_sign)
  F_ask : Fun K "_law_ask" "_law_ask" s_ask A.f_ask A.d_ask
  B_ask : Binds K A.d_ask ["_law_way", "_law_odd_here"] []
  g_ask : mg "_law_ask" = some (.ref A.f_ask)
  F_caught : Fun K "_law_caught" "_law_caught" s_caught A.f_caught A.d_caught
  B_caught : Binds K A.d_caught ["_law_ask_here"] []
  g_caught : mg "_law_caught" = some (.ref A.f_caught)
  F_is_letters : Fun K "_law_is_letters" "_law_is_letters" s_is_letters A.f_is_letters A.d_is_letters
  B_is_letters : Binds K A.d_is_letters ["_law_thing"] []
  g_is_letters : mg "_law_is_letters" = some (.ref A.f_is_letters)
  F_same : Fun K "_law_same" "_law_same" s_same A.f_same A.d_same
  B_same : Binds K A.d_same ["_law_found", "_law_due"] []
  g_same : mg "_law_same" = some (.ref A.f_same)
  F_right : Fun K "_law_right" "_law_right" s_right A.f_right A.d_right
  B_right : Binds K A.d_right ["_law_odd_here", "_law_strange"] []
  g_right : mg "_law_right" = some (.ref A.f_right)
  F_law : Fun K "law" "law" s_law A.f_law A.d_law
  B_law : Binds K A.d_law ["_law_script"] []
  g_law : mg "law" = some (.ref A.f_law)
  F_Rights___init__ : FunD K "__init__" "Rights.__init__" (defArgs s_Rights___init__) (defBody s_Rights___init__) (defScope s_Rights___init__) [.str ""] [] A.f_Rights___init__ A.d_Rights___init__
  me_Rights___init__ : Meth K A.C_Rights "__init__" A.f_Rights___init__
  F_Rights_of : Fun K "of" "Rights.of" s_Rights_of A.f_Rights_of A.d_Rights_of
  cm_Rights_of : ClX.CMet K A.C_Rights (.type "type") "of" A.P_Rights_of A.f_Rights_of
  F_Rights_from_digit : Fun K "from_digit" "Rights.from_digit" s_Rights_from_digit A.f_Rights_from_digit A.d_Rights_from_digit
  B_Rights_from_digit : Binds K A.d_Rights_from_digit ["cls", "digit"] []
  cm_Rights_from_digit : ClX.CMet K A.C_Rights (.type "type") "from_digit" A.P_Rights_from_digit A.f_Rights_from_digit
  F_Rights_digit : Fun K "digit" "Rights.digit" s_Rights_digit A.f_Rights_digit A.d_Rights_digit
  B_Rights_digit : Binds K A.d_Rights_digit ["self"] []
  pr_Rights_digit : PropOf K A.C_Rights "digit" A.P_Rights_digit A.f_Rights_digit
  F_Rights_listed : Fun K "listed" "Rights.listed" s_Rights_listed A.f_Rights_listed A.d_Rights_listed
  B_Rights_listed : Binds K A.d_Rights_listed ["self"] []
  me_Rights_listed : Meth K A.C_Rights "listed" A.f_Rights_listed
  F_Rights_covers : Fun K "covers" "Rights.covers" s_Rights_covers A.f_Rights_covers A.d_Rights_covers
  B_Rights_covers : Binds K A.d_Rights_covers ["self", "other"] []
  me_Rights_covers : Meth K A.C_Rights "covers" A.f_Rights_covers
  F_Rights___or__ : Fun K "__or__" "Rights.__or__" s_Rights___or__ A.f_Rights___or__ A.d_Rights___or__
  B_Rights___or__ : Binds K A.d_Rights___or__ ["self", "other"] []
  me_Rights___or__ : Meth K A.C_Rights "__or__" A.f_Rights___or__
  F_Rights___and__ : Fun K "__and__" "Rights.__and__" s_Rights___and__ A.f_Rights___and__ A.d_Rights___and__
  B_Rights___and__ : Binds K A.d_Rights___and__ ["self", "other"] []
  me_Rights___and__ : Meth K A.C_Rights "__and__" A.f_Rights___and__
  F_Rights___sub__ : Fun K "__sub__" "Rights.__sub__" s_Rights___sub__ A.f_Rights___sub__ A.d_Rights___sub__
  B_Rights___sub__ : Binds K A.d_Rights___sub__ ["self", "other"] []
  me_Rights___sub__ : Meth K A.C_Rights "__sub__" A.f_Rights___sub__
  F_Rights___xor__ : Fun K "__xor__" "Rights.__xor__" s_Rights___xor__ A.f_Rights___xor__ A.d_Rights___xor__
  B_Rights___xor__ : Binds K A.d_Rights___xor__ ["self", "other"] []
  me_Rights___xor__ : Meth K A.C_Rights "__xor__" A.f_Rights___xor__
  F_Rights___eq__ : Fun K "__eq__" "Rights.__eq__" s_Rights___eq__ A.f_Rights___eq__ A.d_Rights___eq__
  B_Rights___eq__ : Binds K A.d_Rights___eq__ ["self", "other"] []
  me_Rights___eq__ : Meth K A.C_Rights "__eq__" A.f_Rights___eq__
  F_Rights___contains__ : Fun K "__contains__" "Rights.__contains__" s_Rights___contains__ A.f_Rights___contains__ A.d_Rights___contains__
  B_Rights___contains__ : Binds K A.d_Rights___contains__ ["self", "value"] []
  me_Rights___contains__ : Meth K A.C_Rights "__contains__" A.f_Rights___contains__
  gC_Rights : mg "Rights" = some (.ref A.C_Rights)
  c_Rights : ∃ u, mg "Rights" = some u ∧ RelV (.ref A.C_Rights) u
  cl_Rights : Cls K A.C_Rights
  mk_Rights : Mk K A.C_Rights A.f_Rights___init__
  cr_Rights : ClX.CRead K A.C_Rights (.type "type")
  in_Rights : C8.InsC K A.C_Rights
  sf_Rights : PySem.W.selfFirst K A.C_Rights = true
  cd_Rights : ∃ cd, PySem.W.clsIn K A.C_Rights = some cd ∧ cd.mro = [.ref A.C_Rights, .type "object"]
  ne_Rights : PySem.W.findIn K (.ref A.C_Rights) "__ne__" = some (some (.builtin "object.__ne__"))
  na_Rights__digit : NoAttr K A.C_Rights "_digit"
  nf_Rights_str : PySem.W.notFirst K A.C_Rights (.type "str") = true
  kt_Rights_str : PySem.W.kitOne K (.type "str") (.ref A.C_Rights) = some false
  nf_Rights_int : PySem.W.notFirst K A.C_Rights (.type "int") = true
  kt_Rights_int : PySem.W.kitOne K (.type "int") (.ref A.C_Rights) = some false
  nf_Rights_bool : PySem.W.notFirst K A.C_Rights (.type "bool") = true
  kt_Rights_bool : PySem.W.kitOne K (.type "bool") (.ref A.C_Rights) = some false
  nf_Rights_NoneType : PySem.W.notFirst K A.C_Rights (.type "NoneType") = true
  kt_Rights_NoneType : PySem.W.kitOne K (.type "NoneType") (.ref A.C_Rights) = some false
  nf_Rights_list : PySem.W.notFirst K A.C_Rights (.type "list") = true
  kt_Rights_list : PySem.W.kitOne K (.type "list") (.ref A.C_Rights) = some false
  nf_Rights_tuple : PySem.W.notFirst K A.C_Rights (.type "tuple") = true
  kt_Rights_tuple : PySem.W.kitOne K (.type "tuple") (.ref A.C_Rights) = some false
  nf_Rights_dict : PySem.W.notFirst K A.C_Rights (.type "dict") = true
  kt_Rights_dict : PySem.W.kitOne K (.type "dict") (.ref A.C_Rights) = some false
  ki_Rights_str : PySem.W.kitOne K (.ref A.C_Rights) (.type "str") = some false
  rr_Rights_or : PySem.W.findIn K (.ref A.C_Rights) (PySem.dunderR "or") = some none
  rr_Rights_and : PySem.W.findIn K (.ref A.C_Rights) (PySem.dunderR "and") = some none
  rr_Rights_sub : PySem.W.findIn K (.ref A.C_Rights) (PySem.dunderR "sub") = some none
  rr_Rights_xor : PySem.W.findIn K (.ref A.C_Rights) (PySem.dunderR "xor") = some none
  sb_Rights_str : PySem.W.subIn K (.type "str") (.ref A.C_Rights) = some false
  sb_Rights_int : PySem.W.subIn K (.type "int") (.ref A.C_Rights) = some false
  sb_Rights_bool : PySem.W.subIn K (.type "bool") (.ref A.C_Rights) = some false
  sb_Rights_NoneType : PySem.W.subIn K (.type "NoneType") (.ref A.C_Rights) = some false
  sb_Rights_list : PySem.W.subIn K (.type "list") (.ref A.C_Rights) = some false
  sb_Rights_tuple : PySem.W.subIn K (.type "tuple") (.ref A.C_Rights) = some false
  sb_Rights_dict : PySem.W.subIn K (.type "dict") (.ref A.C_Rights) = some false
  c_InvalidInteger : ∃ u, mg "InvalidInteger" = some u ∧ RelV (.ref A.C_InvalidInteger) u
  c_InvalidRights : ∃ u, mg "InvalidRights" = some u ∧ RelV (.ref A.C_InvalidRights) u
  c_RightsError : ∃ u, mg "RightsError" = some u ∧ RelV (.ref A.C_RightsError) u
  c_MissingError : ∃ u, mg "MissingError" = some u ∧ RelV (.ref A.C_MissingError) u
  c_RefusedError : ∃ u, mg "RefusedError" = some u ∧ RelV (.ref A.C_RefusedError) u
  low_InvalidInteger : PySem.ExV.LowTxt K mg "InvalidInteger" "InvalidInteger.__init__" A.C_InvalidInteger A.I_InvalidInteger
  ec_InvalidInteger : ExcC K A.C_InvalidInteger
  low_InvalidRights : PySem.ExV.LowTxt K mg "InvalidRights" "InvalidRights.__init__" A.C_InvalidRights A.I_InvalidRights
  ec_InvalidRights : ExcC K A.C_InvalidRights
  kit_InvalidRights_InvalidInteger : PySem.W.kitOne K (.ref A.C_InvalidRights) (.ref A.C_InvalidInteger) = some false
  kit_InvalidRights_MissingError : PySem.W.kitOne K (.ref A.C_InvalidRights) (.ref A.C_MissingError) = some false
  kit_InvalidRights_RefusedError : PySem.W.kitOne K (.ref A.C_InvalidRights) (.ref A.C_RefusedError) = some false
  kit_InvalidInteger_MissingError : PySem.W.kitOne K (.ref A.C_InvalidInteger) (.ref A.C_MissingError) = some false
  kit_InvalidInteger_RefusedError : PySem.W.kitOne K (.ref A.C_InvalidInteger) (.ref A.C_RefusedError) = some false
  exm_InvalidInteger_InvalidRights : PySem.W.exmOne K (.ref A.C_InvalidInteger) (.ref A.C_InvalidRights) = some false
  c_LETTERS : ∃ u, mg "LETTERS" = some u ∧ RelV (.str "rwx") u
  c_ALL_DIGIT : ∃ u, mg "ALL_DIGIT" = some u ∧ RelV (.int 7) u
  c_DIGITS : ∃ u, mg "DIGITS" = some u ∧ RelV (.ref A.K_DIGITS) u
  kd_DIGITS : ∃ es n, KDict K w A.K_DIGITS es n
  ms_DIGITS : ∀ z : Str, z ∉ (["", "x", "w", "wx", "xw", "r", "rx", "xr", "rw", "wr", "rwx", "rxw", "wrx", "wxr", "xrw", "xwr"] : List Str) → PySem.W.nsIn K A.K_DIGITS z = some none
  at_DIGITS_ : KDct K w A.K_DIGITS "" (.int 0)
  at_DIGITS_x : KDct K w A.K_DIGITS "x" (.int 1)
  at_DIGITS_w : KDct K w A.K_DIGITS "w" (.int 2)
  at_DIGITS_wx : KDct K w A.K_DIGITS "wx" (.int 3)
  at_DIGITS_xw : KDct K w A.K_DIGITS "xw" (.int 3)
  at_DIGITS_r : KDct K w A.K_DIGITS "r" (.int 4)
  at_DIGITS_rx : KDct K w A.K_DIGITS "rx" (.int 5)
  at_DIGITS_xr : KDct K w A.K_DIGITS "xr" (.int 5)
  at_DIGITS_rw : KDct K w A.K_DIGITS "rw" (.int 6)
  at_DIGITS_wr : KDct K w A.K_DIGITS "wr" (.int 6)
  at_DIGITS_rwx : KDct K w A.K_DIGITS "rwx" (.int 7)
  at_DIGITS_rxw : KDct K w A.K_DIGITS "rxw" (.int 7)
  at_DIGITS_wrx : KDct K w A.K_DIGITS "wrx" (.int 7)
  at_DIGITS_wxr : KDct K w A.K_DIGITS "wxr" (.int 7)
  at_DIGITS_xrw : KDct K w A.K_DIGITS "xrw" (.int 7)
  at_DIGITS_xwr : KDct K w A.K_DIGITS "xwr" (.int 7)
  c_WORDS : ∃ u, mg "WORDS" = some u ∧ RelV (.ref A.K_WORDS) u
  tu_WORDS : ∃ o its n, List.lookup A.K_WORDS K = some o ∧ o.cls = .type "tuple" ∧ o.data = .seq its n ∧ its.size ≤ sizeLine ∧ Vals [.str "", .str "x", .str "w", .str "wx", .str "r", .str "rx", .str "rw", .str "rwx"] its.toList
  b_bool : mg "bool" = none
  b_int : mg "int" = none
  b_isinstance : mg "isinstance" = none
  b_len : mg "len" = none
  b_list : mg "list" = none
  b_max : mg "max" = none
  b_min : mg "min" = none
  b_range : mg "range" = none
  b_repr : mg "repr" = none
  b_set : mg "set" = none
  b_str : mg "str" = none


end K09
namespace K09
open PySem PySem.Spec PyProof.Rows L2 FR TL
open C8 (pss_cut pe_gc)
open StX (pe_callS2 pa_star)
section
variable {P : Program} {w : World} {K : PySem.W.Frag} {mg : Str → Option Value} {base : Heap} {A : Ads}
set_option pp.maxSteps 120
/-- the letters of a digit -/
def lw (d : Int) : Str := if d = 0 then "" else if d = 1 then "x" else if d = 2 then "w" else if d = 3 then "wx" else if d = 4 then "r" else if d = 5 then "rx" else if d = 6 then "rw" else "rwx"
def bv (k : Str) : Int := if k = "r" then 4 else if k = "w" then 2 else 1
def bit (d : Int) (k : Str) : Bool := Builtin.bitAnd d (bv k) != 0
def keysL : List Str := ["r", "w", "x"]
theorem eight {F : Int → Prop} (h : F 0 ∧ F 1 ∧ F 2 ∧ F 3 ∧ F 4 ∧ F 5 ∧ F 6 ∧ F 7) {d : Int} (d0 : 0 ≤ d) (d1 : d ≤ 7) : F d := by
  have : d = 0 ∨ d = 1 ∨ d = 2 ∨ d = 3 ∨ d = 4 ∨ d = 5 ∨ d = 6 ∨ d = 7 := by omega
  obtain ⟨a0, a1, a2, a3, a4, a5, a6, a7⟩ := h
  rcases this with rfl | rfl | rfl | rfl | rfl | rfl | rfl | rfl <;> assumption
/-- the texts of unlike letters, with their digits -/
def goodT : List (Str × Int) := [("", 0), ("x", 1), ("w", 2), ("wx", 3), ("xw", 3), ("r", 4), ("rx", 5), ("xr", 5), ("rw", 6), ("wr", 6), ("rwx", 7), ("rxw", 7), ("wrx", 7), ("wxr", 7), ("xrw", 7), ("xwr", 7)]
theorem dg_at (T : Txt w K mg A) {t : Str} {d : Int} (h : (t, d) ∈ goodT) : KDct K w A.K_DIGITS t (.int d) := by
  simp only [goodT, List.mem_cons, List.not_mem_nil, or_false, Prod.mk.injEq] at h
  rcases h with ⟨rfl, rfl⟩ | ⟨rfl, rfl⟩ | ⟨rfl, rfl⟩ | ⟨rfl, rfl⟩ | ⟨rfl, rfl⟩ | ⟨rfl, rfl⟩ | ⟨rfl, rfl⟩ | ⟨rfl, rfl⟩ | ⟨rfl, rfl⟩ | ⟨rfl, rfl⟩ | ⟨rfl, rfl⟩ | ⟨rfl, rfl⟩ | ⟨rfl, rfl⟩ | ⟨rfl, rfl⟩ | ⟨rfl, rfl⟩ | ⟨rfl, rfl⟩
  · exact T.at_DIGITS_
  · exact T.at_DIGITS_x
  · exact T.at_DIGITS_w
  · exact T.at_DIGITS_wx
  · exact T.at_DIGITS_xw
  · exact T.at_DIGITS_r
  · exact T.at_DIGITS_rx
  · exact T.at_DIGITS_xr
  · exact T.at_DIGITS_rw
  · exact T.at_DIGITS_wr
  · exact T.at_DIGITS_rwx
  · exact T.at_DIGITS_rxw
  · exact T.at_DIGITS_wrx
  · exact T.at_DIGITS_wxr
  · exact T.at_DIGITS_xrw
  · exact T.at_DIGITS_xwr
theorem dg_in (T : Txt w K mg A) {t : Str} {d : Int} (h : (t, d) ∈ goodT) : ∃ u, PySem.W.nsIn K A.K_DIGITS t = some (some u) := by
  obtain ⟨_, _, u, _, _, hu, _⟩ := dg_at T h
  exact ⟨u, hu⟩
def wordsL : List V := [.str "", .str "x", .str "w", .str "wx", .str "r", .str "rx", .str "rw", .str "rwx"]
theorem wd_at {d : Int} (d0 : 0 ≤ d) (d1 : d ≤ 7) : atI wordsL d = some (.str (lw d)) := by
  have : d = 0 ∨ d = 1 ∨ d = 2 ∨ d = 3 ∨ d = 4 ∨ d = 5 ∨ d = 6 ∨ d = 7 := by omega
  rcases this with rfl | rfl | rfl | rfl | rfl | rfl | rfl | rfl <;> rfl
theorem wd_sq (T : Txt w K mg A) (H : Hp) : SqT K H A.K_WORDS wordsL := .inr T.tu_WORDS
theorem lw_good {d : Int} (d0 : 0 ≤ d) (d1 : d ≤ 7) : (lw d, d) ∈ goodT := eight (F := fun d => (lw d, d) ∈ goodT) (by decide +kernel) d0 d1
theorem good_in {t : Str} {d : Int} (h : (t, d) ∈ goodT) : 0 ≤ d ∧ d ≤ 7 := by
  have : goodT.all (fun p => decide (0 ≤ p.2) && decide (p.2 ≤ 7)) = true := by decide +kernel
  simpa using List.all_eq_true.mp this _ h
/-- a rights object of this digit -/
def RgO (A : Ads) (dx : Addr) (d : Int) : HO := .ins A.C_Rights dx [("_digit", .int d)]
def IsR (A : Ads) (H : Hp) (v : V) (d : Int) : Prop := ∃ a dx, v = .ref a ∧ H a = some (RgO A dx d) ∧ 0 ≤ d ∧ d ≤ 7
def spDig (A : Ads) : Sp := fun vs H Q _ => ∃ v d, vs = [v] ∧ IsR A H v d ∧ Q (.int d) H
theorem ok_Rights_digit (T : Txt w K mg A) : FnOk P w K mg base CX0 1 A.f_Rights_digit A.d_Rights_digit ["self"] (spDig A) := by
  refine T.F_Rights_digit.ok sc_Rights_digit (fun vs H Q E h => ?_) (fun cdv A_ outer s H vs Q E hr h => ?_)
  · obtain ⟨v, d, rfl, _⟩ := h
    rfl
  · obtain ⟨_, d, rfl, ⟨a, dx, rfl, ha, d0, d1⟩, q⟩ := h
    refine ⟨_, (pss_one (ps_ret (pe_fld (pv 0) rfl))), ?_⟩
    exact ⟨_, rfl, a, _, dx, _, _, rfl, ha, T.cl_Rights, T.na_Rights__digit, rfl, q⟩
/-! ### the things that are handed in -/
inductive Odd (H : Hp) : V → PyData → Prop
  | non : Odd H .non .none
  | bl (b : Bool) : Odd H (.bl b) (.bool b)
  | int (i : Int) : i.natAbs ≤ 10 ^ 30 → Odd H (.int i) (.int i)
  | str (s : Str) : s.length ≤ 20 → Asc s → Odd H (.str s) (.str s)
  | lst {a : Addr} {ws : List Str} : H a = some (.lst (ws.map V.str)) → sysModules < a → ws.length ≤ 3 → (∀ s ∈ ws, s.length ≤ 20 ∧ Asc s) → Odd H (.ref a) (.list (ws.map .str))
  | one {a : Addr} : H a = some (.lst [.int 1]) → sysModules < a → Odd H (.ref a) (.list [.int 1])
  | tup {a : Addr} {ws : List Str} : H a = some (.tup (ws.map V.str)) → ws.length ≤ 3 → (∀ s ∈ ws, s.length ≤ 20 ∧ Asc s) → Odd H (.ref a) (.tuple (ws.map .str))
  | dc0 {a : Addr} : H a = some (.dK []) → Odd H (.ref a) (.dict [])
  | dc1 {a : Addr} : H a = some (.dK [(.inr (Str.ofString "a"), .int 1)]) → Odd H (.ref a) (.dict [(.str (Str.ofString "a"), .int 1)])
def tyN : PyData → String
  | .none => "NoneType"
  | .bool _ => "bool"
  | .int _ => "int"
  | .str _ => "str"
  | .list _ => "list"
  | .tuple _ => "tuple"
  | .dict _ => "dict"
theorem Odd.ty {H : Hp} {v : V} {e : PyData} (h : Odd H v e) : TyX K H v (.type (tyN e)) := by
  cases h with
  | non => exact .base .non
  | bl b => exact .base (.bl b)
  | int i _ => exact .base (.int i)
  | str s _ _ => exact .base (.str s)
  | lst a _ _ _ => exact .base (.lst a)
  | one a _ => exact .base (.lst a)
  | tup a _ _ => exact .base (.tup a)
  | dc0 a => exact .base (.dK a)
  | dc1 a => exact .base (.dK a)
theorem Odd.keep {H H' : Hp} {v : V} {e : PyData} (h : Odd H v e) (k : ∀ a o, H a = some o → (∀ x y z, o ≠ bagO x y z) → (∀ ps, o ≠ .tbl ps) → H' a = some o) : Odd H' v e := by
  cases h with
  | non => exact .non
  | bl b => exact .bl b
  | int i h => exact .int i h
  | str s h1 h2 => exact .str s h1 h2
  | @lst a ws e b c d =>
    refine .lst (k _ _ e (fun x y z q => ?_) (fun ps q => by cases q)) b c d
    have q2 := congrArg (fun o => match o with | .lst (.int i :: _) => true | _ => false) q
    cases ws <;> cases q2
  | one e b => exact .one (k _ _ e (fun x y z q => by cases q) (fun ps q => by cases q)) b
  | tup e b c => exact .tup (k _ _ e (fun x y z q => by cases q) (fun ps q => by cases q)) b c
  | dc0 e => exact .dc0 (k _ _ e (fun x y z q => by cases q) (fun ps q => by cases q))
  | dc1 e => exact .dc1 (k _ _ e (fun x y z q => by cases q) (fun ps q => by cases q))
theorem Odd.keep0 {H H' : Hp} {v : V} {e : PyData} (h : Odd H v e) (k : Keep [] H H') : Odd H' v e := h.keep fun a o q _ _ => k a o q (by simp)
theorem Odd.keepb {H H' : Hp} {v : V} {e : PyData} {b : Addr} {x y z : Int} (h : Odd H v e) (hb : H b = some (bagO x y z)) (k : Keep [b] H H') : Odd H' v e := h.keep fun a o q n _ => k a o q (by
  intro m
  have m' : a = b := by simpa using m
  subst m'
  rw [hb] at q
  cases q
  exact n _ _ _ rfl)
/-- the digit of a text of letters -/
def letD : PyData → Option Int
  | .str t => goodT.lookup t
  | _ => none
theorem letD_str {t : Str} {d : Int} (h : letD (.str t) = some d) : (t, d) ∈ goodT := PySem.mem_of_lookup h
theorem letD_of {t : Str} {d : Int} (h : (t, d) ∈ goodT) : letD (.str t) = some d := by
  have : goodT.all (fun p => goodT.lookup p.1 == some p.2) = true := by decide +kernel
  simpa [letD] using List.all_eq_true.mp this _ h
theorem letD_no {t : Str} (h : letD (.str t) = none) : t ∉ (["", "x", "w", "wx", "xw", "r", "rx", "xr", "rw", "wr", "rwx", "rxw", "wrx", "wxr", "xrw", "xwr"] : List Str) := by
  intro m
  have : (["", "x", "w", "wx", "xw", "r", "rx", "xr", "rw", "wr", "rwx", "rxw", "wrx", "wxr", "xrw", "xwr"] : List Str).all (fun t => (goodT.lookup t).isSome) = true := by decide +kernel
  have q := List.all_eq_true.mp this _ m
  rw [show goodT.lookup t = none from h] at q
  cases q
theorem ns_dig (T : Txt w K mg A) (t : Str) : ∃ r, PySem.W.nsIn K A.K_DIGITS t = some r ∧ r.isSome = (letD (.str t)).isSome := by
  cases h : letD (.str t) with
  | none => exact ⟨_, T.ms_DIGITS t (letD_no h), rfl⟩
  | some d =>
    obtain ⟨u, hu⟩ := dg_in T (letD_str h)
    exact ⟨_, hu, rfl⟩
theorem IsR.ty (T : Txt w K mg A) {H : Hp} {v : V} {d : Int} (h : IsR A H v d) : TyX K H v (.ref A.C_Rights) := by
  obtain ⟨a, dx, rfl, ha, _⟩ := h
  exact .base (.ins ha T.in_Rights.cl T.in_Rights.ha T.in_Rights.hn T.in_Rights.htk T.in_Rights.hm)
/-- the way out: an exception of the class at C that holds v -/
def Out (C : Addr) (v : V) (E : XK) (H : Hp) : Prop := ∀ (d : Addr) (H' : Hp), Keep [] H H' → H' d = some (.xd [(("value" : Str), v)]) → E (.ref C) (some d) H'
theorem Out.mono {C : Addr} {v : V} {E : XK} {H H' : Hp} (h : Out C v E H) (k : Keep [] H H') : Out C v E H' := fun d H2 k2 e => h d H2 (k.trans k2) e
theorem Out.new {C : Addr} {v : V} {E : XK} {H : Hp} (h : Out C v E H) : ∀ d, H d = none → E (.ref C) (some d) (upd H d (.xd [(("value" : Str), v)])) := fun d hd => h d _ (keep_new hd) upd_same
def isS : PyData → Bool | .str _ => true | _ => false
theorem kit_str (e : PyData) : kitB (tyN e) "str" = some (isS e) := by
  cases e
  case none => exact (by decide +kernel : kitB "NoneType" "str" = some false)
  case bool => exact (by decide +kernel : kitB "bool" "str" = some false)
  case int => exact (by decide +kernel : kitB "int" "str" = some false)
  case str => exact (by decide +kernel : kitB "str" "str" = some true)
  case list => exact (by decide +kernel : kitB "list" "str" = some false)
  case tuple => exact (by decide +kernel : kitB "tuple" "str" = some false)
  case dict => exact (by decide +kernel : kitB "dict" "str" = some false)
def spLet (A : Ads) : Sp := fun vs H Q _ => ∃ v, vs = [v] ∧ ((∃ e, Odd H v e ∧ Q (.bl (letD e).isSome) H) ∨ (∃ d, IsR A H v d) ∧ Q (.bl false) H)
theorem ok__is_letters (T : Txt w K mg A) : FnOk P w K mg base CX0 1 A.f__is_letters A.d__is_letters ["value"] (spLet A) := by
  refine T.F__is_letters.ok sc__is_letters (fun vs H Q E h => ?_) (fun cdv A_ outer s H vs Q E hr h => ?_)
  · obtain ⟨v, rfl, _⟩ := h
    rfl
  · obtain ⟨v, rfl, h⟩ := h
    refine ⟨_, (pss_one (ps_ret (pe_and (pe_callB call_isi (by rfl) T.b_isinstance (by decide +kernel) (pa_cons (pv 0) (pa_cons (pe_bltn (v := .ty "str") rfl T.b_str (by decide +kernel) rfl) pa_nil))) (pe_one (pe_cmpR (op_inW (K := K) (w := w) rfl rfl T.kd_DIGITS) (pv 0) (pe_gc rfl T.c_DIGITS) rfl))))), ?_⟩
    rcases h with ⟨e, he, q⟩ | ⟨⟨d, hd⟩, q⟩
    · have hk := kit_str e
      have ty : TyX K H v (.type (tyN e)) := he.ty
      walk_at "rd"
      refine ⟨_, _, _, _, _, rfl, .ty _, ty, kit_ty hk, ?_⟩
      cases he with
      | str s h1 h2 =>
        obtain ⟨r, hr1, hr2⟩ := ns_dig T s
        walk_at "rd"
        refine ⟨_, _, rfl, rfl, hr1, ?_⟩
        rw [hr2]
        exact q
      | non => walk_at "rd"; exact q
      | bl b => walk_at "rd"; exact q
      | int i h => walk_at "rd"; exact q
      | lst _ _ _ _ => walk_at "rd"; exact q
      | one _ _ => walk_at "rd"; exact q
      | tup _ _ _ => walk_at "rd"; exact q
      | dc0 _ => walk_at "rd"; exact q
      | dc1 _ => walk_at "rd"; exact q
    · walk_at "rd"
      refine ⟨_, _, _, _, _, rfl, .ty _, hd.ty T, T.ki_Rights_str, ?_⟩
      walk_at "rd"
      exact q
end
end K09
namespace K09
open PySem PySem.Spec PyProof.Rows L2 FR TL
open C8 (pss_cut pe_gc)
open StX (pe_callS2 pa_star)
section
variable {P : Program} {w : World} {K : PySem.W.Frag} {mg : Str → Option Value} {base : Heap} {A : Ads}
set_option pp.maxSteps 120
theorem Odd.kt {H : Hp} {v : V} {e : PyData} (h : Odd H v e) (T : Txt w K mg A) : PySem.W.kitOne K (.type (tyN e)) (.ref A.C_Rights) = some false := by
  cases h
  · exact T.kt_Rights_NoneType
  · exact T.kt_Rights_bool
  · exact T.kt_Rights_int
  · exact T.kt_Rights_str
  · exact T.kt_Rights_list
  · exact T.kt_Rights_list
  · exact T.kt_Rights_tuple
  · exact T.kt_Rights_dict
  · exact T.kt_Rights_dict
theorem Odd.sb {H : Hp} {v : V} {e : PyData} (h : Odd H v e) (T : Txt w K mg A) : PySem.W.subIn K (.type (tyN e)) (.ref A.C_Rights) = some false := by
  cases h
  · exact T.sb_Rights_NoneType
  · exact T.sb_Rights_bool
  · exact T.sb_Rights_int
  · exact T.sb_Rights_str
  · exact T.sb_Rights_list
  · exact T.sb_Rights_list
  · exact T.sb_Rights_tuple
  · exact T.sb_Rights_dict
  · exact T.sb_Rights_dict
theorem Odd.nf {H : Hp} {v : V} {e : PyData} (h : Odd H v e) (T : Txt w K mg A) : PySem.W.notFirst K A.C_Rights (.type (tyN e)) = true := by
  cases h
  · exact T.nf_Rights_NoneType
  · exact T.nf_Rights_bool
  · exact T.nf_Rights_int
  · exact T.nf_Rights_str
  · exact T.nf_Rights_list
  · exact T.nf_Rights_list
  · exact T.nf_Rights_tuple
  · exact T.nf_Rights_dict
  · exact T.nf_Rights_dict
theorem Odd.kn {H : Hp} {v : V} {e : PyData} (h : Odd H v e) : FR.known (tyN e) "or" = true ∧ FR.known (tyN e) "and" = true ∧ FR.known (tyN e) "sub" = true ∧ FR.known (tyN e) "xor" = true := by
  cases h
  · exact (by decide +kernel : FR.known "NoneType" "or" = true ∧ FR.known "NoneType" "and" = true ∧ FR.known "NoneType" "sub" = true ∧ FR.known "NoneType" "xor" = true)
  · exact (by decide +kernel : FR.known "bool" "or" = true ∧ FR.known "bool" "and" = true ∧ FR.known "bool" "sub" = true ∧ FR.known "bool" "xor" = true)
  · exact (by decide +kernel : FR.known "int" "or" = true ∧ FR.known "int" "and" = true ∧ FR.known "int" "sub" = true ∧ FR.known "int" "xor" = true)
  · exact (by decide +kernel : FR.known "str" "or" = true ∧ FR.known "str" "and" = true ∧ FR.known "str" "sub" = true ∧ FR.known "str" "xor" = true)
  · exact (by decide +kernel : FR.known "list" "or" = true ∧ FR.known "list" "and" = true ∧ FR.known "list" "sub" = true ∧ FR.known "list" "xor" = true)
  · exact (by decide +kernel : FR.known "list" "or" = true ∧ FR.known "list" "and" = true ∧ FR.known "list" "sub" = true ∧ FR.known "list" "xor" = true)
  · exact (by decide +kernel : FR.known "tuple" "or" = true ∧ FR.known "tuple" "and" = true ∧ FR.known "tuple" "sub" = true ∧ FR.known "tuple" "xor" = true)
  · exact (by decide +kernel : FR.known "dict" "or" = true ∧ FR.known "dict" "and" = true ∧ FR.known "dict" "sub" = true ∧ FR.known "dict" "xor" = true)
  · exact (by decide +kernel : FR.known "dict" "or" = true ∧ FR.known "dict" "and" = true ∧ FR.known "dict" "sub" = true ∧ FR.known "dict" "xor" = true)
theorem lw_tl {d : Int} (d0 : 0 ≤ d) (d1 : d ≤ 7) : (tl (lw d)).map (fun c => V.str ⟨#[c]⟩) = (keysL.filter (bit d)).map V.str ∧ (lw d).cps.size ≤ sizeLine :=
  ⟨eight (F := fun d => (tl (lw d)).map (fun c => V.str ⟨#[c]⟩) = (keysL.filter (bit d)).map V.str) (by decide +kernel) d0 d1, size_le (by exact eight (F := fun d => (lw d).cps.size ≤ 1000000) (by decide +kernel) d0 d1)⟩
def spListed (A : Ads) : Sp := fun vs H Q _ => ∃ v d, vs = [v] ∧ IsR A H v d ∧ ∀ H1, Keep [] H H1 → NewS (.lst ((keysL.filter (bit d)).map V.str)) Q H1
theorem ok_Rights_listed (T : Txt w K mg A) : FnOk P w K mg base CX0 2 A.f_Rights_listed A.d_Rights_listed ["self"] (spListed A) := by
  refine T.F_Rights_listed.ok sc_Rights_listed (fun vs H Q E h => ?_) (fun cdv A_ outer s H vs Q E hr h => ?_)
  · obtain ⟨v, d, rfl, _⟩ := h
    rfl
  · obtain ⟨_, d, rfl, ⟨a, dx, rfl, ha, d0, d1⟩, q⟩ := h
    refine ⟨_, (pss_one (ps_ret (pe_callTy (call_listT rfl) (by rfl) T.b_list (by decide +kernel) (pa_cons (pe_ix ix_tup (pe_gc rfl T.c_WORDS) (pe_fld (pv 0) rfl) (fun _ _ => rfl)) pa_nil)))), ?_⟩
    refine ⟨_, rfl, a, _, dx, _, _, rfl, ha, T.cl_Rights, T.na_Rights__digit, rfl, ?_⟩
    refine ⟨_, _, _, _, rfl, rfl, wd_sq T H, wd_at d0 d1, ?_⟩
    refine ⟨_, rfl, ?_, ?_⟩
    · exact (lw_tl d0 d1).2
    · rw [(lw_tl d0 d1).1]
      exact q H Keep.refl
def spEq (A : Ads) : Sp := fun vs H Q _ => ∃ v d v', vs = [v, v'] ∧ IsR A H v d ∧ ((∃ d', IsR A H v' d' ∧ Q (.bl (decide (d = d'))) H) ∨ ((∃ e, Odd H v' e) ∧ Q (.bl false) H))
theorem ok_Rights___eq__ (T : Txt w K mg A) : FnOk P w K mg base CX0 1 A.f_Rights___eq__ A.d_Rights___eq__ ["self", "other"] (spEq A) := by
  refine T.F_Rights___eq__.ok sc_Rights___eq__ (fun vs H Q E h => ?_) (fun cdv A_ outer s H vs Q E hr h => ?_)
  · obtain ⟨v, d, v', rfl, _⟩ := h
    rfl
  · obtain ⟨_, d, v', rfl, ⟨a, dx, rfl, ha, d0, d1⟩, q⟩ := h
    refine ⟨_, (pss_one (ps_ret (pe_and (pe_callB (call_isA T.in_Rights) (by rfl) T.b_isinstance (by decide +kernel) (pa_cons (pv 1) (pa_cons (pe_gc rfl T.c_Rights) pa_nil))) (pe_one (pe_cmpR op_eq (pe_fld (pv 0) rfl) (pe_fld (pv 1) rfl) (nomark _)))))), ?_⟩
    rcases q with ⟨d', ⟨a', dx', rfl, ha', d0', d1'⟩, q⟩ | ⟨⟨e, he⟩, q⟩
    · walk_at "rd"
      refine .inl ⟨a', dx', _, rfl, ha', ?_⟩
      refine ⟨true, rfl, ?_⟩
      rw [if_pos rfl]
      refine ⟨_, rfl, a, _, dx, _, _, rfl, ha, T.cl_Rights, T.na_Rights__digit, rfl, _, rfl, a', _, dx', _, _, rfl, ha', T.cl_Rights, T.na_Rights__digit, rfl, ?_⟩
      refine ⟨rfl, ?_⟩
      rw [show decide (V.int d = V.int d') = decide (d = d') from by simp]
      exact q
    · walk_at "rd"
      refine .inr ⟨_, _, _, _, _, rfl, .own _, he.ty, he.kt T, ?_⟩
      walk_at "rd"
      exact q
def inR (d : Int) : PyData → Bool
  | .str s => decide (s ∈ keysL.filter (bit d))
  | _ => false
def spHas (A : Ads) : Sp := fun vs H Q _ => ∃ v d x e, vs = [v, x] ∧ IsR A H v d ∧ Odd H x e ∧ ∀ H1, Keep [] H H1 → Q (.bl (inR d e)) H1
theorem ok_Rights___contains__ (T : Txt w K mg A) : FnOk P w K mg base CX0 3 A.f_Rights___contains__ A.d_Rights___contains__ ["self", "value"] (spHas A) := by
  refine T.F_Rights___contains__.ok sc_Rights___contains__ (fun vs H Q E h => ?_) (fun cdv A_ outer s H vs Q E hr h => ?_)
  · obtain ⟨v, d, x, e, rfl, _⟩ := h
    rfl
  · obtain ⟨_, d, x, e, rfl, ⟨a, dx, rfl, ha, d0, d1⟩, he, q⟩ := h
    have W : Ow H [] H [] := Ow.start0
    have hk := kit_str e
    have ty : TyX K H x (.type (tyN e)) := he.ty
    refine ⟨_, (pss_one (ps_ret (pe_and (pe_callB call_isi (by rfl) T.b_isinstance (by decide +kernel) (pa_cons (pv 1) (pa_cons (pe_bltn (v := .ty "str") rfl T.b_str (by decide +kernel) rfl) pa_nil))) (pe_one (pe_cmpR (op_inT (u65 hr)) (pv 1) (pe_meth0 (pv 0) T.cl_Rights T.me_Rights_listed (ok_Rights_listed T) (hr.mono (by decide)) T.B_Rights_listed .nil pass0) rfl))))), ?_⟩
    walk_at "rd"
    refine ⟨_, _, _, _, _, rfl, .ty _, ty, kit_ty hk, ?_⟩
    cases he with
    | str z h1 h2 =>
      walk_at "rd"
      refine ⟨a, dx, _, rfl, ha, rfl, _, d, rfl, ⟨a, dx, rfl, ha, d0, d1⟩, fun H1 k1 => ?_⟩
      have W1 := W.call0 k1
      walk_at "obj"
      rename_i p H2 np sp kp hp W2
      refine ⟨p, keysL.filter (bit d), _, rfl, .inl (.inl hp), .inl ⟨rfl, rfl⟩, ?_⟩
      rw [in_strs]
      exact q H2 (k1.trans kp)
    | non => walk_at "rd"; exact q H Keep.refl
    | bl b => walk_at "rd"; exact q H Keep.refl
    | int i h => walk_at "rd"; exact q H Keep.refl
    | lst _ _ _ _ => walk_at "rd"; exact q H Keep.refl
    | one _ _ => walk_at "rd"; exact q H Keep.refl
    | tup _ _ _ => walk_at "rd"; exact q H Keep.refl
    | dc0 _ => walk_at "rd"; exact q H Keep.refl
    | dc1 _ => walk_at "rd"; exact q H Keep.refl
def isI : PyData → Bool | .int _ => true | .bool _ => true | _ => false
def isB : PyData → Bool | .bool _ => true | _ => false
theorem kit_int (e : PyData) : kitB (tyN e) "int" = some (isI e) := by
  cases e
  case none => exact (by decide +kernel : kitB "NoneType" "int" = some false)
  case bool => exact (by decide +kernel : kitB "bool" "int" = some true)
  case int => exact (by decide +kernel : kitB "int" "int" = some true)
  case str => exact (by decide +kernel : kitB "str" "int" = some false)
  case list => exact (by decide +kernel : kitB "list" "int" = some false)
  case tuple => exact (by decide +kernel : kitB "tuple" "int" = some false)
  case dict => exact (by decide +kernel : kitB "dict" "int" = some false)
/-- a whole number from lo to hi -/
def isW (lo hi : Int) : PyData → Bool
  | .int i => decide (lo ≤ i) && decide (i ≤ hi)
  | _ => false
def spInt : Sp := fun vs H Q _ => ∃ v e lo hi, vs = [v, .int lo, .int hi] ∧ Odd H v e ∧ Q (.bl (isW lo hi e)) H
theorem ok_is_integer (T : Txt w K mg A) : FnOk P w K mg base CX0 1 A.f_is_integer A.d_is_integer ["value", "low", "high"] spInt := by
  refine T.F_is_integer.ok sc_is_integer (fun vs H Q E h => ?_) (fun cdv A_ outer s H vs Q E hr h => ?_)
  · obtain ⟨v, e, lo, hi, rfl, _⟩ := h
    rfl
  · obtain ⟨v, e, lo, hi, rfl, he, q⟩ := h
    have ty : TyX K H v (.type (tyN e)) := he.ty
    refine ⟨_, (pss_one (ps_ret (pe_and (pe_callB call_isi (by rfl) T.b_isinstance (by decide +kernel) (pa_cons (pv 0) (pa_cons (pe_bltn (v := .ty "int") rfl T.b_int (by decide +kernel) rfl) pa_nil))) (pe_and (pe_not (pe_callB call_isi (by rfl) T.b_isinstance (by decide +kernel) (pa_cons (pv 0) (pa_cons (pe_bltn (v := .ty "bool") rfl T.b_bool (by decide +kernel) rfl) pa_nil)))) (pe_one (pe_chain op_le op_le (pv 1) (pv 0) (pv 2))))))), ?_⟩
    walk_at "rd"
    refine ⟨_, _, _, _, _, rfl, .ty _, ty, kit_ty (kit_int e), ?_⟩
    cases he with
    | str z h1 h2 => walk_at "rd"; exact q
    | non => walk_at "rd"; exact q
    | bl b => walk_at "rd"; exact q
    | int i h =>
      have q2 : Q (.bl (decide (lo ≤ i) && decide (i ≤ hi))) H := q
      walk_at "rd"
      refine ite2 (fun c => ?_) (fun c => ?_)
      · rw [c, Bool.true_and] at q2
        walk_at "rd"
        exact q2
      · rw [Bool.eq_false_iff.mpr c, Bool.false_and] at q2
        exact q2
    | lst _ _ _ _ => walk_at "rd"; exact q
    | one _ _ => walk_at "rd"; exact q
    | tup _ _ _ => walk_at "rd"; exact q
    | dc0 _ => walk_at "rd"; exact q
    | dc1 _ => walk_at "rd"; exact q
def spIsR (A : Ads) : Sp := fun vs H Q _ => ∃ v, vs = [v] ∧ ((∃ e, Odd H v e ∧ Q (.bl (letD e).isSome) H) ∨ (∃ d, IsR A H v d) ∧ Q (.bl true) H)
theorem ok_is_rights (T : Txt w K mg A) : FnOk P w K mg base CX0 2 A.f_is_rights A.d_is_rights ["value"] (spIsR A) := by
  refine T.F_is_rights.ok sc_is_rights (fun vs H Q E h => ?_) (fun cdv A_ outer s H vs Q E hr h => ?_)
  · obtain ⟨v, rfl, _⟩ := h
    rfl
  · obtain ⟨v, rfl, h⟩ := h
    refine ⟨_, (pss_one (ps_ret (pe_or (pe_callB (call_isA T.in_Rights) (by rfl) T.b_isinstance (by decide +kernel) (pa_cons (pv 0) (pa_cons (pe_gc rfl T.c_Rights) pa_nil))) (pe_one (pe_call (ok__is_letters T) (hr.mono (by decide)) (by rfl) T.g__is_letters T.F__is_letters.kp T.B__is_letters .nil pass0 (pa_cons (pv 0) pa_nil)))))), ?_⟩
    walk_at "rd"
    rcases h with ⟨e, he, q⟩ | ⟨⟨d, ⟨a, dx, rfl, ha, d0, d1⟩⟩, q⟩
    · refine .inr ⟨_, _, _, _, _, rfl, .own _, he.ty, he.kt T, ?_⟩
      walk_at "rd"
      exact .inl ⟨e, he, q⟩
    · refine .inl ⟨a, dx, _, rfl, ha, ?_⟩
      walk_at "rd"
      exact q
def spDigOf (A : Ads) : Sp := fun vs H Q E => ∃ v, vs = [v] ∧ ((∃ e, Odd H v e) ∧ Out A.C_InvalidRights v E H ∨ ∃ d, IsR A H v d ∧ Q (.int d) H)
theorem ok__digit_of (T : Txt w K mg A) : FnOk P w K mg base (L2.CX P w) 3 A.f__digit_of A.d__digit_of ["value"] (spDigOf A) := by
  refine T.F__digit_of.okX sc__digit_of (fun vs H Q E h => ?_) (fun cdv A_ outer s_ H vs Q E hr h => ?_)
  · obtain ⟨v, rfl, _⟩ := h
    rfl
  · obtain ⟨v, rfl, h⟩ := h
    refine ⟨_, (pss_cons (ps_if (pt_not (pt_val (pe_callB (call_isA T.in_Rights) (by rfl) T.b_isinstance (by decide +kernel) (pa_cons (pv 0) (pa_cons (pe_gc rfl T.c_Rights) pa_nil))))) (pss_one (ps_raiseLow rfl T.low_InvalidRights hr (takes_of rfl rfl rfl rfl) (pa_cons (pv 0) pa_nil))) pss_nil)
  (pss_one (ps_ret (pe_prop (pv 0) T.cl_Rights T.pr_Rights_digit (ok_Rights_digit T) (hr.mono (by decide)) T.B_Rights_digit .nil pass0 rfl)))), ?_⟩
    walk_at "rd"
    rcases h with ⟨⟨e, he⟩, q⟩ | ⟨d, ⟨a, dx, rfl, ha, d0, d1⟩, q⟩
    · refine .inr ⟨_, _, _, _, _, rfl, .own _, he.ty, he.kt T, ?_⟩
      walk_at "rd"
      exact q.new
    · refine .inl ⟨a, dx, _, rfl, ha, ?_⟩
      walk_at "rd"
      exact ⟨a, dx, _, rfl, ha, _, d, rfl, ⟨a, dx, rfl, ha, d0, d1⟩, q⟩
def Bad (A : Ads) (H : Hp) (v : V) : Prop := (∃ e, Odd H v e ∧ letD e = none) ∨ ∃ d, IsR A H v d
def spInit (A : Ads) : Sp := fun vs H Q E => ∃ x dx v, vs = [.ref x, v] ∧ H x = some (.ins A.C_Rights dx []) ∧ ((Bad A H v ∧ Out A.C_InvalidRights v E H) ∨ ∃ e d, Odd H v e ∧ letD e = some d ∧ ∀ H1, Keep [x] H H1 → H1 x = some (RgO A dx d) → Q .non H1)
theorem ok_Rights___init__ (T : Txt w K mg A) : FnOk P w K mg base (L2.CX P w) 2 A.f_Rights___init__ A.d_Rights___init__ ["self", "letters"] (spInit A) := by
  refine (T.F_Rights___init__.ok (CX := L2.CX P w) sc_Rights___init__ (fun vs H Q E h => ?_) (fun cdv A_ outer s_ H vs Q E hr h => ?_))
  · obtain ⟨x, dx, v, rfl, _⟩ := h
    rfl
  · obtain ⟨x, dx, v, rfl, hx, h⟩ := h
    refine ⟨_, (pss_cons (ps_if (pt_not (pt_val (pe_call (ok__is_letters T) (hr.mono (by decide)) (by rfl) T.g__is_letters T.F__is_letters.kp T.B__is_letters .nil pass0 (pa_cons (pv 1) pa_nil)))) (pss_one (ps_raiseLow rfl T.low_InvalidRights hr (takes_of rfl rfl rfl rfl) (pa_cons (pv 1) pa_nil))) pss_nil)
  (pss_one (ps_fld (pv 0) (pe_ix (ix_kdictK (K := K) (w := w) rfl rfl) (pe_gc rfl T.c_DIGITS) (pv 1) (fun _ _ => rfl)) rfl))), ?_⟩
    walk_at "rd"
    rcases h with ⟨⟨e, he, hl⟩ | ⟨d, hd⟩, q⟩ | ⟨e, d, he, hl, q⟩
    · refine .inl ⟨e, he, ?_⟩
      rw [hl]
      walk_at "rd"
      exact q.new
    · refine .inr ⟨⟨d, hd⟩, ?_⟩
      walk_at "rd"
      exact q.new
    · refine .inl ⟨e, he, ?_⟩
      rw [hl]
      walk_at "rd"
      cases he with
      | str t h1 h2 =>
        refine ⟨_, _, _, rfl, rfl, dg_at T (letD_str hl), ?_⟩
        refine ⟨_, rfl, x, _, dx, _, rfl, hx, T.cl_Rights, T.na_Rights__digit, by decide, ?_⟩
        exact q _ keep_upd upd_same
      | _ => cases hl
end
end K09
namespace K09
open PySem PySem.Spec PyProof.Rows L2 FR TL
open C8 (pss_cut pe_gc)
open StX (pe_callS2 pa_star)
section
variable {P : Program} {w : World} {K : PySem.W.Frag} {mg : Str → Option Value} {base : Heap} {A : Ads}
set_option pp.maxSteps 120
theorem bd_Rights___init___1 (T : Txt w K mg A) : Vals [] [] ∧ Binds K A.d_Rights___init__ ["self", "letters"] [] := by
  obtain ⟨ds, h1, h2⟩ := T.F_Rights___init__.binds1 (ps := ["self", "letters"]) 2 1 (by simp) rfl fun Tt kV doc pm an cdv ct us its h1 h2 => match us, its, h1, h2 with
    | [_, _], [_], _, _ => ⟨_, rfl, rfl⟩
  cases h1
  exact ⟨.nil, h2⟩
theorem bd_Rights___init___0 (T : Txt w K mg A) : ∃ ds, Vals [.str ""] ds ∧ Binds K A.d_Rights___init__ ["self", "letters"] ds := by
  obtain ⟨ds, h1, h2⟩ := T.F_Rights___init__.binds1 (ps := ["self", "letters"]) 1 0 (by simp) rfl fun Tt kV doc pm an cdv ct us its h1 h2 => match us, its, h1, h2 with
    | [_], [_], _, _ => ⟨_, rfl, rfl⟩
  exact ⟨ds, h1, h2⟩
/-- a new rights object of this digit -/
def NewR (A : Ads) (d : Int) (Q : VK) (H : Hp) : Prop := ∀ (x dx : Addr) (H1 : Hp), H x = none → H dx = none → Keep [] H H1 → H1 x = some (RgO A dx d) → Q (.ref x) H1
theorem keep_of_new {H H1 H2 : Hp} {x dx : Addr} {o o' : HO} (k1 : Keep [] H H1) (hx : H1 x = none) (hdx : H1 dx = none) (k2 : Keep [x] (upd (upd H1 dx o) x o') H2) : Keep [] H H2 := fun b u e _ => by
  have e1 := k1 b u e (by simp)
  have n1 : b ≠ dx := ne_of_none e1 hdx
  have n2 : b ≠ x := ne_of_none e1 hx
  refine k2 b u ?_ (by simpa using n2)
  rw [upd_ne n2, upd_ne n1]
  exact e1
theorem keep_two {H : Hp} {x dx : Addr} {o o' : HO} (hx : H x = none) (hdx : H dx = none) : Keep [] H (upd (upd H dx o) x o') := fun b u e _ => by
  rw [upd_ne (ne_of_none e hx), upd_ne (ne_of_none e hdx)]
  exact e
theorem or_in {d d' : Int} (d0 : 0 ≤ d) (d1 : d ≤ 7) (e0 : 0 ≤ d') (e1 : d' ≤ 7) : 0 ≤ Builtin.bitOr d d' ∧ Builtin.bitOr d d' ≤ 7 :=
  eight (F := fun d => ∀ d', 0 ≤ d' → d' ≤ 7 → 0 ≤ Builtin.bitOr d d' ∧ Builtin.bitOr d d' ≤ 7) (by
    refine ⟨?_, ?_, ?_, ?_, ?_, ?_, ?_, ?_⟩ <;> exact fun d' a b => eight (F := fun e => 0 ≤ Builtin.bitOr _ e ∧ Builtin.bitOr _ e ≤ 7) (by decide +kernel) a b) d0 d1 d' e0 e1
def spBin (A : Ads) (f : Int → Int → Int) : Sp := fun vs H Q E => ∃ v d v', vs = [v, v'] ∧ IsR A H v d ∧ ((∃ d', IsR A H v' d' ∧ NewR A (f d d') Q H) ∨ (∃ e, Odd H v' e) ∧ Out A.C_InvalidRights v' E H)
def spBad (A : Ads) : Sp := fun vs H Q E => ∃ v d v', vs = [v, v'] ∧ IsR A H v d ∧ (∃ e, Odd H v' e) ∧ Out A.C_InvalidRights v' E H
theorem good_odd {H : Hp} {d : Int} (d0 : 0 ≤ d) (d1 : d ≤ 7) : ∃ e, Odd H (.str (lw d)) e ∧ letD e = some d := by
  refine ⟨.str (lw d), .str _ ?_ ?_, letD_of (lw_good d0 d1)⟩
  · exact eight (F := fun d => (lw d).length ≤ 20) (by decide +kernel) d0 d1
  · exact .of (eight (F := fun d => (tl (lw d)).all (fun c => decide (c < 128)) = true) (by decide +kernel) d0 d1)
theorem ok_Rights___or__ (T : Txt w K mg A) : FnOk P w K mg base (L2.CX P w) 5 A.f_Rights___or__ A.d_Rights___or__ ["self", "other"] (spBin A Builtin.bitOr) := by
  refine T.F_Rights___or__.okX sc_Rights___or__ (fun vs H Q E h => ?_) (fun cdv A_ outer s_ H vs Q E hr h => ?_)
  · obtain ⟨v, d, v', rfl, _⟩ := h
    rfl
  · obtain ⟨_, d, v', rfl, ⟨a, dx, rfl, ha, d0, d1⟩, h⟩ := h
    refine ⟨_, (pss_one (ps_ret (pe_make T.mk_Rights (ok_Rights___init__ T) (hr.mono (by decide)) (by rfl) T.gC_Rights (bd_Rights___init___1 T).2 (bd_Rights___init___1 T).1 (pxE rfl rfl rfl rfl) (pa_cons (pe_ix ix_tup (pe_gc rfl T.c_WORDS) (pe_op op_or (pe_fld (pv 0) rfl) (pe_callS (ok__digit_of T) (hr.mono (by decide)) (by rfl) T.g__digit_of T.F__digit_of.kp T.B__digit_of (fun σ => passAt (takes_of rfl rfl rfl rfl) σ) (pa_cons (pv 1) pa_nil))) (fun _ _ => rfl)) pa_nil)))), ?_⟩
    refine ⟨_, rfl, a, _, dx, _, _, rfl, ha, T.cl_Rights, T.na_Rights__digit, rfl, ?_⟩
    walk_at "rd"
    rcases h with ⟨d', ⟨a', dx', rfl, ha', d0', d1'⟩, q⟩ | ⟨⟨e, he⟩, q⟩
    · refine .inr ⟨d', ⟨a', dx', rfl, ha', d0', d1'⟩, ?_⟩
      refine ⟨_, _, rfl, rfl, ?_⟩
      obtain ⟨f0, f1⟩ := or_in d0 d1 d0' d1'
      refine ⟨_, _, _, _, rfl, rfl, wd_sq T H, wd_at f0 f1, ?_⟩
      intro x dy hx hdy hne
      obtain ⟨e, he, hl⟩ := good_odd (H := upd (upd H dy (.own x)) x (.ins A.C_Rights dy [])) f0 f1
      refine ⟨x, dy, _, rfl, upd_same, .inr ⟨e, _, he, hl, fun H2 k2 h2 => ⟨rfl, ?_⟩⟩⟩
      exact q x dy H2 hx hdy (keep_of_new Keep.refl hx hdy k2) h2
    · exact .inl ⟨⟨e, he⟩, q⟩
theorem ok_Rights___and__ (T : Txt w K mg A) : FnOk P w K mg base (L2.CX P w) 5 A.f_Rights___and__ A.d_Rights___and__ ["self", "other"] (spBad A) := by
  refine T.F_Rights___and__.okX sc_Rights___and__ (fun vs H Q E h => ?_) (fun cdv A_ outer s_ H vs Q E hr h => ?_)
  · obtain ⟨v, d, v', rfl, _⟩ := h
    rfl
  · obtain ⟨_, d, v', rfl, ⟨a, dx, rfl, ha, d0, d1⟩, he, q⟩ := h
    refine ⟨_, (pss_one (ps_ret (pe_make T.mk_Rights (ok_Rights___init__ T) (hr.mono (by decide)) (by rfl) T.gC_Rights (bd_Rights___init___1 T).2 (bd_Rights___init___1 T).1 (pxE rfl rfl rfl rfl) (pa_cons (pe_ix ix_tup (pe_gc rfl T.c_WORDS) (pe_op op_and (pe_fld (pv 0) rfl) (pe_callS (ok__digit_of T) (hr.mono (by decide)) (by rfl) T.g__digit_of T.F__digit_of.kp T.B__digit_of (fun σ => passAt (takes_of rfl rfl rfl rfl) σ) (pa_cons (pv 1) pa_nil))) (fun _ _ => rfl)) pa_nil)))), ?_⟩
    refine ⟨_, rfl, a, _, dx, _, _, rfl, ha, T.cl_Rights, T.na_Rights__digit, rfl, ?_⟩
    walk_at "rd"
    exact .inl ⟨he, q⟩
theorem ok_Rights___sub__ (T : Txt w K mg A) : FnOk P w K mg base (L2.CX P w) 5 A.f_Rights___sub__ A.d_Rights___sub__ ["self", "other"] (spBad A) := by
  refine T.F_Rights___sub__.okX sc_Rights___sub__ (fun vs H Q E h => ?_) (fun cdv A_ outer s_ H vs Q E hr h => ?_)
  · obtain ⟨v, d, v', rfl, _⟩ := h
    rfl
  · obtain ⟨_, d, v', rfl, ⟨a, dx, rfl, ha, d0, d1⟩, he, q⟩ := h
    refine ⟨_, (pss_one (ps_ret (pe_make T.mk_Rights (ok_Rights___init__ T) (hr.mono (by decide)) (by rfl) T.gC_Rights (bd_Rights___init___1 T).2 (bd_Rights___init___1 T).1 (pxE rfl rfl rfl rfl) (pa_cons (pe_ix ix_tup (pe_gc rfl T.c_WORDS) (pe_op op_and (pe_fld (pv 0) rfl) (pe_un un_inv (pe_callS (ok__digit_of T) (hr.mono (by decide)) (by rfl) T.g__digit_of T.F__digit_of.kp T.B__digit_of (fun σ => passAt (takes_of rfl rfl rfl rfl) σ) (pa_cons (pv 1) pa_nil)))) (fun _ _ => rfl)) pa_nil)))), ?_⟩
    refine ⟨_, rfl, a, _, dx, _, _, rfl, ha, T.cl_Rights, T.na_Rights__digit, rfl, ?_⟩
    walk_at "rd"
    exact .inl ⟨he, q⟩
theorem ok_Rights___xor__ (T : Txt w K mg A) : FnOk P w K mg base (L2.CX P w) 5 A.f_Rights___xor__ A.d_Rights___xor__ ["self", "other"] (spBad A) := by
  refine T.F_Rights___xor__.okX sc_Rights___xor__ (fun vs H Q E h => ?_) (fun cdv A_ outer s_ H vs Q E hr h => ?_)
  · obtain ⟨v, d, v', rfl, _⟩ := h
    rfl
  · obtain ⟨_, d, v', rfl, ⟨a, dx, rfl, ha, d0, d1⟩, he, q⟩ := h
    refine ⟨_, (pss_one (ps_ret (pe_make T.mk_Rights (ok_Rights___init__ T) (hr.mono (by decide)) (by rfl) T.gC_Rights (bd_Rights___init___1 T).2 (bd_Rights___init___1 T).1 (pxE rfl rfl rfl rfl) (pa_cons (pe_ix ix_tup (pe_gc rfl T.c_WORDS) (pe_op op_xor (pe_fld (pv 0) rfl) (pe_callS (ok__digit_of T) (hr.mono (by decide)) (by rfl) T.g__digit_of T.F__digit_of.kp T.B__digit_of (fun σ => passAt (takes_of rfl rfl rfl rfl) σ) (pa_cons (pv 1) pa_nil))) (fun _ _ => rfl)) pa_nil)))), ?_⟩
    refine ⟨_, rfl, a, _, dx, _, _, rfl, ha, T.cl_Rights, T.na_Rights__digit, rfl, ?_⟩
    walk_at "rd"
    exact .inl ⟨he, q⟩
theorem ok_Rights_covers (T : Txt w K mg A) : FnOk P w K mg base (L2.CX P w) 4 A.f_Rights_covers A.d_Rights_covers ["self", "other"] (spBad A) := by
  refine T.F_Rights_covers.okX sc_Rights_covers (fun vs H Q E h => ?_) (fun cdv A_ outer s_ H vs Q E hr h => ?_)
  · obtain ⟨v, d, v', rfl, _⟩ := h
    rfl
  · obtain ⟨_, d, v', rfl, ⟨a, dx, rfl, ha, d0, d1⟩, he, q⟩ := h
    refine ⟨_, (pss_cons (ps_set (i := 2) sc_Rights_covers.nd rfl (.inl rfl) (pe_callS (ok__digit_of T) (hr.mono (by decide)) (by rfl) T.g__digit_of T.F__digit_of.kp T.B__digit_of (fun σ => passAt (takes_of rfl rfl rfl rfl) σ) (pa_cons (pv 1) pa_nil)))
  (pss_one (ps_ret (pe_cmpR op_eq (pe_op op_and (pe_fld (pv 0) rfl) (pv 2)) (pv 2) (nomark _))))), ?_⟩
    walk_at "rd"
    exact .inl ⟨he, q⟩
def BadE (H : Hp) (v : V) : Prop := ∃ e, Odd H v e ∧ letD e = none
def spAsR (A : Ads) : Sp := fun vs H Q E => ∃ v, vs = [v] ∧ ((∃ d, IsR A H v d ∧ Q v H) ∨ (∃ e d, Odd H v e ∧ letD e = some d ∧ NewR A d Q H) ∨ (BadE H v ∧ Out A.C_InvalidRights v E H))
theorem ok_as_rights (T : Txt w K mg A) : FnOk P w K mg base (L2.CX P w) 4 A.f_as_rights A.d_as_rights ["value"] (spAsR A) := by
  refine T.F_as_rights.okX sc_as_rights (fun vs H Q E h => ?_) (fun cdv A_ outer s_ H vs Q E hr h => ?_)
  · obtain ⟨v, rfl, _⟩ := h
    rfl
  · obtain ⟨v, rfl, h⟩ := h
    refine ⟨_, (pss_one (ps_ret (pe_ifExp (pt_val (pe_callB (call_isA T.in_Rights) (by rfl) T.b_isinstance (by decide +kernel) (pa_cons (pv 0) (pa_cons (pe_gc rfl T.c_Rights) pa_nil)))) (pv 0) (pe_make T.mk_Rights (ok_Rights___init__ T) (hr.mono (by decide)) (by rfl) T.gC_Rights (bd_Rights___init___1 T).2 (bd_Rights___init___1 T).1 (pxE rfl rfl rfl rfl) (pa_cons (pv 0) pa_nil))))), ?_⟩
    have key : ∀ {e : PyData}, Odd H v e → ∀ {x dy : Addr}, H x = none → H dy = none → Odd (upd (upd H dy (.own x)) x (.ins A.C_Rights dy [])) v e := fun he _ _ hx hdy => he.keep0 (keep_two hx hdy)
    rcases h with ⟨d, ⟨a, dx, rfl, ha, d0, d1⟩, q⟩ | ⟨e, d, he, hl, q⟩ | ⟨⟨e, he, hl⟩, q⟩
    · walk_at "rd"
      refine .inl ⟨a, dx, _, rfl, ha, ?_⟩
      refine ⟨true, rfl, ?_⟩
      refine ifT rfl ?_
      exact ⟨_, rfl, q⟩
    · walk_at "rd"
      refine .inr ⟨_, _, _, _, _, rfl, .own _, he.ty, he.kt T, ?_⟩
      refine ⟨false, rfl, ?_⟩
      refine ifF rfl ?_
      walk_at "rd"
      intro x dy hx hdy hne
      refine ⟨x, dy, _, rfl, upd_same, .inr ⟨e, d, key he hx hdy, hl, fun H2 k2 h2 => ⟨rfl, ?_⟩⟩⟩
      exact q x dy H2 hx hdy (keep_of_new Keep.refl hx hdy k2) h2
    · walk_at "rd"
      refine .inr ⟨_, _, _, _, _, rfl, .own _, he.ty, he.kt T, ?_⟩
      refine ⟨false, rfl, ?_⟩
      refine ifF rfl ?_
      walk_at "rd"
      intro x dy hx hdy hne
      exact ⟨x, dy, _, rfl, upd_same, .inl ⟨.inl ⟨e, key he hx hdy, hl⟩, q.mono (keep_two hx hdy)⟩⟩
def spFrom (A : Ads) : Sp := fun vs H Q E => ∃ v e, vs = [.ref A.C_Rights, v] ∧ Odd H v e ∧ ((∃ d : Int, v = .int d ∧ 0 ≤ d ∧ d ≤ 7 ∧ NewR A d Q H) ∨ (isW 0 7 e = false ∧ Out A.C_InvalidInteger v E H))
theorem ok_Rights_from_digit (T : Txt w K mg A) : FnOk P w K mg base (L2.CX P w) 4 A.f_Rights_from_digit A.d_Rights_from_digit ["cls", "digit"] (spFrom A) := by
  refine T.F_Rights_from_digit.okX sc_Rights_from_digit (fun vs H Q E h => ?_) (fun cdv A_ outer s_ H vs Q E hr h => ?_)
  · obtain ⟨v, e, rfl, _⟩ := h
    rfl
  · obtain ⟨v, e, rfl, he, h⟩ := h
    refine ⟨_, (pss_cons (ps_if (pt_not (pt_val (pe_call (ok_is_integer T) (hr.mono (by decide)) (by rfl) T.g_is_integer T.F_is_integer.kp T.B_is_integer .nil pass0 (pa_cons (pv 1) (pa_cons pe_int (pa_cons (pe_gc rfl T.c_ALL_DIGIT) pa_nil)))))) (pss_one (ps_raiseLow rfl T.low_InvalidInteger hr (takes_of rfl rfl rfl rfl) (pa_cons (pv 1) pa_nil))) pss_nil)
  (pss_one (ps_ret (pe_makeL (pv 0) T.mk_Rights (ok_Rights___init__ T) (hr.mono (by decide)) (bd_Rights___init___1 T).2 (bd_Rights___init___1 T).1 (pxE rfl rfl rfl rfl) (pa_cons (pe_ix ix_tup (pe_gc rfl T.c_WORDS) (pv 1) (fun _ _ => rfl)) pa_nil))))), ?_⟩
    walk_at "rd"
    refine ⟨v, e, 0, 7, rfl, he, ?_⟩
    rcases h with ⟨d, rfl, d0, d1, q⟩ | ⟨hw, q⟩
    · obtain rfl : e = .int d := by cases he; rfl
      rw [show isW 0 7 (.int d) = true from by simp [isW, d0, d1]]
      refine ⟨_, rfl, ?_⟩
      refine ifF rfl ?_
      refine ⟨rfl, ?_⟩
      refine ⟨_, rfl, _, _, _, _, rfl, rfl, wd_sq T H, wd_at d0 d1, ?_⟩
      intro x dy hx hdy hne
      obtain ⟨e, he, hl⟩ := good_odd (H := upd (upd H dy (.own x)) x (.ins A.C_Rights dy [])) d0 d1
      refine ⟨x, dy, _, rfl, upd_same, .inr ⟨e, _, he, hl, fun H2 k2 h2 => ⟨rfl, ?_⟩⟩⟩
      exact q x dy H2 hx hdy (keep_of_new Keep.refl hx hdy k2) h2
    · rw [hw]
      walk_at "rd"
      exact q.new
end
end K09
namespace K09
open PySem PySem.Spec PyProof.Rows L2 FR TL
open C8 (pss_cut pe_gc)
open StX (pe_callS2 pa_star)
section
variable {P : Program} {w : World} {K : PySem.W.Frag} {mg : Str → Option Value} {base : Heap} {A : Ads}
set_option pp.maxSteps 120
/-- what stands for rights of this digit -/
def Part (A : Ads) (H : Hp) (v : V) (d : Int) : Prop := IsR A H v d ∨ ∃ e, Odd H v e ∧ letD e = some d
theorem IsR.keep {H H' : Hp} {v : V} {d : Int} (h : IsR A H v d) (k : Keep [] H H') : IsR A H' v d := by
  obtain ⟨a, dx, rfl, ha, r⟩ := h
  exact ⟨a, dx, rfl, k _ _ ha (by simp), r⟩
theorem Part.keep {H H' : Hp} {v : V} {d : Int} (h : Part A H v d) (k : Keep [] H H') : Part A H' v d := h.imp (fun z => IsR.keep z k) fun ⟨e, he, hl⟩ => ⟨e, he.keep0 k, hl⟩
theorem letD_in {e : PyData} {d : Int} (h : letD e = some d) : 0 ≤ d ∧ d ≤ 7 := by
  cases e with
  | str t => exact good_in (letD_str h)
  | _ => cases h
theorem Part.in_ {H : Hp} {v : V} {d : Int} (h : Part A H v d) : 0 ≤ d ∧ d ≤ 7 := by
  rcases h with ⟨a, dx, rfl, ha, d0, d1⟩ | ⟨e, he, g⟩
  · exact ⟨d0, d1⟩
  · exact letD_in g
theorem BadE.keep {H H' : Hp} {v : V} (h : BadE H v) (k : Keep [] H H') : BadE H' v := h.elim fun e z => ⟨e, z.1.keep0 k, z.2⟩
/-- the letters of all together -/
def orAll (ds : List Int) : Int := ds.foldl Builtin.bitOr 0
theorem orAll_in : ∀ (ds : List Int), (∀ d ∈ ds, 0 ≤ d ∧ d ≤ 7) → ∀ a : Int, 0 ≤ a → a ≤ 7 → 0 ≤ ds.foldl Builtin.bitOr a ∧ ds.foldl Builtin.bitOr a ≤ 7
  | [], _, a, a0, a1 => ⟨a0, a1⟩
  | d :: r, h, a, a0, a1 => by
    obtain ⟨d0, d1⟩ := h d (by simp)
    obtain ⟨o0, o1⟩ := or_in a0 a1 d0 d1
    exact orAll_in r (fun e he => h e (by simp [he])) _ o0 o1
theorem bin_at {H : Hp} {r1 dr1 r2 dr2 : Addr} {d e : Int} {Q : VK} {E : XK} {n : String} (h1 : H r1 = some (RgO A dr1 d)) (h2 : H r2 = some (RgO A dr2 e)) (d0 : 0 ≤ d) (d1 : d ≤ 7) (e0 : 0 ≤ e) (e1 : e ≤ 7) (q : NewR A (Builtin.bitOr d e) Q H) :
    rBinX K A.C_Rights n (fun vs H Q E => spBin A Builtin.bitOr (vs ++ []) H Q E) E (.ref r1) (.ref r2) H Q := ⟨r1, dr1, _, rfl, h1, .inl ⟨r2, dr2, _, rfl, h2, _, d, _, rfl, ⟨r1, dr1, rfl, h1, d0, d1⟩, .inl ⟨e, ⟨r2, dr2, rfl, h2, e0, e1⟩, q⟩⟩⟩
/-- what comes of the parts: all stand for rights, or the first that doesn't is let out -/
def OfEnd (A : Ads) (ps : List (V × Int)) (rest : List V) (H : Hp) (Q : VK) (E : XK) : Prop := (rest = [] ∧ NewR A (orAll (ps.map (·.2))) Q H) ∨ ∃ v r, rest = v :: r ∧ BadE H v ∧ Out A.C_InvalidRights v E H
def spOf0 (A : Ads) : Sp := fun vs H Q E => ∃ (t : Addr) (ps : List (V × Int)) (rest : List V), vs = [.ref A.C_Rights, .ref t] ∧ H t = some (.tup (ps.map (·.1) ++ rest)) ∧ (∀ p ∈ ps, Part A H p.1 p.2) ∧ OfEnd A ps rest H Q E
def spOf (A : Ads) : Sp := fun vs H Q E => ∃ (ps : List (V × Int)) (rest : List V), vs = .ref A.C_Rights :: (ps.map (·.1) ++ rest) ∧ ps.length + rest.length ≤ 100 ∧ (∀ p ∈ ps, Part A H p.1 p.2) ∧ OfEnd A ps rest H Q E
theorem NewR.new {d : Int} {Q : VK} {H : Hp} {p : Addr} {o : HO} (q : NewR A d Q H) (np : H p = none) : NewR A d Q (upd H p o) := fun x dx H1 hx hdx k h => q x dx H1 ((keep_new np).free hx) ((keep_new np).free hdx) ((keep_new np).trans k) h
theorem ok_Rights_of (T : Txt w K mg A) : FnR P w K mg base (L2.CX P w) 6 A.f_Rights_of (spOf A) := by
  refine FnR.imp (okStarX (ps := ["cls"]) (pv := "parts") (sp := spOf0 A) T.F_Rights_of sc_Rights_of (fun kV doc pm an cdv ct us rest hl => ?_) (fun cdv A_ outer s_ H vs Q E hr h => ?_)) fun vs H Q E h => ?_
  · exact StX.bind_star1 (B := fun us => bindArgs (PySem.W.fnOf "of" "Rights.of" (defArgs s_Rights_of) (defBody s_Rights_of) (defScope s_Rights_of) .none kV doc pm an cdv ct) ⟨us, []⟩) (fun a => rfl) (fun a r rs => rfl) us rest hl
  · obtain ⟨t, ps, rest, rfl, ht, hp, q⟩ := h
    refine ⟨_, (pss_cons (ps_set (i := 2) sc_Rights_of.nd rfl (.inl rfl) (pe_makeL0 (pv 0) T.mk_Rights (ok_Rights___init__ T) (hr.mono (by decide)) (bd_Rights___init___0 T).choose_spec.2 (bd_Rights___init___0 T).choose_spec.1 (pxE rfl rfl rfl rfl)))
  (pss_cons (ps_for (passes_of rfl) rfl (pi_tup (pv 1)) (pg_name (i := 3) sc_Rights_of.nd rfl (.inl rfl)) (pss_one (ps_set (i := 2) sc_Rights_of.nd rfl (.inl rfl) (pe_op (op_binX T.sf_Rights T.me_Rights___or__.at_ T.rr_Rights_or T.me_Rights___or__.fn ((ok_Rights___or__ T).raw T.B_Rights___or__ .nil) (hr.mono (by decide)) (pxE rfl rfl rfl rfl)) (pv 2) (pe_callS (ok_as_rights T) (hr.mono (by decide)) (by rfl) T.g_as_rights T.F_as_rights.kp T.B_as_rights (fun σ => passAt (takes_of rfl rfl rfl rfl) σ) (pa_cons (pv 3) pa_nil))))))
  (pss_one (ps_ret (pv 2))))), ?_⟩
    have W : Ow H [] H [] := Ow.start0
    walk_at "rd"
    refine ⟨rfl, ?_⟩
    intro r1 dr1 hr1 hdr1 hne1
    obtain ⟨e0, he0, hl0⟩ := good_odd (H := upd (upd H dr1 (.own r1)) r1 (.ins A.C_Rights dr1 [])) (Int.le_refl 0) (by decide)
    refine ⟨r1, dr1, _, rfl, upd_same, .inr ⟨e0, 0, he0, hl0, fun H2 k2 h2 => ⟨rfl, ?_⟩⟩⟩
    have K2 := keep_of_new Keep.refl hr1 hdr1 k2
    walk_at "rd"
    have ht2 := K2 _ _ ht (by simp)
    refine ⟨⟨_, .inl (.inl ht2)⟩, ?_⟩
    refine for_tu (a := t) (xs := ps.map (·.1) ++ rest) (fun pre σ H' => ∃ r dr y, σ = [some (.ref A.C_Rights), some (.ref t), some (.ref r), y] ∧ pre.length ≤ ps.length ∧ Keep [] H H' ∧ H r = none ∧ H dr = none ∧ H' r = some (RgO A dr (orAll ((ps.take pre.length).map (·.2))))) ⟨r1, dr1, _, rfl, Nat.zero_le _, K2, hr1, hdr1, h2⟩ ?_ ?_ ?_
    · rintro pre post σ H3 e ⟨r, dr, y, rfl, _, k3, _⟩
      exact .inl (.inl (k3 _ _ ht (by simp)))
    · rintro pre v post σ H3 e ⟨r, dr, y, rfl, hle, k3, hr0, hdr0, hr3⟩
      by_cases hlt : pre.length < ps.length
      · obtain ⟨z, hz, rfl⟩ : ∃ z, ps[pre.length]? = some z ∧ z.1 = v := by
          have h1 := congrArg (fun l => l[pre.length]?) e
          simp only [List.getElem?_append_right (Nat.le_refl _), Nat.sub_self, List.getElem?_cons_zero] at h1
          rw [List.getElem?_append_left (by simpa using hlt), List.getElem?_map] at h1
          cases hz : ps[pre.length]? with
          | none => rw [hz] at h1; cases h1
          | some z => rw [hz] at h1; exact ⟨z, rfl, Option.some.inj h1⟩
        have hzm := List.mem_of_getElem? hz
        have hzp := hp z hzm
        obtain ⟨z0, z1⟩ := Part.in_ hzp
        have ea : orAll ((ps.take (pre ++ [z.1]).length).map (·.2)) = Builtin.bitOr (orAll ((ps.take pre.length).map (·.2))) z.2 := by
          rw [List.length_append, List.length_singleton, List.take_add_one, hz]
          unfold orAll
          rw [List.map_append, List.foldl_append]
          rfl
        obtain ⟨o0, o1⟩ := orAll_in ((ps.take pre.length).map (·.2)) (fun d hd => by
          obtain ⟨y, hy, rfl⟩ := List.mem_map.mp hd
          exact Part.in_ (hp y (List.mem_of_mem_take hy))) 0 (by decide) (by decide)
        obtain ⟨zv, zd⟩ := z
        dsimp only at ea z0 z1 hzp
        have main : ∀ (v2 dv2 : Addr) (H4 : Hp) (F : VK) (E : XK) (n : String), Keep [] H3 H4 → H4 v2 = some (RgO A dv2 zd) → (∀ (x dx : Addr) (H5 : Hp), Keep [] H H5 → H x = none → H dx = none → H5 x = some (RgO A dx (orAll ((ps.take (pre ++ [zv]).length).map (·.2)))) → F (.ref x) H5) →
            rBinX K A.C_Rights n (fun vs H Q E => spBin A Builtin.bitOr (vs ++ []) H Q E) E (.ref r) (.ref v2) H4 F := by
          intro v2 dv2 H4 F E n k4 hv4 f
          refine bin_at (k4 _ _ hr3 (by simp)) hv4 o0 o1 z0 z1 ?_
          intro x dx H5 hx hdx k5 h5
          have k34 : Keep [] H H4 := Keep.trans k3 k4
          refine f x dx H5 (k34.trans k5) (k34.free hx) (k34.free hdx) ?_
          rw [ea]
          exact h5
        have hle2 : (pre ++ [zv]).length ≤ ps.length := by rw [List.length_append, List.length_singleton]; omega
        walk_at "rd"
        rcases hzp with ⟨a, dx, rfl, ha, _⟩ | ⟨e', he', g⟩
        · have ha3 := k3 _ _ ha (by simp)
          refine .inl ⟨zd, ⟨a, dx, rfl, ha3, z0, z1⟩, ?_⟩
          refine main a dx H3 _ _ _ Keep.refl ha3 fun x dx' H5 k5 n1 n2 h5 => ?_
          exact ⟨x, dx', _, rfl, hle2, k5, n1, n2, h5⟩
        · refine .inr (.inl ⟨e', zd, he'.keep0 k3, g, ?_⟩)
          intro v2 dv2 H4 hv2 hdv2 k4 h4
          refine main v2 dv2 H4 _ _ _ k4 h4 fun x dx' H5 k5 n1 n2 h5 => ?_
          exact ⟨x, dx', _, rfl, hle2, k5, n1, n2, h5⟩
      · have hpl : pre.length = ps.length := by omega
        have er : rest = v :: post := by
          have h1 := congrArg (List.drop ps.length) e
          rw [List.drop_append_of_le_length (by simp), List.drop_of_length_le (by simp)] at h1
          rw [← hpl, List.drop_append_of_le_length (by simp), List.drop_of_length_le (by simp)] at h1
          simpa using h1
        rcases q with ⟨z, _⟩ | ⟨v', r', z, hb, q⟩
        · rw [z] at er; cases er
        · rw [z] at er
          injection er with er1 er2
          subst er1
          walk_at "rd"
          exact .inr (.inr ⟨hb.keep k3, q.mono k3⟩)
    · rintro σ H3 ⟨r, dr, y, rfl, hle, k3, hr0, hdr0, hr3⟩
      have hle' : ps.length + rest.length ≤ ps.length := by simpa using hle
      have hn : rest = [] := List.length_eq_zero_iff.mp (by omega)
      subst hn
      rcases q with ⟨_, q⟩ | ⟨v', r', z, _⟩
      · walk_at "rd"
        refine q r dr H3 hr0 hdr0 k3 ?_
        rw [hr3, List.append_nil, List.length_map, List.take_length]
      · cases z
  · obtain ⟨ps, rest, rfl, hl, hp, q⟩ := h
    refine ⟨[.ref A.C_Rights], ps.map (·.1) ++ rest, rfl, rfl, size_le (by rw [List.length_append, List.length_map]; omega), fun p hp0 => ?_⟩
    refine ⟨p, ps, rest, rfl, upd_same, fun z hz => (hp z hz).keep (keep_new hp0), ?_⟩
    rcases q with ⟨e, q⟩ | ⟨v, r, e, hb, q⟩
    · exact .inl ⟨e, q.new hp0⟩
    · exact .inr ⟨v, r, e, hb.keep (keep_new hp0), q.mono (keep_new hp0)⟩
end
end K09
namespace K09
open PySem PySem.Spec PyProof.Rows L2 FR TL
open C8 (pss_cut pe_gc)
open StX (pe_callS2 pa_star)
section
variable {P : Program} {w : World} {K : PySem.W.Frag} {mg : Str → Option Value} {base : Heap} {A : Ads}
set_option pp.maxSteps 120
/-! ### letters, each once -/
def isL (c : Nat) : Bool := decide (c ∈ tl (Str.ofString "rwx"))
def L3 : List Nat := [114, 119, 120]
theorem isL_mem {c : Nat} (h : isL c = true) : c ∈ L3 := by
  have e : tl (Str.ofString "rwx") = L3 := by decide +kernel
  have := of_decide_eq_true h
  rwa [e] at this
theorem meet_app (S : List Str) (a b : List Nat) : meet S (a ++ b) = meet (meet S a) b := by unfold meet; rw [List.foldl_append]
theorem meet_le : ∀ (l : List Nat) (S : List Str), (meet S l).length ≤ S.length + l.length
  | [], S => Nat.le_refl _
  | c :: r, S => by
    have e : meet S (c :: r) = meet (if PySem.Froz.sing c ∈ S then S else PySem.Froz.sing c :: S) r := rfl
    rw [e]
    have h := meet_le r (if PySem.Froz.sing c ∈ S then S else PySem.Froz.sing c :: S)
    rw [List.length_cons]
    split at h
    · rename_i c0; rw [if_pos c0]; omega
    · rename_i c0; rw [if_neg c0]; rw [List.length_cons] at h; omega
def okL (l : List Nat) : Bool := (meet [] l).length != l.length || (letD (.str ⟨⟨l⟩⟩)).isSome
theorem few : okL [] = true ∧ (L3.all fun a => okL [a]) = true ∧ (L3.all fun a => L3.all fun b => okL [a, b]) = true ∧ (L3.all fun a => L3.all fun b => L3.all fun c => okL [a, b, c]) = true := by decide +kernel
theorem many : (L3.all fun a => L3.all fun b => L3.all fun c => L3.all fun d => decide ((meet [] [a, b, c, d]).length ≤ 3)) = true := by decide +kernel
theorem good_all : goodT.all (fun p => (tl p.1).all isL && decide ((meet [] (tl p.1)).length = (tl p.1).length)) = true := by decide +kernel
theorem letters (s : Str) : (letD (.str s)).isSome = (decide (sg ((tl s).filter fun c => !isL c) = []) && decide ((meet [] (tl s)).length = (tl s).length)) := by
  rw [Bool.eq_iff_iff, Bool.and_eq_true, decide_eq_true_eq, decide_eq_true_eq]
  constructor
  · intro h
    obtain ⟨d, hd⟩ := Option.isSome_iff_exists.mp h
    have := List.all_eq_true.mp good_all _ (letD_str hd)
    rw [Bool.and_eq_true, decide_eq_true_eq] at this
    refine ⟨?_, this.2⟩
    unfold sg
    rw [List.map_eq_nil_iff, List.filter_eq_nil_iff]
    intro c hc
    rw [List.all_eq_true.mp this.1 c hc]
    decide
  · rintro ⟨h1, h2⟩
    unfold sg at h1
    rw [List.map_eq_nil_iff, List.filter_eq_nil_iff] at h1
    obtain ⟨⟨l⟩⟩ := s
    have hl : ∀ c ∈ l, c ∈ L3 := fun c hc => isL_mem (by simpa using h1 c hc)
    have h2 : (meet [] l).length = l.length := h2
    have key : okL l = true → (letD (.str ⟨⟨l⟩⟩)).isSome = true := fun h => by
      unfold okL at h
      rw [h2] at h
      simpa using h
    obtain ⟨f0, f1, f2, f3⟩ := few
    match l, hl, h2, key with
    | [], _, _, key => exact key f0
    | [a], hl, _, key => exact key (List.all_eq_true.mp f1 a (hl a (by simp)))
    | [a, b], hl, _, key => exact key (List.all_eq_true.mp (List.all_eq_true.mp f2 a (hl a (by simp))) b (hl b (by simp)))
    | [a, b, c], hl, _, key => exact key (List.all_eq_true.mp (List.all_eq_true.mp (List.all_eq_true.mp f3 a (hl a (by simp))) b (hl b (by simp))) c (hl c (by simp)))
    | a :: b :: c :: d :: r, hl, h2, _ =>
      have m := List.all_eq_true.mp (List.all_eq_true.mp (List.all_eq_true.mp (List.all_eq_true.mp many a (hl a (by simp))) b (hl b (by simp))) c (hl c (by simp))) d (hl d (by simp))
      have m := of_decide_eq_true m
      have e : meet [] (a :: b :: c :: d :: r) = meet (meet [] [a, b, c, d]) r := meet_app [] [a, b, c, d] r
      rw [e] at h2
      have := meet_le r (meet [] [a, b, c, d])
      simp only [List.length_cons] at h2
      omega
def spLets : Sp := fun vs H Q _ => ∃ v e, vs = [v] ∧ Odd H v e ∧ ∀ H1, Keep [] H H1 → Q (.bl (letD e).isSome) H1
theorem ok_is_letters (T : Txt w K mg A) : FnOk P w K mg base CX0 1 A.f_is_letters A.d_is_letters ["_law_thing"] spLets := by
  refine T.F_is_letters.ok sc_is_letters (fun vs H Q E h => ?_) (fun cdv A_ outer s_ H vs Q E hr h => ?_)
  · obtain ⟨v, e, rfl, _⟩ := h
    rfl
  · obtain ⟨v, e, rfl, he, q⟩ := h
    have W : Ow H [] H [] := Ow.start0
    have ty : TyX K H v (.type (tyN e)) := he.ty
    refine ⟨_, (pss_cons (ps_if (pt_not (pt_val (pe_callB call_isi (by rfl) T.b_isinstance (by decide +kernel) (pa_cons (pv 0) (pa_cons (pe_bltn (v := .ty "str") rfl T.b_str (by decide +kernel) rfl) pa_nil))))) (pss_one (ps_ret pe_bl)) pss_nil)
  (pss_one (ps_ret (pe_and (pe_cmpR (op_eqD hr.units) (pe_lc (own := [("_law_sign_here", 1)]) (g := gName 1) rfl sc_is_letters.nd (pi_str (pv 0)) (blkOk_by (own := [("_law_sign_here", 1)]) (N := N_is_letters) (sc := defScope s_is_letters) (by decide +kernel)) (fun _ _ _ _ _ => pg_name (i := 1) sc_is_letters.nd rfl (Or.inl rfl)) (fun _ _ _ _ _ => (pts_one (pt_cmpR op_notIn_sign (pv 1) pe_str rfl))) (fun _ _ _ _ _ => (pv 1))) (pe_lstS pa_nil) (nomark _)) (pe_one (pe_cmpR op_eq (pe_lenSetA (by rfl) T.b_len (by rfl) T.b_set (pv 0)) (pe_callB call_len_str (by rfl) T.b_len PySem.boot_len (pa_cons (pv 0) pa_nil)) (nomark _))))))), ?_⟩
    walk_at "rd"
    refine ⟨_, _, _, _, _, rfl, .ty _, ty, kit_ty (kit_str e), ?_⟩
    cases he with
    | str s h1 h2 =>
      have hlen := len_tl s
      walk_at "rd"
      intro D hD
      refine lc_str (s := s) (fun pre H' => Ow H [] H' [(D, .lst ((sg (pre.filter (fun d => !isL d))).map V.str))]) (W.new hD) ?_ ?_
      · rintro pre d post H8 e8 W8
        have hpre : (pre.filter (fun d => !isL d)).length ≤ 20 := by
          have h1 := List.length_filter_le (fun d => !isL d) pre
          have h2 : pre.length ≤ (tl s).length := by rw [e8, List.length_append]; omega
          omega
        walk_at "rd"
        by_cases c : isL d = true
        · refine ifF (by show (!isL d) = false; rw [c]; rfl) ?_
          rw [show (pre ++ [d]).filter (fun d => !isL d) = pre.filter (fun d => !isL d) by rw [List.filter_append, List.filter_cons, if_neg (by rw [c]; decide)]; simp]
          exact W8
        · have c' : isL d = false := Bool.eq_false_iff.mpr c
          refine ifT (by show (!isL d) = true; rw [c']; rfl) ?_
          walk_at "rd"
          refine ⟨_, W8.get 0 rfl, size_ok (by rw [List.length_map, sg_len]; omega), ?_⟩
          rw [show (pre ++ [d]).filter (fun d => !isL d) = pre.filter (fun d => !isL d) ++ [d] by rw [List.filter_append, List.filter_cons, if_pos (by rw [c']; rfl)]; rfl, sg_app]
          exact W8.set 0 rfl
      · intro H9 W9
        have hfa := filt_asc (p := fun d => !isL d) h2
        walk_at "rd"
        rename_i p H10 np10 sp10 kp10 hp10 W10
        refine ⟨dStrs (sg ((tl s).filter (fun d => !isL d))), dStrs [], dp_strs (W10.sq 1 rfl), dp_strs (ws := []) (W10.sq 0 rfl), shaped_strs (sg_asc hfa), shaped_strs (by simp), ?_⟩
        rw [eqv_nil]
        have q2 := q H10 W10.keep
        rw [letters] at q2
        by_cases c : sg ((tl s).filter fun c => !isL c) = []
        · rw [decide_eq_true c] at q2 ⊢
          rw [Bool.true_and] at q2
          refine ⟨_, rfl, ?_⟩
          refine ifT rfl ?_
          refine ⟨_, rfl, s, rfl, ?_, ?_, ?_⟩
          · rw [← Array.all_toList]
            exact List.all_eq_true.mpr fun c hc => decide_eq_true (h2 c hc)
          · show (tl s).length ≤ 4000
            omega
          · walk_at "rd"
            rw [show decide (V.int ((meet [] s.cps.toList).length : Nat) = V.int (s.length : Nat)) = decide ((meet [] (tl s)).length = (tl s).length) from by
              rw [Bool.eq_iff_iff, decide_eq_true_eq, decide_eq_true_eq]
              constructor
              · intro h
                injection h with h
                show (meet [] s.cps.toList).length = _
                omega
              · intro h
                rw [h, hlen]]
            exact q2
        · rw [decide_eq_false c] at q2 ⊢
          rw [Bool.false_and] at q2
          walk_at "rd"
          exact q2
    | non => walk_at "rd"; exact q H Keep.refl
    | bl b => walk_at "rd"; exact q H Keep.refl
    | int i h => walk_at "rd"; exact q H Keep.refl
    | lst _ _ _ _ => walk_at "rd"; exact q H Keep.refl
    | one _ _ => walk_at "rd"; exact q H Keep.refl
    | tup _ _ _ => walk_at "rd"; exact q H Keep.refl
    | dc0 _ => walk_at "rd"; exact q H Keep.refl
    | dc1 _ => walk_at "rd"; exact q H Keep.refl
end
end K09
namespace K09
open PySem PySem.Spec PyProof.Rows L2 FR TL
open C8 (pss_cut pe_gc)
open StX (pe_callS2 pa_star)
section
variable {P : Program} {w : World} {K : PySem.W.Frag} {mg : Str → Option Value} {base : Heap} {A : Ads}
set_option pp.maxSteps 120
theorem ok_take (T : Txt w K mg A) : FnOk P w K mg base CX0 1 A.f_take A.d_take ["_law_box_here", "_law_many"] spTake := by
  refine T.F_take.ok sc_take (fun vs H Q E h => ?_) (fun cdv A_ outer s H vs Q E hr h => ?_)
  · obtain ⟨b, k, n, x, y, z, rfl, _⟩ := h
    rfl
  · obtain ⟨b, k, n, x, y, z, rfl, hb, ok, hn, k0, k1, q⟩ := h
    have W := Ow.start1 hb
    have y0 := ok.y0; have y1 := ok.y1; have z0 := ok.z0; have z1 := ok.z1
    refine ⟨_, (pss_cons (ps_if (pt_cmpR op_gt (pe_ix ix_list (pv 0) pe_int (fun _ _ => rfl)) pe_int (nomark _)) (pss_cons (ps_set (i := 2) sc_take.nd rfl (.inl rfl) (pe_op op_mod (pe_ix ix_list (pv 0) pe_int (fun _ _ => rfl)) (pv 1)))
  (pss_cons (ps_asg (pe_op op_fdiv (pe_ix ix_list (pv 0) pe_int (fun _ _ => rfl)) (pv 1)) (pg_sub (pv 0) pe_int set_listN))
  (pss_one (ps_ret (pv 2))))) pss_nil)
  (pss_cons (ps_asg (pe_op op_add (pe_ix ix_list (pv 0) pe_int (fun _ _ => rfl)) pe_int) (pg_sub (pv 0) pe_int set_listN))
  (pss_cons (ps_set (i := 3) sc_take.nd rfl (.inl rfl) (pe_op op_mod (pe_op op_pow (pe_op op_add (pe_op op_add (pe_ix ix_list (pv 0) pe_int (fun _ _ => rfl)) (pe_op op_mul pe_int (pe_ix ix_list (pv 0) pe_int (fun _ _ => rfl)))) pe_int) pe_int) pe_int))
  (pss_cons (ps_set (i := 3) sc_take.nd rfl (.inl rfl) (pe_op op_mod (pe_op op_pow (pe_op op_add (pv 3) (pe_op op_mul pe_int (pe_ix ix_list (pv 0) pe_int (fun _ _ => rfl)))) pe_int) pe_int))
  (pss_one (ps_ret (pe_op op_mod (pe_op op_fdiv (pv 3) pe_int) (pv 1)))))))), ?_⟩
    walk_at "rd"
    refine ite2 (fun c => ?_) (fun c => ?_)
    · have c' : 0 < x := of_decide_eq_true c
      walk_at "rd"
      rename_i H1 kp hp W1
      exact q _ (x / k) y z H1 (Int.emod_nonneg _ (by omega)) (Int.emod_lt_of_pos _ k0) ⟨Int.ediv_nonneg ok.x0 (by omega), y0, y1, z0, by omega⟩ kp hp
    · walk_at "rd"
      rename_i H1 kp hp W1
      exact q _ x y (z + 1) H1 (Int.emod_nonneg _ (by omega)) (Int.emod_lt_of_pos _ k0) ⟨ok.x0, y0, y1, by omega, by omega⟩ kp hp
def spCell (K : PySem.W.Frag) : Sp := fun vs H Q _ => ∃ (a : Addr) (ns : List Int) (k : Int), vs = [.ref a, .int k] ∧ SqL K H a (ns.map V.int) ∧ 0 ≤ k ∧ k < 1000 ∧ ∀ n, Q (.int n) H
theorem ok_cell (T : Txt w K mg A) : FnOk P w K mg base CX0 1 A.f_cell A.d_cell ["_law_script", "_law_k"] (spCell K) := by
  refine T.F_cell.ok sc_cell (fun vs H Q E h => ?_) (fun cdv A_ outer s H vs Q E hr h => ?_)
  · obtain ⟨a, ns, k, rfl, _⟩ := h
    rfl
  · obtain ⟨a, ns, k, rfl, hS, h0, hk, q⟩ := h
    obtain ⟨j, rfl⟩ := Int.eq_ofNat_of_zero_le h0
    refine ⟨_, (pss_one (ps_ret (pe_ifExp (pt_cmpR op_lt (pv 1) (pe_callB call_len_seq (by rfl) T.b_len PySem.boot_len (pa_cons (pv 0) pa_nil)) (nomark _)) (pe_ix ix_list (pv 0) (pv 1) (fun _ _ => rfl)) (pe_op op_add (pe_op op_mul pe_int (pv 1)) pe_int)))), ?_⟩
    walk_at "rd"
    refine ifD (fun c => ?_) (fun c => ?_)
    · have c2 : j < ns.length := by rw [List.length_map] at c; omega
      exact ⟨_, rfl, _, rfl, _, _, _, .int ns[j], rfl, rfl, hS, atI_nat (by rw [List.getElem?_map, List.getElem?_eq_getElem c2]; rfl), q _⟩
    · walk_at "rd"
      exact q _
def spBox : Sp := fun vs H Q _ => ∃ n : Int, vs = [.int n] ∧ ∀ x y z, BagOk 0 x y z → NewO (bagO x y z) Q H
theorem ok_box (T : Txt w K mg A) : FnOk P w K mg base CX0 1 A.f_box A.d_box ["_law_cell_here"] spBox := by
  refine T.F_box.ok sc_box (fun vs H Q E h => ?_) (fun cdv A_ outer s H vs Q E hr h => ?_)
  · obtain ⟨n, rfl, _⟩ := h
    rfl
  · obtain ⟨n, rfl, q⟩ := h
    have W : Ow H [] H [] := Ow.start0
    refine ⟨_, (pss_one (ps_ret (pe_lstS (pa_cons (pe_callB (call_max2 rfl) (by rfl) T.b_max (by decide +kernel) (pa_cons pe_int (pa_cons (pe_op op_sub (pv 0) (pe_op op_pow pe_int pe_int)) pa_nil))) (pa_cons (pe_op op_mod (pv 0) pe_int) (pa_cons pe_int pa_nil)))))), ?_⟩
    have q' := q (if n - 10 ^ 18 > 0 then n - 10 ^ 18 else 0) (n % 2147483563) 0 ⟨by split <;> omega, Int.emod_nonneg _ (by decide), Int.lt_trans (Int.emod_lt_of_pos _ (by decide)) (by decide), by omega, by omega⟩
    walk_at "rd"
    rename_i p H1 np sp kp hp W1
    exact q'.to p H1 np kp hp


/-- what repr asks of it -/
structure Fine (d : PyData) (n : Nat) : Prop where
  s : d.showable = true
  dp : d.depth ≤ n
  ls : d.leavesShort 40 = true
  wt : d.weight ≤ 1000
theorem Fine.all {d : PyData} (h : Fine d 50) : d.showable = true ∧ d.depth ≤ 50 ∧ d.shown.length ≤ sizeLine :=
  ⟨h.s, h.dp, size_le (by have h1 := PyData.shown_le 40 (by decide) d h.ls; have h2 := h.wt; have h3 := Nat.mul_le_mul_left (40 + 2) h2; omega)⟩
theorem str_short {s : Str} (h : Asc s) : (PyData.str s).leavesShort 40 = true := by
  show (s.cps.toList.all fun c => decide (c < 16 ^ 8)) = true
  exact List.all_eq_true.mpr fun c hc => decide_eq_true (by have := h c hc; omega)
theorem fine_int {i : Int} (h : i.natAbs ≤ 10 ^ 30) : Fine (.int i) 0 := by
  refine ⟨?_, Nat.zero_le _, ?_, ?_⟩
  · have h1 : i.natAbs < 2 ^ 1920 := Nat.lt_of_le_of_lt h (by decide +kernel)
    show decide (i.natAbs.log2 < 1920) = true
    refine decide_eq_true ?_
    by_cases z : i.natAbs = 0
    · rw [z]; decide
    · exact (Nat.log2_lt z).mpr h1
  · have e := PySem.int_text_length_le10 (a := i) (k := 31) (by decide) (Nat.lt_of_le_of_lt h (by decide +kernel))
    show decide ((PyData.shown (.int i)).length ≤ 40) = true
    refine decide_eq_true ?_
    show (Str.ofString (toString i)).length ≤ 40
    rw [PySem.ofString_length]
    omega
  · have h1 : i.natAbs < 2 ^ 999 := Nat.lt_of_le_of_lt h (by decide +kernel)
    show (if i == 0 then 0 else i.natAbs.log2 + 1) ≤ 1000
    split
    · decide
    · rename_i z
      have z' : i.natAbs ≠ 0 := fun e => z (beq_iff_eq.mpr (by omega))
      have := (Nat.log2_lt z').mpr h1
      omega
theorem strs_fine : ∀ ws : List Str, (∀ s ∈ ws, s.length ≤ 20 ∧ Asc s) → PyData.showableAll (ws.map .str) = true ∧ PyData.depthAll (ws.map .str) = 0 ∧ PyData.leavesShortAll 40 (ws.map .str) = true ∧ PyData.weightAll (ws.map .str) ≤ ws.length * 21
  | [], _ => ⟨rfl, rfl, rfl, Nat.zero_le _⟩
  | s :: r, h => by
    obtain ⟨a, b, c, e⟩ := strs_fine r fun x hx => h x (List.mem_cons_of_mem _ hx)
    obtain ⟨l, u⟩ := h s List.mem_cons_self
    refine ⟨?_, ?_, ?_, ?_⟩
    · rw [List.map_cons]
      simp only [PyData.showableAll, PyData.showable, a, Bool.and_self]
    · rw [List.map_cons]
      simp only [PyData.depthAll, b, PyData.depth]
      rfl
    · rw [List.map_cons]
      simp only [PyData.leavesShortAll, str_short u, c, Bool.and_self]
    · have l' : s.cps.size ≤ 20 := l
      rw [List.map_cons, List.length_cons]
      simp only [PyData.weightAll, PyData.weight]
      omega
theorem dq_strs {H : Hp} : ∀ ws : List Str, DqAll H (ws.map V.str) (ws.map .str)
  | [] => .nil
  | s :: r => .cons (.str s) (dq_strs r)
theorem Odd.fine {H : Hp} {v : V} {e : PyData} (h : Odd H v e) : Dq H v e ∧ Fine e 1 := by
  cases h with
  | non => exact ⟨.non, rfl, Nat.zero_le _, rfl, Nat.zero_le _⟩
  | bl b => exact ⟨.bl b, rfl, Nat.zero_le _, rfl, Nat.zero_le _⟩
  | int i h =>
    have f := fine_int h
    exact ⟨.int i, f.s, Nat.zero_le _, f.ls, f.wt⟩
  | str s h1 h2 => exact ⟨.str s, rfl, Nat.zero_le _, str_short h2, by show s.cps.size ≤ 1000; have h1' : s.cps.size ≤ 20 := h1; omega⟩
  | @lst a ws h1 h2 h3 h4 =>
    obtain ⟨a, b, c, e⟩ := strs_fine ws h4
    exact ⟨.lst h1 h2 (dq_strs ws), by simpa only [PyData.showable] using a, by simp only [PyData.depth]; omega, by simpa only [PyData.leavesShort] using c, by simp only [PyData.weight]; omega⟩
  | one h1 h2 => exact ⟨.lst h1 h2 (.cons (.int 1) .nil), by decide +kernel, by decide +kernel, by decide +kernel, by decide +kernel⟩
  | @tup a ws h1 h3 h4 =>
    obtain ⟨a, b, c, e⟩ := strs_fine ws h4
    exact ⟨.tup h1 (dq_strs ws), by simpa only [PyData.showable] using a, by simp only [PyData.depth]; omega, by simpa only [PyData.leavesShort] using c, by simp only [PyData.weight]; omega⟩
  | dc0 h1 => exact ⟨.dct h1 .nil, by decide +kernel, by decide +kernel, by decide +kernel, by decide +kernel⟩
  | dc1 h1 => exact ⟨.dct h1 (.cons (.int 1) .nil), by decide +kernel, by decide +kernel, by decide +kernel, by decide +kernel⟩
/-- a list of a text and a thing -/
theorem Odd.pair {H : Hp} {v : V} {e : PyData} {s : Str} {p : Addr} (h : Odd H v e) (hs : s.length ≤ 20) (ha : Asc s) (hp : H p = some (.lst [.str s, v])) (hsp : sysModules < p) :
    Dq H (.ref p) (.list [.str s, e]) ∧ (PyData.list [.str s, e]).showable = true ∧ (PyData.list [.str s, e]).depth ≤ 50 ∧ (PyData.list [.str s, e]).shown.length ≤ sizeLine := by
  obtain ⟨q, f⟩ := h.fine
  refine ⟨.lst hp hsp (.cons (.str s) (.cons q .nil)), Fine.all ⟨?_, ?_, ?_, ?_⟩⟩
  · simp only [PyData.showable, PyData.showableAll, f.s, Bool.and_self]
  · have := f.dp
    simp only [PyData.depth, PyData.depthAll]
    omega
  · simp only [PyData.leavesShort, PyData.leavesShortAll, f.ls, Bool.and_self, Bool.true_and, Bool.and_true]
    exact str_short ha
  · have := f.wt
    have hs' : s.cps.size ≤ 20 := hs
    cases h with
    | int i hi =>
      have h1 : i.natAbs < 2 ^ 500 := Nat.lt_of_le_of_lt hi (by decide +kernel)
      have h2 : (if i == 0 then 0 else i.natAbs.log2 + 1) ≤ 501 := by
        split
        · decide
        · rename_i z
          have z' : i.natAbs ≠ 0 := fun e => z (beq_iff_eq.mpr (by omega))
          have := (Nat.log2_lt z').mpr h1
          omega
      simp only [PyData.weight, PyData.weightAll] at *
      omega
    | str t h1 h2 =>
      have h1' : t.cps.size ≤ 20 := h1
      simp only [PyData.weight, PyData.weightAll]
      omega
    | @lst a ws h1 h2 h3 h4 =>
      obtain ⟨a, b, c, e⟩ := strs_fine ws h4
      simp only [PyData.weight, PyData.weightAll]
      omega
    | @tup a ws h1 h3 h4 =>
      obtain ⟨a, b, c, e⟩ := strs_fine ws h4
      simp only [PyData.weight, PyData.weightAll]
      omega
    | non => simp only [PyData.weight, PyData.weightAll]; omega
    | bl b => simp only [PyData.weight, PyData.weightAll]; omega
    | one h1 h2 =>
      have : PyData.weight (.list [.int 1]) ≤ 5 := by decide +kernel
      simp only [PyData.weight, PyData.weightAll] at *
      omega
    | dc0 h1 =>
      have : PyData.weight (.dict []) ≤ 5 := by decide +kernel
      simp only [PyData.weight, PyData.weightAll] at *
      omega
    | dc1 h1 =>
      have : PyData.weight (.dict [(.str (Str.ofString "a"), .int 1)]) ≤ 9 := by decide +kernel
      simp only [PyData.weight, PyData.weightAll] at *
      omega
theorem Odd.rep {H : Hp} {v : V} {e : PyData} {Q : VK} (h : Odd H v e) (q : ∀ t : Str, t.length ≤ sizeLine → Q (.str t) H) : rReprS [v] H Q := by
  obtain ⟨dq, f⟩ := h.fine
  obtain ⟨f1, f2, f3⟩ := Fine.all ⟨f.s, Nat.le_trans f.dp (by decide), f.ls, f.wt⟩
  have q := q _ f3
  have big : ∀ a, v = .ref a → rReprS [v] H Q := fun a ea => by
    subst ea
    exact .inl ⟨a, e, rfl, dq, f1, f2, f3, q⟩
  cases h with
  | non => exact .inr (.inr (.inr (.inl ⟨rfl, q⟩)))
  | bl b => exact .inr (.inr (.inl ⟨b, rfl, q⟩))
  | int i h => exact .inr (.inl ⟨i, rfl, of_decide_eq_true f1, q⟩)
  | str s h1 h2 => exact .inr (.inr (.inr (.inr ⟨s, rfl, f3, q⟩)))
  | lst _ _ _ _ => exact big _ rfl
  | one _ _ => exact big _ rfl
  | tup _ _ _ => exact big _ rfl
  | dc0 _ => exact big _ rfl
  | dc1 _ => exact big _ rfl
def spSame : Sp := fun vs H Q _ => ∃ (p q : Addr) (d : PyData), vs = [.ref p, .ref q] ∧ Dq H (.ref p) d ∧ Dq H (.ref q) d ∧ d.showable = true ∧ d.depth ≤ 50 ∧ d.shown.length ≤ sizeLine ∧ Q (.bl true) H
theorem ok_same (T : Txt w K mg A) : FnG P w K mg base CX0 1 A.f_same spSame := by
  refine okG0 T.F_same sc_same T.B_same (fun vs H Q E h => ?_) (fun cdv A_ outer s H vs Q E hgd hr h => ?_)
  · obtain ⟨p, q, d, rfl, _⟩ := h
    rfl
  · obtain ⟨p, q, d, rfl, h1, h2, f1, f2, f3, hq⟩ := h
    refine ⟨_, (pss_one (ps_ret (pe_cmpR op_eq (pe_callB (call_reprX hgd (u65 hr)) (by rfl) T.b_repr (by decide +kernel) (pa_cons (pv 0) pa_nil)) (pe_callB (call_reprX hgd (u65 hr)) (by rfl) T.b_repr (by decide +kernel) (pa_cons (pv 1) pa_nil)) (nomark _)))), ?_⟩
    generalize hsh : d.shown = sh
    walk_at "rd"
    refine .inl ⟨p, d, rfl, h1, f1, f2, f3, ?_⟩
    refine ⟨_, rfl, ?_⟩
    refine .inl ⟨q, d, rfl, h2, f1, f2, f3, ?_⟩
    refine ⟨rfl, ?_⟩
    rw [show decide (V.str d.shown = V.str d.shown) = true from decide_eq_true rfl]
    exact hq
end
end K09
namespace K09
open PySem PySem.Spec PyProof.Rows L2 FR TL
open C8 (pss_cut pe_gc)
open StX (pe_callS2 pa_star)
section
variable {P : Program} {w : World} {K : PySem.W.Frag} {mg : Str → Option Value} {base : Heap} {A : Ads}
set_option pp.maxSteps 120
def spOdd : Sp := fun vs H Q _ => ∃ (b : Addr) (n : Nat) (x y z : Int), vs = [.ref b] ∧ H b = some (bagO x y z) ∧ BagOk n x y z ∧ n < 1000000 ∧
  ∀ (v : V) (e : PyData) (x' y' z' : Int) (H' : Hp), BagOk (n + 1) x' y' z' → Keep [b] H H' → H' b = some (bagO x' y' z') → Odd H' v e → Q v H'
theorem strs_ok (ws : List Str) (h : ws.all (fun s => decide (s.length ≤ 20) && (tl s).all (fun c => decide (c < 128))) = true) : ∀ s ∈ ws, s.length ≤ 20 ∧ Asc s := fun s hs => by
  have := List.all_eq_true.mp h s hs
  rw [Bool.and_eq_true, decide_eq_true_eq] at this
  exact ⟨this.1, .of this.2⟩
theorem lst_at {H : Hp} {p : Addr} {xs : List V} {d k : Int} (_ : H p = some (.lst xs)) (hl : (xs.length : Int) = k) (h0 : 0 ≤ d) (h1 : d < k) : ∃ v, atI xs d = some v ∧ v ∈ xs := atI_in h0 (by omega)
theorem ok_odd (T : Txt w K mg A) : FnOk P w K mg base CX0 2 A.f_odd A.d_odd ["_law_box_here"] spOdd := by
  refine T.F_odd.ok sc_odd (fun vs H Q E h => ?_) (fun cdv A_ outer s H vs Q E hr h => ?_)
  · obtain ⟨b, n, x, y, z, rfl, _⟩ := h
    rfl
  · obtain ⟨b, n, x, y, z, rfl, hb, ok, hn, q⟩ := h
    have W := Ow.start1 hb
    refine ⟨_, (pss_cons (ps_set (i := 1) sc_odd.nd rfl (.inl rfl) (pe_lstS (pa_cons pe_non (pa_cons pe_bl (pa_cons pe_bl (pa_cons pe_int (pa_cons (pe_un un_neg pe_int) (pa_cons pe_int (pa_cons (pe_op op_pow pe_int pe_int) (pa_cons pe_str (pa_cons pe_str (pa_cons pe_str (pa_cons pe_str (pa_cons pe_str (pa_cons pe_str (pa_cons pe_str (pa_cons (pe_lstS pa_nil) (pa_cons (pe_lstS (pa_cons pe_int pa_nil)) (pa_cons pe_dnewN pa_nil)))))))))))))))))))
  (pss_cons (ps_set (i := 1) sc_odd.nd rfl (.inl rfl) (pe_op op_catN (pv 1) (pe_lstS (pa_cons (pe_disp (pps_cons pe_str pe_int pps_nil) (by rfl) (by rfl) (fun z => by cases z) (by decide)) (pa_cons (pe_tupN pa_nil) (pa_cons (pe_tupN (pa_cons pe_str (pa_cons pe_str pa_nil))) (pa_cons (pe_lstS (pa_cons pe_str (pa_cons pe_str (pa_cons pe_str pa_nil)))) (pa_cons pe_str (pa_cons pe_str (pa_cons pe_str (pa_cons pe_str (pa_cons pe_str (pa_cons pe_str (pa_cons pe_str (pa_cons pe_int (pa_cons pe_str pa_nil))))))))))))))))
  (pss_one (ps_ret (pe_ix ix_list (pv 1) (pe_call (ok_take T) (hr.mono (by decide)) (by rfl) T.g_take T.F_take.kp T.B_take .nil pass0 (pa_cons (pv 0) (pa_cons pe_int pa_nil))) (fun _ _ => rfl)))))), ?_⟩
    walk_at "rd"
    rename_i p1 H1 np1 sp1 kp1 hp1 W1 p2 H2 np2 sp2 kp2 hp2 W2 p3 H3 np3 kp3 hp3 W3 p4 H4 np4 sp4 kp4 hp4 W4
    intro p5 np5
    refine ⟨upd_same, [(.inr (Str.ofString "a"), .int 1)], rfl, by decide, ?_⟩
    have kp5 : Keep [] H4 (upd (upd H4 p5 (.dK [])) p5 (.dK (mergeK [] [(.inr (Str.ofString "a"), .int 1)]))) := fun a o e _ => by
      have n : a ≠ p5 := ne_of_none e np5
      rw [upd_ne n, upd_ne n]
      exact e
    have hp5 : upd (upd H4 p5 (.dK [])) p5 (.dK (mergeK [] [(.inr (Str.ofString "a"), .int 1)])) p5 = some (.dK [(.inr (Str.ofString "a"), .int 1)]) := upd_same
    generalize upd (upd H4 p5 (.dK [])) p5 (.dK (mergeK [] [(.inr (Str.ofString "a"), .int 1)])) = H5 at kp5 hp5 ⊢
    refine FR.withN W4 np5 kp5 hp5 ?_
    intro W5
    walk_at "rd"
    rename_i p6 H6 np6 kp6 hp6 W6 p7 H7 np7 kp7 hp7 W7 p8 H8 np8 sp8 kp8 hp8 W8 p9 H9 np9 sp9 kp9 hp9 W9
    refine ⟨_, _, _, _, rfl, rfl, W9.get 5 rfl, W9.get 0 rfl, size_ok (Nat.le_of_ble_eq_true rfl), ?_⟩
    walk_at "obj"
    rename_i p10 H10 np10 kp10 hp10 W10
    walk_at "rd"
    walk_at "take"
    rename_i d x2 y2 z2 H11 d0 d1 ok2 kp11 hb11 W11
    obtain ⟨v, hv, hm⟩ := lst_at (W11.get 0 rfl) rfl d0 d1
    refine ⟨_, _, _, _, rfl, rfl, W11.sq 0 rfl, hv, ?_⟩
    have fin : ∀ e, Odd H11 v e → Q v H11 := fun e he => q v e x2 y2 z2 H11 ok2 W11.keep hb11 he
    show Q v H11
    have st : ∀ s : Str, v = .str s → s.length ≤ 20 → (tl s).all (fun c => decide (c < 128)) = true → Q v H11 := fun s e h1 h2 => by
      subst e
      exact fin _ (.str s h1 (.of h2))
    simp only [List.cons_append, List.nil_append, List.mem_cons, List.not_mem_nil, or_false] at hm
    rcases hm with rfl | rfl | rfl | rfl | rfl | rfl | rfl | hm | hm | hm | hm | hm | hm | hm | rfl | rfl | rfl | rfl | rfl | rfl | rfl | hm | hm | hm | hm | hm | hm | hm | rfl | hm
    · exact fin _ .non
    · exact fin _ (.bl _)
    · exact fin _ (.bl _)
    · exact fin _ (.int _ (by decide))
    · exact fin _ (.int _ (by decide +kernel))
    · exact fin _ (.int _ (by decide))
    · exact fin _ (.int _ (by decide +kernel))
    · exact st _ hm (by decide +kernel) (by decide +kernel)
    · exact st _ hm (by decide +kernel) (by decide +kernel)
    · exact st _ hm (by decide +kernel) (by decide +kernel)
    · exact st _ hm (by decide +kernel) (by decide +kernel)
    · exact st _ hm (by decide +kernel) (by decide +kernel)
    · exact st _ hm (by decide +kernel) (by decide +kernel)
    · exact st _ hm (by decide +kernel) (by decide +kernel)
    · exact fin _ (.lst (ws := []) (W11.get 9 rfl) sp1 (by decide) (by simp))
    · exact fin _ (.one (W11.get 8 rfl) sp2)
    · exact fin _ (.dc0 (W11.get 7 rfl))
    · exact fin _ (.dc1 (W11.get 5 rfl))
    · exact fin _ (.tup (ws := []) (W11.get 4 rfl) (by decide) (by simp))
    · refine fin _ (.tup (ws := ["a", "b"]) (W11.get 3 rfl) (by decide) ?_)
      have := strs_ok ["a", "b"] (by decide +kernel)
      exact this
    · refine fin _ (.lst (ws := ["7", "5", "0"]) (W11.get 2 rfl) sp8 (by decide) ?_)
      exact strs_ok ["7", "5", "0"] (by decide +kernel)
    · exact st _ hm (by decide +kernel) (by decide +kernel)
    · exact st _ hm (by decide +kernel) (by decide +kernel)
    · exact st _ hm (by decide +kernel) (by decide +kernel)
    · exact st _ hm (by decide +kernel) (by decide +kernel)
    · exact st _ hm (by decide +kernel) (by decide +kernel)
    · exact st _ hm (by decide +kernel) (by decide +kernel)
    · exact st _ hm (by decide +kernel) (by decide +kernel)
    · exact fin _ (.int _ (by decide))
    · exact st _ hm (by decide +kernel) (by decide +kernel)
def spSign (A : Ads) : Sp := fun vs H _ E => ∃ v d x way, vs = [v, x, .int way] ∧ IsR A H v d ∧ (∃ e, Odd H x e) ∧ 0 ≤ way ∧ way ≤ 4 ∧ Out A.C_InvalidRights x E H
theorem sign_at {H : Hp} {v x : V} {d : Int} {n : String} {E : XK} {Q : VK} (T : Txt w K mg A) (hv : IsR A H v d) (he : ∃ e, Odd H x e) (kn : ∀ e, Odd H x e → FR.known (tyN e) n = true) (q : Out A.C_InvalidRights x E H) :
    rBinX K A.C_Rights n (fun vs H Q E => spBad A (vs ++ []) H Q E) E v x H Q := by
  obtain ⟨a, dx, rfl, ha, d0, d1⟩ := hv
  obtain ⟨e, he⟩ := he
  exact ⟨a, dx, _, rfl, ha, .inr ⟨_, he.ty, kn e he, he.sb T, _, d, _, rfl, ⟨a, dx, rfl, ha, d0, d1⟩, ⟨e, he⟩, q⟩⟩
theorem sign_or {H : Hp} {v x : V} {d : Int} {n : String} {E : XK} {Q : VK} (T : Txt w K mg A) (hv : IsR A H v d) (he : ∃ e, Odd H x e) (kn : ∀ e, Odd H x e → FR.known (tyN e) n = true) (q : Out A.C_InvalidRights x E H) :
    rBinX K A.C_Rights n (fun vs H Q E => spBin A Builtin.bitOr (vs ++ []) H Q E) E v x H Q := by
  obtain ⟨a, dx, rfl, ha, d0, d1⟩ := hv
  obtain ⟨e, he⟩ := he
  exact ⟨a, dx, _, rfl, ha, .inr ⟨_, he.ty, kn e he, he.sb T, _, d, _, rfl, ⟨a, dx, rfl, ha, d0, d1⟩, .inr ⟨⟨e, he⟩, q⟩⟩⟩
theorem ok_sign (T : Txt w K mg A) : FnOk P w K mg base (L2.CX P w) 6 A.f_sign A.d_sign ["_law_one", "_law_odd_here", "_law_way"] (spSign A) := by
  refine T.F_sign.okX sc_sign (fun vs H Q E h => ?_) (fun cdv A_ outer s_ H vs Q E hr h => ?_)
  · obtain ⟨v, d, x, way, rfl, _⟩ := h
    rfl
  · obtain ⟨v, d, x, way, rfl, hv, he, w0, w1, q⟩ := h
    refine ⟨_, (pss_cons (ps_if (pt_cmpR op_lt (pv 2) pe_int (nomark _)) (pss_cons (ps_if (pt_cmpR op_lt (pv 2) pe_int (nomark _)) (pss_one (ps_ret (pe_ifExp (pt_cmpR op_eq (pv 2) pe_int (nomark _)) (pe_op (op_binX T.sf_Rights T.me_Rights___or__.at_ T.rr_Rights_or T.me_Rights___or__.fn ((ok_Rights___or__ T).raw T.B_Rights___or__ .nil) (hr.mono (by decide)) (pxE rfl rfl rfl rfl)) (pv 0) (pv 1)) (pe_op (op_binX T.sf_Rights T.me_Rights___and__.at_ T.rr_Rights_and T.me_Rights___and__.fn ((ok_Rights___and__ T).raw T.B_Rights___and__ .nil) (hr.mono (by decide)) (pxE rfl rfl rfl rfl)) (pv 0) (pv 1))))) pss_nil)
  (pss_one (ps_ret (pe_ifExp (pt_cmpR op_eq (pv 2) pe_int (nomark _)) (pe_op (op_binX T.sf_Rights T.me_Rights___sub__.at_ T.rr_Rights_sub T.me_Rights___sub__.fn ((ok_Rights___sub__ T).raw T.B_Rights___sub__ .nil) (hr.mono (by decide)) (pxE rfl rfl rfl rfl)) (pv 0) (pv 1)) (pe_op (op_binX T.sf_Rights T.me_Rights___xor__.at_ T.rr_Rights_xor T.me_Rights___xor__.fn ((ok_Rights___xor__ T).raw T.B_Rights___xor__ .nil) (hr.mono (by decide)) (pxE rfl rfl rfl rfl)) (pv 0) (pv 1)))))) pss_nil)
  (pss_one (ps_ret (pe_meth (pv 0) T.cl_Rights T.me_Rights_covers (ok_Rights_covers T) (hr.mono (by decide)) T.B_Rights_covers .nil (pxE rfl rfl rfl rfl) (pa_cons (pv 1) pa_nil))))), ?_⟩
    have cs : way = 0 ∨ way = 1 ∨ way = 2 ∨ way = 3 ∨ way = 4 := by omega
    rcases cs with rfl | rfl | rfl | rfl | rfl
    · walk_at "rd"
      exact sign_or T hv he (fun e h => h.kn.1) q
    · walk_at "rd"
      exact sign_at T hv he (fun e h => h.kn.2.1) q
    · walk_at "rd"
      exact sign_at T hv he (fun e h => h.kn.2.2.1) q
    · walk_at "rd"
      exact sign_at T hv he (fun e h => h.kn.2.2.2) q
    · walk_at "rd"
      obtain ⟨a, dx, rfl, ha, d0, d1⟩ := hv
      exact ⟨a, dx, _, rfl, ha, rfl, _, rfl, _, d, _, rfl, ⟨a, dx, rfl, ha, d0, d1⟩, he, q⟩
end
end K09
namespace K09
open PySem PySem.Spec PyProof.Rows L2 FR TL
open C8 (pss_cut pe_gc)
open StX (pe_callS2 pa_star)
section
variable {P : Program} {w : World} {K : PySem.W.Frag} {mg : Str → Option Value} {base : Heap} {A : Ads}
set_option pp.maxSteps 120
theorem lit {H : Hp} {s : Str} {d : Int} (h1 : s.length ≤ 20) (h2 : (tl s).all (fun c => decide (c < 128)) = true) (h3 : (s, d) ∈ goodT) : Odd H (.str s) (.str s) ∧ letD (.str s) = some d := ⟨.str s h1 (.of h2), letD_of h3⟩
theorem lit0 {H : Hp} : Odd H (.str (Str.ofString "")) (.str (Str.ofString "")) ∧ letD (.str (Str.ofString "")) = some 0 := lit (by decide +kernel) (by decide +kernel) (by decide +kernel)
theorem lit_rx {H : Hp} : Odd H (.str (Str.ofString "rx")) (.str (Str.ofString "rx")) ∧ letD (.str (Str.ofString "rx")) = some 5 := lit (by decide +kernel) (by decide +kernel) (by decide +kernel)
theorem lit_rwx {H : Hp} : Odd H (.str (Str.ofString "rwx")) (.str (Str.ofString "rwx")) ∧ letD (.str (Str.ofString "rwx")) = some 7 := lit (by decide +kernel) (by decide +kernel) (by decide +kernel)
theorem lit_r {H : Hp} : Odd H (.str (Str.ofString "r")) (.str (Str.ofString "r")) ∧ letD (.str (Str.ofString "r")) = some 4 := lit (by decide +kernel) (by decide +kernel) (by decide +kernel)
theorem Odd.any {H : Hp} {v : V} {e : PyData} {d : Int} (h : Odd H v e) (hl : letD e = some d) : ∀ H', ∃ e, Odd H' v e ∧ letD e = some d := fun H' => by
  cases h with
  | str s h1 h2 => exact ⟨_, .str s h1 h2, hl⟩
  | _ => cases hl
def spAsk (A : Ads) : Sp := fun vs H Q E => ∃ way x e, vs = [.int way, x] ∧ Odd H x e ∧
  ((0 ≤ way ∧ way ≤ 4 ∧ Out A.C_InvalidRights x E H) ∨ (5 ≤ way ∧ way ≤ 8 ∧ ((letD e = none ∧ Out A.C_InvalidRights x E H) ∨ ((∃ d, letD e = some d) ∧ ∀ v H', Keep [] H H' → Q v H'))) ∨
   (way = 9 ∧ ((isW 0 7 e = false ∧ Out A.C_InvalidInteger x E H) ∨ (isW 0 7 e = true ∧ ∀ v H', Keep [] H H' → Q v H'))))
theorem ok_ask (T : Txt w K mg A) : FnG P w K mg base (L2.CX P w) 7 A.f_ask (spAsk A) := by
  refine okG T.F_ask sc_ask T.B_ask (fun vs H Q E h => ?_) (fun cdv A_ outer s H vs Q E hgd hr h => ?_)
  · obtain ⟨way, x, e, rfl, _⟩ := h
    rfl
  · obtain ⟨way, x, e, rfl, he, h⟩ := h
    have W : Ow H [] H [] := Ow.start0
    refine ⟨_, (pss_cons (ps_if (pt_cmpR op_lt (pv 0) pe_int (nomark _)) (pss_one (ps_ret (pe_callS (ok_sign T) (hr.mono (by decide)) (by rfl) T.g_sign T.F_sign.kp T.B_sign (fun σ => passAt (takes_of rfl rfl rfl rfl) σ) (pa_cons (pe_ix ix_list (pe_lstS (pa_cons (pe_make T.mk_Rights (ok_Rights___init__ T) (hr.mono (by decide)) (by rfl) T.gC_Rights (bd_Rights___init___1 T).2 (bd_Rights___init___1 T).1 (pxE rfl rfl rfl rfl) (pa_cons pe_str pa_nil)) (pa_cons (pe_make T.mk_Rights (ok_Rights___init__ T) (hr.mono (by decide)) (by rfl) T.gC_Rights (bd_Rights___init___1 T).2 (bd_Rights___init___1 T).1 (pxE rfl rfl rfl rfl) (pa_cons pe_str pa_nil)) (pa_cons (pe_make0 T.mk_Rights (ok_Rights___init__ T) (hr.mono (by decide)) (by rfl) T.gC_Rights (bd_Rights___init___0 T).choose_spec.2 (bd_Rights___init___0 T).choose_spec.1 (pxE rfl rfl rfl rfl)) pa_nil)))) (pe_op op_mod (pe_callB call_len_str (by rfl) T.b_len PySem.boot_len (pa_cons (pe_callB (call_reprX hgd (u65 hr)) (by rfl) T.b_repr (by decide +kernel) (pa_cons (pv 1) pa_nil)) pa_nil)) pe_int) (fun _ _ => rfl)) (pa_cons (pv 1) (pa_cons (pv 0) pa_nil)))))) pss_nil)
  (pss_cons (ps_if (pt_cmpR op_eq (pv 0) pe_int (nomark _)) (pss_one (ps_ret (pe_make T.mk_Rights (ok_Rights___init__ T) (hr.mono (by decide)) (by rfl) T.gC_Rights (bd_Rights___init___1 T).2 (bd_Rights___init___1 T).1 (pxE rfl rfl rfl rfl) (pa_cons (pv 1) pa_nil)))) pss_nil)
  (pss_cons (ps_if (pt_cmpR op_eq (pv 0) pe_int (nomark _)) (pss_one (ps_ret (pe_callS (ok_as_rights T) (hr.mono (by decide)) (by rfl) T.g_as_rights T.F_as_rights.kp T.B_as_rights (fun σ => passAt (takes_of rfl rfl rfl rfl) σ) (pa_cons (pv 1) pa_nil)))) pss_nil)
  (pss_cons (ps_if (pt_cmpR op_eq (pv 0) pe_int (nomark _)) (pss_one (ps_ret (ClX.pe_cmeth (pe_gc rfl T.c_Rights) T.cr_Rights T.cm_Rights_of (ok_Rights_of T) (hr.mono (by decide)) (pxE rfl rfl rfl rfl) (pa_cons (pv 1) pa_nil)))) pss_nil)
  (pss_one (ps_ret (pe_ifExp (pt_cmpR op_eq (pv 0) pe_int (nomark _)) (ClX.pe_cmeth (pe_gc rfl T.c_Rights) T.cr_Rights T.cm_Rights_of (ok_Rights_of T) (hr.mono (by decide)) (pxE rfl rfl rfl rfl) (pa_cons pe_str (pa_cons (pe_make0 T.mk_Rights (ok_Rights___init__ T) (hr.mono (by decide)) (by rfl) T.gC_Rights (bd_Rights___init___0 T).choose_spec.2 (bd_Rights___init___0 T).choose_spec.1 (pxE rfl rfl rfl rfl)) (pa_cons (pv 1) pa_nil)))) (ClX.pe_cmeth (pe_gc rfl T.c_Rights) T.cr_Rights T.cm_Rights_from_digit ((ok_Rights_from_digit T).raw T.B_Rights_from_digit .nil) (hr.mono (by decide)) (pxE rfl rfl rfl rfl) (pa_cons (pv 1) pa_nil))))))))), ?_⟩
    rcases h with ⟨w0, w1, q⟩ | ⟨w5, w8, h⟩ | ⟨rfl, h⟩
    · walk_at "rd"
      refine ifD (fun c => ?_) (fun c => absurd c (by omega))
      walk_at "rd"
      intro x1 dx1 n1 m1 _
      refine ⟨x1, dx1, _, rfl, upd_same, .inr ⟨_, _, lit_rx.1, (lit_rx (H := H)).2, fun H1 k1' h1 => ⟨rfl, ?_⟩⟩⟩
      have k1 := keep_of_new Keep.refl n1 m1 k1'
      intro x2 dx2 n2 m2 _
      refine ⟨x2, dx2, _, rfl, upd_same, .inr ⟨_, _, lit_rwx.1, (lit_rwx (H := H)).2, fun H2 k2' h2 => ⟨rfl, ?_⟩⟩⟩
      have k2 := keep_of_new Keep.refl n2 m2 k2'
      intro x3 dx3 n3 m3 _
      refine ⟨x3, dx3, _, rfl, upd_same, .inr ⟨_, _, lit0.1, (lit0 (H := H)).2, fun H3 k3' h3 => ⟨rfl, ?_⟩⟩⟩
      have k3 := keep_of_new Keep.refl n3 m3 k3'
      have W3 := W.call0 ((k1.trans k2).trans k3)
      walk_at "rd"
      rename_i p H4 np sp kp hp W4
      have k4 : Keep [] H H4 := W4.keep
      have k34 : Keep [] H3 H4 := kp
      refine (he.keep0 k4).rep fun t ht => ?_
      refine ⟨t, rfl, ht, ?_⟩
      refine ⟨_, _, rfl, rfl, (show (0 : Int) < 3 by decide), ?_⟩
      have m0 : 0 ≤ (t.length : Int) % 3 := Int.emod_nonneg _ (by decide)
      have m1 : (t.length : Int) % 3 < 3 := Int.emod_lt_of_pos _ (by decide)
      obtain ⟨a, dx, d, hat, h0, d0, d1⟩ : ∃ (a dx : Addr) (d : Int), atI [V.ref x1, V.ref x2, V.ref x3] ((t.length : Int) % 3) = some (.ref a) ∧ H4 a = some (RgO A dx d) ∧ 0 ≤ d ∧ d ≤ 7 := by
        have cs : (t.length : Int) % 3 = 0 ∨ (t.length : Int) % 3 = 1 ∨ (t.length : Int) % 3 = 2 := by omega
        rcases cs with e3 | e3 | e3
        · rw [e3]; exact ⟨x1, dx1, 5, rfl, (k2.trans (k3.trans k34)) _ _ h1 (by simp), by decide, by decide⟩
        · rw [e3]; exact ⟨x2, dx2, 7, rfl, (k3.trans k34) _ _ h2 (by simp), by decide, by decide⟩
        · rw [e3]; exact ⟨x3, dx3, 0, rfl, k34 _ _ h3 (by simp), by decide, by decide⟩
      refine ⟨_, _, _, _, rfl, rfl, W4.sq 0 rfl, hat, ?_⟩
      walk_at "rd"
      exact ⟨_, d, _, _, rfl, ⟨a, dx, rfl, h0, d0, d1⟩, ⟨e, he.keep0 k4⟩, w0, w1, q.mono k4⟩
    · have cs : way = 5 ∨ way = 6 ∨ way = 7 ∨ way = 8 := by omega
      rcases cs with rfl | rfl | rfl | rfl
      · walk_at "rd"
        rcases h with ⟨hl, q⟩ | ⟨⟨d, hl⟩, q⟩
        · intro x1 dy hx hdy _
          exact ⟨x1, dy, _, rfl, upd_same, .inl ⟨.inl ⟨e, he.keep0 (keep_two hx hdy), hl⟩, q.mono (keep_two hx hdy)⟩⟩
        · intro x1 dx1 n1 m1 _
          obtain ⟨e1, he1, hl1⟩ := he.any hl (upd (upd H dx1 (.own x1)) x1 (.ins A.C_Rights dx1 []))
          exact ⟨x1, dx1, _, rfl, upd_same, .inr ⟨_, _, he1, hl1, fun H1 k1' h1 => ⟨rfl, q _ _ (keep_of_new Keep.refl n1 m1 k1')⟩⟩⟩
      · walk_at "rd"
        rcases h with ⟨hl, q⟩ | ⟨⟨d, hl⟩, q⟩
        · exact .inr (.inr ⟨⟨e, he, hl⟩, q⟩)
        · exact .inr (.inl ⟨e, d, he, hl, fun x1 dx1 H1 n1 m1 k1 h1 => q _ _ k1⟩)
      · walk_at "rd"
        rcases h with ⟨hl, q⟩ | ⟨⟨d, hl⟩, q⟩
        · exact ⟨[], [x], rfl, Nat.le_of_ble_eq_true rfl, fun p hp => (List.not_mem_nil hp).elim, .inr ⟨x, [], rfl, ⟨e, he, hl⟩, q⟩⟩
        · exact ⟨[(x, d)], [], rfl, Nat.le_of_ble_eq_true rfl, fun p hp => by rw [List.mem_singleton.mp hp]; exact .inr ⟨e, he, hl⟩, .inl ⟨rfl, fun x1 dx1 H1 n1 m1 k1 h1 => q _ _ k1⟩⟩
      · walk_at "rd"
        intro x1 dx1 n1 m1 _
        refine ⟨x1, dx1, _, rfl, upd_same, .inr ⟨_, _, lit0.1, (lit0 (H := H)).2, fun H1 k1' h1 => ⟨rfl, ?_⟩⟩⟩
        have k1 := keep_of_new Keep.refl n1 m1 k1'
        walk_at "rd"
        have pr : Part A H1 (.str (Str.ofString "r")) 4 := .inr ⟨_, lit_r⟩
        have p1 : Part A H1 (.ref x1) 0 := .inl ⟨x1, dx1, rfl, h1, by decide, by decide⟩
        rcases h with ⟨hl, q⟩ | ⟨⟨d, hl⟩, q⟩
        · refine ⟨[(.str (Str.ofString "r"), 4), (.ref x1, 0)], [x], rfl, Nat.le_of_ble_eq_true rfl, fun p hp => ?_, .inr ⟨x, [], rfl, ⟨e, he.keep0 k1, hl⟩, q.mono k1⟩⟩
          simp only [List.mem_cons, List.not_mem_nil, or_false] at hp
          rcases hp with rfl | rfl
          · exact pr
          · exact p1
        · refine ⟨[(.str (Str.ofString "r"), 4), (.ref x1, 0), (x, d)], [], rfl, Nat.le_of_ble_eq_true rfl, fun p hp => ?_, .inl ⟨rfl, fun x2 dx2 H2 n2 m2 k2 h2 => q _ _ (k1.trans k2)⟩⟩
          simp only [List.mem_cons, List.not_mem_nil, or_false] at hp
          rcases hp with rfl | rfl | rfl
          · exact pr
          · exact p1
          · exact .inr ⟨e, he.keep0 k1, hl⟩
    · walk_at "rd"
      rcases h with ⟨hl, q⟩ | ⟨hl, q⟩
      · exact ⟨x, e, rfl, he, .inr ⟨hl, q⟩⟩
      · refine ⟨x, e, rfl, he, .inl ?_⟩
        cases he with
        | int i _ =>
          have hl' : (decide (0 ≤ i) && decide (i ≤ 7)) = true := hl
          rw [Bool.and_eq_true, decide_eq_true_eq, decide_eq_true_eq] at hl'
          exact ⟨i, rfl, hl'.1, hl'.2, fun x1 dx1 H1 n1 m1 k1 h1 => q _ _ k1⟩
        | _ => cases hl
end
end K09
namespace K09
open PySem PySem.Spec PyProof.Rows L2 FR TL LamX
open C8 (pss_cut pe_gc)
open StX (pe_callS2 pa_star)
section
variable {A : Ads}
set_option pp.maxSteps 120
/-- what is caught of a lambda's exceptions -/
def Ec (A : Ads) (Q : VK) : XK := fun cls d H => ∃ (dd : Addr) (v : V) (nm : Str), d = some dd ∧ H dd = some (.xd [(("value" : Str), v)]) ∧ ((cls = .ref A.C_InvalidRights ∧ nm = Str.ofString "rights") ∨ (cls = .ref A.C_InvalidInteger ∧ nm = Str.ofString "integer")) ∧
  ∀ (p : Addr) (H2 : Hp), H p = none → sysModules < p → Keep [] H H2 → H2 p = some (.lst [.str nm, v]) → Q (.ref p) H2
def Told (Q : VK) : VK := fun v H => ∀ (p : Addr) (H2 : Hp), H p = none → sysModules < p → Keep [] H H2 → H2 p = some (.lst [.str (Str.ofString "told"), v]) → Q (.ref p) H2
def TC (A : Ads) (tl : XK → Hp → VK → Prop) (H : Hp) (Q : VK) : Prop := ∀ (E : XK) (R : VK), (∀ cls d H', Ec A Q cls d H' → E cls d H') → (∀ v H', Told Q v H' → R v H') → tl E H R
theorem kitF {K : PySem.W.Frag} {t a b : Value} (h1 : PySem.W.kitOne K t a = some false) (h2 : PySem.W.kitOne K t b = some false) : PySem.W.kitAny K t [a, b] = some false :=
  kitAny_cons h1 (fun _ => kitAny_cons h2 (fun _ => rfl) (fun z => Bool.noConfusion z)) (fun z => Bool.noConfusion z)
theorem gives_caught {X : Cx} {q : Str} (T : Txt X.w X.K X.mg A) (cd : Value) : Gives X N_caught "_law_caught" (defScope s_caught) A.f_caught cd (defBody s_caught) "_law_ask_here" q (TC A) := by
  intro f c' s H Q tl act hr hc' ht
  have W0 : Ow H [] H [] := Ow.start0
  refine ⟨_, (pss_cons (ps_try_asM (i := 2) rfl rfl sc_caught.nd rfl rfl (fun W pn xe tk _ => (pss_one (ps_set (i := 1) sc_caught.nd rfl (.inl rfl) (act W pn xe _ _ tk))))
  (ClausesOk.cons ⟨rfl, by decide, .inl T.low_InvalidRights.gC⟩ (fun a oe cls d pn hz hf => (pss_one (ps_ret (pe_lstS (pa_cons (pe_ix (ix_listK (K := X.K) rfl) (pe_lstS (pa_cons pe_str (pa_cons pe_str pa_nil))) (pe_callTy call_int1 (by rfl) T.b_int (by decide +kernel) (pa_cons (pe_callB (call_isHT hz hf) (by rfl) T.b_isinstance (by decide +kernel) (pa_cons (pv 2) (pa_cons (pe_tupN (pa_cons (pe_gc rfl T.c_InvalidInteger) (pa_cons (pe_gc rfl T.c_MissingError) (pa_cons (pe_gc rfl T.c_RefusedError) pa_nil)))) pa_nil))) pa_nil)) (fun _ _ => rfl)) (pa_cons (pe_byLow T.low_InvalidRights hz hf (pv 2)) pa_nil))))))
  (ClausesOk.cons ⟨rfl, by decide, .inl T.low_InvalidInteger.gC⟩ (fun a oe cls d pn hz hf => (pss_one (ps_ret (pe_lstS (pa_cons (pe_ix (ix_listK (K := X.K) rfl) (pe_lstS (pa_cons pe_str (pa_cons pe_str pa_nil))) (pe_callTy call_int1 (by rfl) T.b_int (by decide +kernel) (pa_cons (pe_callB (call_isHT hz hf) (by rfl) T.b_isinstance (by decide +kernel) (pa_cons (pv 2) (pa_cons (pe_tupN (pa_cons (pe_gc rfl T.c_MissingError) (pa_cons (pe_gc rfl T.c_RefusedError) pa_nil))) pa_nil))) pa_nil)) (fun _ _ => rfl)) (pa_cons (pe_byLow T.low_InvalidInteger hz hf (pv 2)) pa_nil))))))
  ClausesOk.nil)))
  (pss_one (ps_ret (pe_lstS (pa_cons pe_str (pa_cons (pv 1) pa_nil)))))), ?_⟩
  walk_at "rd"
  refine ⟨rfl, hc', ?_⟩
  refine ht _ _ (fun cls d H' h => ?_) (fun v H' h => ?_)
  · obtain ⟨dd, v, nm, rfl, hd, h, hq⟩ := h
    have W1 : Ow H' [] H' [] := Ow.start0
    rcases h with ⟨rfl, rfl⟩ | ⟨rfl, rfl⟩
    · refine ⟨true, T.low_InvalidRights.te, fun _ a0 ha => ?_, fun z => Bool.noConfusion z⟩
      walk_at "rd"
      rename_i p2 H2 np2 sp2 kp2 hp2 W2 t3 H3 np3 kp3 hp3 W3
      have k3 : Keep [] H' H3 := W3.keep
      refine ⟨_, _, _, _, _, ⟨rfl, T.ec_InvalidRights, dd, _, rfl, k3 _ _ hd (by simp)⟩, rfl, hp3, .cons (.own _) (.cons (.own _) (.cons (.own _) .nil)), kitAny_cons T.kit_InvalidRights_InvalidInteger (fun _ => kitF T.kit_InvalidRights_MissingError T.kit_InvalidRights_RefusedError) (fun z => Bool.noConfusion z), ?_⟩
      refine .inr ⟨false, rfl, ?_⟩
      refine ⟨_, _, _, _, rfl, rfl, W3.sq 1 rfl, rfl, ?_⟩
      walk_at "rd"
      refine ⟨dd, v, rfl, k3 _ _ hd (by simp), ?_⟩
      walk_at "rd"
      rename_i p4 H4 np4 sp4 kp4 hp4 W4
      exact hq p4 H4 (k3.free np4) sp4 W4.keep hp4
    · refine ⟨false, T.exm_InvalidInteger_InvalidRights, fun z => Bool.noConfusion z, fun _ => ⟨true, T.low_InvalidInteger.te, fun _ a0 ha => ?_, fun z => Bool.noConfusion z⟩⟩
      walk_at "rd"
      rename_i p2 H2 np2 sp2 kp2 hp2 W2 t3 H3 np3 kp3 hp3 W3
      have k3 : Keep [] H' H3 := W3.keep
      refine ⟨_, _, _, _, _, ⟨rfl, T.ec_InvalidInteger, dd, _, rfl, k3 _ _ hd (by simp)⟩, rfl, hp3, .cons (.own _) (.cons (.own _) .nil), kitF T.kit_InvalidInteger_MissingError T.kit_InvalidInteger_RefusedError, ?_⟩
      refine .inr ⟨false, rfl, ?_⟩
      refine ⟨_, _, _, _, rfl, rfl, W3.sq 1 rfl, rfl, ?_⟩
      walk_at "rd"
      refine ⟨dd, v, rfl, k3 _ _ hd (by simp), ?_⟩
      walk_at "rd"
      rename_i p4 H4 np4 sp4 kp4 hp4 W4
      exact hq p4 H4 (k3.free np4) sp4 W4.keep hp4
  · have W1 : Ow H' [] H' [] := Ow.start0
    walk_at "rd"
    rename_i p2 H2 np2 sp2 kp2 hp2 W2
    exact h p2 H2 np2 sp2 kp2 hp2
/-- what the making of a lambda asks of the tables -/
structure TBs (base : Heap) (mg : Str → Option Value) (c P : Addr) (q : Str) (TS : List (Addr × Str)) : Prop where
  b : TabB base mg c P
  m : (P, q) ∈ TS
  u : ∀ p ∈ TS, p.1 = P → p.2 = q
theorem lam_caught {X : Cx} {k : Nat} {sc : Scope} {c P : Addr} {TT : List (Addr × Str)} {params : Arguments} {body : Expr} {scope : Scope} {t : XK → TE} {p lp pos : Pos} (T : Txt X.w X.K X.mg A) {ql : Str} (TB : TBs X.base X.mg c P (ql ++ "<lambda>") TT) (hgd : X.A.guards = some []) (hr : Room (k + 2) X.A)
    (hbody : ∀ (Y : Around) (outer : List Env) (s : Shared) (H : Hp) (E : XK) (f c' : Addr), Y.guards = some [] → Room k (Y.deeper (lamEnv X scope s.heap.objs.size f c')) → PE (lamCx X Y outer s H E scope f c') body (t E))
    (hg : Gl X "_law_caught" := by rfl) (hcode : X.env.code = .ref c := by rfl) (hq : X.env.qual = ql := by rfl) (hsc : X.env.scope = sc := by rfl) (L : LamS sc scope := by exact lamS_by (by decide +kernel)) (hdef : defaultsOf params X.env = ([], []) := by rfl)
    (hb : ∀ (q : Str) (cl : List (Str × Addr)) (pm cv ctv : Value), bindArgs (PySem.W.kla_fn "<lambda>" q params body scope cl pm cv ctv) ⟨[], []⟩ = pure [] := by exact fun _ _ _ _ _ => rfl) :
    PE X (.Call (.Name "_law_caught" p) [.Lambda params body scope lp] [] pos) (tGive TT (TC A) t) :=
  by
  subst hq hsc
  exact pe_give hgd hr T.F_caught T.B_caught sc_caught rfl (.inl rfl) hg T.g_caught T.F_caught.kp (fun cd => gives_caught T cd) TB.b hcode TB.m TB.u L hdef hb hbody
end
end K09
namespace K09
open PySem PySem.Spec PyProof.Rows L2 FR TL LamX
open C8 (pss_cut pe_gc)
open StX (pe_callS2 pa_star)
section
variable {P : Program} {w : World} {K : PySem.W.Frag} {mg : Str → Option Value} {base : Heap} {A : Ads}
set_option pp.maxSteps 150
theorem Odd.ext {H H' : Hp} {v : V} {e : PyData} (h : Odd H v e) (k : ExtN H H') : Odd H' v e := h.keep fun a o q _ n => k a o q n
theorem ext_of {H H' : Hp} (k : Keep [] H H') : ExtN H H' := ExtN.of fun b o e => k b o e (by simp)
theorem tabs_of {T : List (Addr × Str)} {H H' : Hp} (t : Tabs T H) (k : Keep [] H H') : Tabs T H' := t.ext fun b o e => k b o e (by simp)
/-- what comes behind holds in each heap that keeps all but the tables -/
def Onw (TS : List (Addr × Str)) (H : Hp) (F : Hp → Prop) : Prop := Tabs TS H ∧ ∀ H', ExtN H H' → Tabs TS H' → F H'
theorem Onw.ext {TS : List (Addr × Str)} {H H' : Hp} {F : Hp → Prop} (h : Onw TS H F) (k : ExtN H H') (t : Tabs TS H') : Onw TS H' F := ⟨t, fun H2 k2 t2 => h.2 H2 (k.trans k2) t2⟩
theorem Onw.keep {TS : List (Addr × Str)} {H H' : Hp} {F : Hp → Prop} (h : Onw TS H F) (k : Keep [] H H') : Onw TS H' F := h.ext (ext_of k) (tabs_of h.1 k)
theorem Onw.now {TS : List (Addr × Str)} {H : Hp} {F : Hp → Prop} (h : Onw TS H F) : F H := h.2 H (ExtN.refl H) h.1
def R_whole (TT : List (Addr × Str)) : TS := fun D σ H => ∃ (v u : V) (e g : PyData) (b : Bool) (y3 y4 y5 y6 y7 : Option V), σ = [some v, some u, some (.bl b), y3, y4, y5, y6, y7] ∧ Odd H v e ∧ Odd H u g ∧ b = (letD e).isSome ∧ Onw TT H (D.rt (.bl true))
theorem blk_whole (T : Txt w K mg A) {c Pt : Addr} {TT : List (Addr × Str)} (TB : TBs base mg c Pt ("_law_right" ++ ".<locals>." ++ "<lambda>") TT) {A_ : Around} {outer : List Env} {s_ : Shared} {H : Hp} {E : XK} (hgd : A_.guards = some []) (hr : Room 9 (A_.deeper (envOfC "_law_right" (defScope s_right) s_.heap.objs.size A.f_right (.ref c)))) : PSs (cxOf CX0 P w K mg base N_right "_law_right" (defScope s_right) A.f_right (.ref c) A_ outer s_ H E).nox (List.drop 6 (defBody s_right)) (R_whole TT) := by
  refine pss_b (pss_cut (ps_set (i := 6) sc_right.nd rfl (.inl rfl) (pe_and (pe_callB call_isi (by rfl) T.b_isinstance (by decide +kernel) (pa_cons (pv 0) (pa_cons (pe_bltn (v := .ty "int") rfl T.b_int (by decide +kernel) rfl) pa_nil))) (pe_and (pe_not (pe_callB call_isi (by rfl) T.b_isinstance (by decide +kernel) (pa_cons (pv 0) (pa_cons (pe_bltn (v := .ty "bool") rfl T.b_bool (by decide +kernel) rfl) pa_nil)))) (pe_one (pe_chain op_le op_le pe_int (pv 0) pe_int)))))
  (pss_cons (ps_set (i := 4) sc_right.nd rfl (.inl rfl) (lam_caught (sc := defScope s_right) T TB hgd hr (fun Y outer s H E f c hgd hr => (pe_callG (ok_ask T) hgd (hr.mono (by decide)) T.F_ask.kp (by rfl) T.g_ask (pxE rfl rfl rfl rfl) (pa_cons pe_int (pa_cons (pv 0) pa_nil))))))
  (pss_one (ps_ret (pe_ifExp (pt_val (pv 6)) (pe_cmpR op_eq (pe_ix ix_list (pv 4) pe_int (fun _ _ => rfl)) pe_str (nomark _)) (pe_callG (ok_same T) hgd (hr.mono (by decide)) T.F_same.kp (by rfl) T.g_same pass0 (pa_cons (pv 4) (pa_cons (pe_lstS (pa_cons pe_str (pa_cons (pv 0) pa_nil))) pa_nil)))))))) ?_
  rintro D σ H3 ⟨v, u, e, g, b, y3, y4, y5, y6, y7, rfl, he, hg, hb, ow⟩
  have ty : TyX K H3 v (.type (tyN e)) := he.ty
  refine ⟨fun σ' H' => σ' = [some v, some u, some (.bl b), y3, y4, y5, some (.bl (isW 0 7 e)), y7] ∧ H' = H3, ?_, ?_⟩
  · walk_at "rd"
    refine ⟨_, _, _, _, _, rfl, .ty _, ty, kit_ty (kit_int e), ?_⟩
    cases he with
    | int i h =>
      walk_at "rd"
      refine ite2 (fun c => ?_) (fun c => ?_)
      · walk_at "rd"
        exact ⟨by rw [show isW 0 7 (.int i) = (decide (0 ≤ i) && decide (i ≤ 7)) from rfl, c, Bool.true_and]; rfl, rfl⟩
      · walk_at "rd"
        exact ⟨by rw [show isW 0 7 (.int i) = (decide (0 ≤ i) && decide (i ≤ 7)) from rfl, Bool.eq_false_iff.mpr c, Bool.false_and]; rfl, rfl⟩
    | str z h1 h2 => walk_at "rd"; exact ⟨rfl, rfl⟩
    | non => walk_at "rd"; exact ⟨rfl, rfl⟩
    | bl b => walk_at "rd"; exact ⟨rfl, rfl⟩
    | lst _ _ _ _ => walk_at "rd"; exact ⟨rfl, rfl⟩
    | one _ _ => walk_at "rd"; exact ⟨rfl, rfl⟩
    | tup _ _ _ => walk_at "rd"; exact ⟨rfl, rfl⟩
    | dc0 _ => walk_at "rd"; exact ⟨rfl, rfl⟩
    | dc1 _ => walk_at "rd"; exact ⟨rfl, rfl⟩
  · rintro _ _ ⟨rfl, rfl⟩
    refine ⟨ow.1, fun H1 k1 t1 E1 R1 hE hR => ?_⟩
    have he1 := he.ext k1
    have ow1 := ow.ext k1 t1
    walk_at "rd"
    refine ⟨9, v, e, rfl, he1, .inr (.inr ⟨rfl, ?_⟩)⟩
    cases hw : isW 0 7 e with
    | true =>
      rw [hw] at hE hR
      refine .inr ⟨rfl, fun v' H2 k2 => hR v' H2 fun p H4 np sp kp hp => ?_⟩
      have W4 : Ow H4 [] H4 [] := Ow.start0
      walk_at "rd"
      refine ⟨_, _, _, _, rfl, rfl, .inl (.inl hp), rfl, ?_⟩
      refine ⟨rfl, ?_⟩
      rw [show decide (V.str (Str.ofString "told") = V.str (Str.ofString "told")) = true from decide_eq_true rfl]
      exact ((ow1.keep k2).keep kp).now
    | false =>
      rw [hw] at hE hR
      refine .inl ⟨rfl, fun d H2 k2 e2 => hE _ _ _ ⟨d, v, _, rfl, e2, .inr ⟨rfl, rfl⟩, fun p H4 np sp kp hp => ?_⟩⟩
      have W4 : Ow H4 [] H4 [] := Ow.start0
      walk_at "rd"
      rename_i p5 H5 np5 sp5 kp5 hp5 W5
      have k24 : Keep [] H1 H5 := (k2.trans kp).trans kp5
      obtain ⟨d1, f1, f2, f3⟩ := Odd.pair (s := Str.ofString "integer") (he1.keep0 k24) (by decide +kernel) (.of (by decide +kernel)) (kp5 _ _ hp (by simp)) sp
      obtain ⟨d2, _⟩ := Odd.pair (s := Str.ofString "integer") (he1.keep0 k24) (by decide +kernel) (.of (by decide +kernel)) hp5 sp5
      exact ⟨p, p5, _, rfl, d1, d2, f1, f2, f3, (ow1.keep k24).now⟩
end
end K09
namespace K09
open PySem PySem.Spec PyProof.Rows L2 FR TL LamX
open C8 (pss_cut pe_gc)
open StX (pe_callS2 pa_star)
section
variable {P : Program} {w : World} {K : PySem.W.Frag} {mg : Str → Option Value} {base : Heap} {A : Ads}
set_option pp.maxSteps 150
theorem lit_x {H : Hp} : Odd H (.str (Str.ofString "x")) (.str (Str.ofString "x")) ∧ letD (.str (Str.ofString "x")) = some 1 := lit (by decide +kernel) (by decide +kernel) (by decide +kernel)
def fa (v : V) (e : PyData) : List V := if (letD e).isSome then [] else [v]
def acc (v u : V) (e g : PyData) : Nat → List V
  | 0 => []
  | 1 => fa v e
  | _ => fa v e ++ fa u g
theorem blk_first (T : Txt w K mg A) {c Pt : Addr} {TT : List (Addr × Str)} (TB : TBs base mg c Pt ("_law_right" ++ ".<locals>." ++ "<lambda>") TT) {A_ : Around} {outer : List Env} {s_ : Shared} {H : Hp} {E : XK} (hgd : A_.guards = some []) (hr : Room 9 (A_.deeper (envOfC "_law_right" (defScope s_right) s_.heap.objs.size A.f_right (.ref c)))) : PSs (cxOf CX0 P w K mg base N_right "_law_right" (defScope s_right) A.f_right (.ref c) A_ outer s_ H E).nox (List.drop 3 (defBody s_right)) (R_whole TT) := by
  refine pss_b (pss_cons (ps_setLc (i := 5) (own := [("_law_one", 7)]) (g := gName 7) rfl sc_right.nd rfl rfl (sw_true rfl rfl rfl (by decide +kernel)) (pi_list (pe_lstS (pa_cons (pv 0) (pa_cons (pv 1) pa_nil)))) (blkOk_by (own := [("_law_one", 7)]) (N := N_right) (sc := defScope s_right) (by decide +kernel)) (fun _ _ _ _ _ => pg_name (i := 7) sc_right.nd rfl (Or.inl rfl)) (fun _ _ _ _ _ => (pts_one (pt_not (pt_val (pe_call (ok_is_letters T) (hr.mono (by decide)) (by rfl) T.g_is_letters T.F_is_letters.kp T.B_is_letters .nil pass0 (pa_cons (pv 7) pa_nil)))))) (fun _ _ _ _ _ => (pv 7)))
  (pss_cons (ps_set (i := 4) sc_right.nd rfl (.inl rfl) (lam_caught (sc := defScope s_right) T TB hgd hr (fun Y outer s H E f c hgd hr => (ClX.pe_cmeth (pe_gc rfl T.c_Rights) T.cr_Rights T.cm_Rights_of (ok_Rights_of T) (hr.mono (by decide)) (pxE rfl rfl rfl rfl) (pa_cons pe_str (pa_cons (pv 0) (pa_cons (pv 1) pa_nil)))))))
  (pss_cons (ps_if (PW.pt (pw_or (PW.pt (pw_and (pt_cmpR (op_neNil (u65 hr)) (pv 5) (pe_lstS pa_nil) (nomark _)) (pw_and1 (pt_not (pt_val (pe_callG (ok_same T) hgd (hr.mono (by decide)) T.F_same.kp (by rfl) T.g_same pass0 (pa_cons (pv 4) (pa_cons (pe_lstS (pa_cons pe_str (pa_cons (pe_ix ix_list (pv 5) pe_int (fun _ _ => rfl)) pa_nil))) pa_nil)))))))) (pw_or1 (PW.pt (pw_and (pt_cmpR (op_eqNil (u65 hr)) (pv 5) (pe_lstS pa_nil) (nomark _)) (pw_and1 (pt_cmpR op_ne (pe_ix ix_list (pv 4) pe_int (fun _ _ => rfl)) pe_str (nomark _)))))))) (pss_one (ps_ret pe_bl)) pss_nil)
  (blk_whole T TB hgd hr)))) ?_
  rintro D σ H3 ⟨v, u, e, g, b, y3, y4, y5, y6, y7, rfl, he, hg, hb, ow⟩
  have W : Ow H3 [] H3 [] := Ow.start0
  walk_at "rd"
  rename_i p2 H2 np2 sp2 kp2 hp2 W2
  refine ⟨⟨_, W2.sq 0 rfl⟩, fun D1 hD => ?_⟩
  refine lc_li (a := p2) (xs := [v, u]) (fun pre H' => Ow H3 [] H' [(D1, .lst (acc v u e g pre.length)), (p2, .lst [v, u])]) (W2.new hD) ?_ ?_ ?_
  · rintro pre post H4 e4 W4
    exact W4.sq 1 rfl
  · rintro pre x post H4 e4 W4
    obtain ⟨i, a0, hi, h1, h2, h3⟩ : ∃ (i : PyData) (a0 : List V), Odd H4 x i ∧ acc v u e g (pre ++ [x]).length = a0 ++ fa x i ∧ acc v u e g pre.length = a0 ∧ a0.length ≤ 1 := by
      rcases pre with _ | ⟨q1, _ | ⟨q2, r⟩⟩
      · injection e4 with e5 e6
        subst e5
        exact ⟨e, [], he.keep0 W4.keep, rfl, rfl, by decide⟩
      · injection e4 with e5 e6
        injection e6 with e7 e8
        subst e5 e7
        exact ⟨g, fa v e, hg.keep0 W4.keep, rfl, rfl, by unfold fa; split <;> simp⟩
      · simp only [List.cons_append] at e4
        injection e4 with e5 e6
        injection e6 with e7 e8
        cases r <;> cases e8
    walk_at "rd"
    refine ⟨x, i, rfl, hi, fun H5 k5 => ?_⟩
    have W5 := W4.call0 k5
    rw [h1]
    rw [h2] at W5
    cases hl : (letD i).isSome with
    | true =>
      walk_at "rd"
      rw [show fa x i = [] from by unfold fa; rw [hl]; rfl, List.append_nil]
      exact W5
    | false =>
      walk_at "rd"
      refine ⟨_, W5.get 0 rfl, size_ok (by omega), ?_⟩
      rw [show fa x i = [x] from by unfold fa; rw [hl]; rfl]
      exact W5.set 0 rfl
  · intro H4 W4
    walk_at "rd"
    have hD4 : H4 D1 = some (.lst (fa v e ++ fa u g)) := W4.get 0 rfl
    have k4 : Keep [] H3 H4 := W4.keep
    have ow4 := ow.keep k4
    refine ⟨ow4.1, fun H5 k5 t5 E1 R1 hE hR => ?_⟩
    have ow5 := ow4.ext k5 t5
    have he5 := (he.keep0 k4).ext k5
    have hg5 := (hg.keep0 k4).ext k5
    have hD5 : H5 D1 = some (.lst (fa v e ++ fa u g)) := k5 _ _ hD4 fun ps q => by cases q
    walk_at "rd"
    have px : Part A H5 (.str (Str.ofString "x")) 1 := .inr ⟨_, lit_x⟩
    have same : ∀ (v' : V) (e' : PyData) (H6 H8 : Hp) (p p8 : Addr), Odd H5 v' e' → Keep [] H5 H6 → Keep [] H6 H8 → H6 p = some (.lst [.str (Str.ofString "rights"), v']) → sysModules < p → H8 p8 = some (.lst [.str (Str.ofString "rights"), v']) → sysModules < p8 → ∃ d, Dq H8 (.ref p) d ∧ Dq H8 (.ref p8) d ∧ d.showable = true ∧ d.depth ≤ 50 ∧ d.shown.length ≤ sizeLine := by
      intro v' e' H6 H8 p p8 h0 k6 k8 h1 h2 h3 h4
      obtain ⟨d1, f1, f2, f3⟩ := Odd.pair (s := Str.ofString "rights") (h0.keep0 (k6.trans k8)) (by decide +kernel) (.of (by decide +kernel)) (k8 _ _ h1 (by simp)) h2
      obtain ⟨d2, _⟩ := Odd.pair (s := Str.ofString "rights") (h0.keep0 (k6.trans k8)) (by decide +kernel) (.of (by decide +kernel)) h3 h4
      exact ⟨_, d1, d2, f1, f2, f3⟩
    cases hle : letD e with
    | none =>
      refine ⟨[(.str (Str.ofString "x"), 1)], [v, u], rfl, Nat.le_of_ble_eq_true rfl, fun p hp => by rw [List.mem_singleton.mp hp]; exact px, .inr ⟨v, [u], rfl, ⟨e, he5, hle⟩, fun d H6 k6 e6 => hE _ _ _ ⟨d, v, _, rfl, e6, .inl ⟨rfl, rfl⟩, fun p H7 np sp kp hp => ?_⟩⟩⟩
      have hD7 : H7 D1 = some (.lst (v :: fa u g)) := (k6.trans kp) _ _ (by rw [hD5]; unfold fa; rw [hle]; rfl) (by simp)
      have W7 : Ow H7 [] H7 [] := Ow.start0
      walk_at "rd"
      rename_i p8 H8 np8 sp8 kp8 hp8 W8
      have hD8 := kp8 _ _ hD7 (by simp)
      refine ⟨D1, p8, _, rfl, rfl, .inl (.inl hD8), .inl (.inl hp8), ?_⟩
      refine ⟨true, rfl, ?_⟩
      refine ifT rfl ?_
      walk_at "rd"
      refine ⟨_, _, _, _, rfl, rfl, .inl (.inl hD8), atI_nat (j := 0) rfl, ?_⟩
      walk_at "rd"
      rename_i p9 H9 np9 sp9 kp9 hp9 W9
      obtain ⟨dt, dq1, dq2, f1, f2, f3⟩ := same v e H7 H9 p p9 he5 (k6.trans kp) (kp8.trans kp9) hp sp hp9 sp9
      refine ⟨p, p9, dt, rfl, dq1, dq2, f1, f2, f3, ?_⟩
      walk_at "rd"
      rename_i p10 H10 np10 sp10 kp10 hp10 W10
      refine ⟨D1, p10, _, rfl, rfl, .inl (.inl (kp10 _ _ (kp9 _ _ hD8 (by simp)) (by simp))), .inl (.inl hp10), ?_⟩
      refine ⟨false, rfl, ?_⟩
      walk_at "rd"
      have k10 : Keep [] H5 H10 := ((((k6.trans kp).trans kp8).trans kp9).trans kp10)
      exact ⟨v, u, e, g, b, _, _, _, _, _, rfl, he5.keep0 k10, hg5.keep0 k10, hb, ow5.keep k10⟩
    | some d1 =>
      cases hlg : letD g with
      | none =>
        refine ⟨[(.str (Str.ofString "x"), 1), (v, d1)], [u], rfl, Nat.le_of_ble_eq_true rfl, fun p hp => ?_, .inr ⟨u, [], rfl, ⟨g, hg5, hlg⟩, fun d H6 k6 e6 => hE _ _ _ ⟨d, u, _, rfl, e6, .inl ⟨rfl, rfl⟩, fun p H7 np sp kp hp => ?_⟩⟩⟩
        · simp only [List.mem_cons, List.not_mem_nil, or_false] at hp
          rcases hp with rfl | rfl
          · exact px
          · exact .inr ⟨e, he5, hle⟩
        have hD7 : H7 D1 = some (.lst [u]) := (k6.trans kp) _ _ (by rw [hD5]; unfold fa; rw [hle, hlg]; rfl) (by simp)
        have W7 : Ow H7 [] H7 [] := Ow.start0
        walk_at "rd"
        rename_i p8 H8 np8 sp8 kp8 hp8 W8
        have hD8 := kp8 _ _ hD7 (by simp)
        refine ⟨D1, p8, _, rfl, rfl, .inl (.inl hD8), .inl (.inl hp8), ?_⟩
        refine ⟨true, rfl, ?_⟩
        refine ifT rfl ?_
        walk_at "rd"
        refine ⟨_, _, _, _, rfl, rfl, .inl (.inl hD8), rfl, ?_⟩
        walk_at "rd"
        rename_i p9 H9 np9 sp9 kp9 hp9 W9
        obtain ⟨dt, dq1, dq2, f1, f2, f3⟩ := same u g H7 H9 p p9 hg5 (k6.trans kp) (kp8.trans kp9) hp sp hp9 sp9
        refine ⟨p, p9, dt, rfl, dq1, dq2, f1, f2, f3, ?_⟩
        walk_at "rd"
        rename_i p10 H10 np10 sp10 kp10 hp10 W10
        refine ⟨D1, p10, _, rfl, rfl, .inl (.inl (kp10 _ _ (kp9 _ _ hD8 (by simp)) (by simp))), .inl (.inl hp10), ?_⟩
        refine ⟨false, rfl, ?_⟩
        walk_at "rd"
        have k10 : Keep [] H5 H10 := ((((k6.trans kp).trans kp8).trans kp9).trans kp10)
        exact ⟨v, u, e, g, b, _, _, _, _, _, rfl, he5.keep0 k10, hg5.keep0 k10, hb, ow5.keep k10⟩
      | some d2 =>
        refine ⟨[(.str (Str.ofString "x"), 1), (v, d1), (u, d2)], [], rfl, Nat.le_of_ble_eq_true rfl, fun p hp => ?_, .inl ⟨rfl, fun x6 dx6 H6 n6 m6 k6 h6 => hR _ _ fun p H7 np sp kp hp => ?_⟩⟩
        · simp only [List.mem_cons, List.not_mem_nil, or_false] at hp
          rcases hp with rfl | rfl | rfl
          · exact px
          · exact .inr ⟨e, he5, hle⟩
          · exact .inr ⟨g, hg5, hlg⟩
        have hD7 : H7 D1 = some (.lst []) := (k6.trans kp) _ _ (by rw [hD5]; unfold fa; rw [hle, hlg]; rfl) (by simp)
        have W7 : Ow H7 [] H7 [] := Ow.start0
        walk_at "rd"
        rename_i p8 H8 np8 sp8 kp8 hp8 W8
        have hD8 := kp8 _ _ hD7 (by simp)
        refine ⟨D1, p8, _, rfl, rfl, .inl (.inl hD8), .inl (.inl hp8), ?_⟩
        refine ⟨false, rfl, ?_⟩
        walk_at "rd"
        rename_i p10 H10 np10 sp10 kp10 hp10 W10
        refine ⟨D1, p10, _, rfl, rfl, .inl (.inl (kp10 _ _ hD8 (by simp))), .inl (.inl hp10), ?_⟩
        refine ⟨true, rfl, ?_⟩
        walk_at "rd"
        refine ⟨_, _, _, _, rfl, rfl, .inl (.inl (kp10 _ _ (kp8 _ _ hp (by simp)) (by simp))), rfl, ?_⟩
        walk_at "rd"
        have k10 : Keep [] H5 H10 := (((k6.trans kp).trans kp8).trans kp10)
        exact ⟨v, u, e, g, b, _, _, _, _, _, rfl, he5.keep0 k10, hg5.keep0 k10, hb, ow5.keep k10⟩
end
end K09
namespace K09
open PySem PySem.Spec PyProof.Rows L2 FR TL LamX
open C8 (pss_cut pe_gc)
open StX (pe_callS2 pa_star)
section
variable {P : Program} {w : World} {K : PySem.W.Frag} {mg : Str → Option Value} {base : Heap} {A : Ads}
set_option pp.maxSteps 150
theorem blk_ways (T : Txt w K mg A) {c Pt : Addr} {TT : List (Addr × Str)} (TB : TBs base mg c Pt ("_law_right" ++ ".<locals>." ++ "<lambda>") TT) {A_ : Around} {outer : List Env} {s_ : Shared} {H : Hp} {E : XK} (hgd : A_.guards = some []) (hr : Room 9 (A_.deeper (envOfC "_law_right" (defScope s_right) s_.heap.objs.size A.f_right (.ref c)))) : PSs (cxOf CX0 P w K mg base N_right "_law_right" (defScope s_right) A.f_right (.ref c) A_ outer s_ H E).nox (List.drop 2 (defBody s_right)) (R_whole TT) := by
  refine pss_b (pss_cons (ps_for PassesOwn.never rfl (pi_range1 (by rfl) T.b_range (pa_cons pe_int pa_nil)) (pg_name (i := 3) sc_right.nd rfl (.inr rfl)) (pss_cons (ps_set (i := 4) sc_right.nd rfl (.inl rfl) (lam_caught (sc := defScope s_right) T TB hgd hr (fun Y outer s H E f c hgd hr => (pe_callG (ok_ask T) hgd (hr.mono (by decide)) T.F_ask.kp (by rfl) T.g_ask (pxE rfl rfl rfl rfl) (pa_cons (pv 3) (pa_cons (pv 0) pa_nil))))))
  (pss_one (ps_if (PW.pt (pw_or (pt_cmpR op_lt (pv 3) pe_int (nomark _)) (pw_or1 (pt_not (pt_val (pv 2)))))) (pss_one (ps_if (pt_not (pt_val (pe_callG (ok_same T) hgd (hr.mono (by decide)) T.F_same.kp (by rfl) T.g_same pass0 (pa_cons (pv 4) (pa_cons (pe_lstS (pa_cons pe_str (pa_cons (pv 0) pa_nil))) pa_nil))))) (pss_one (ps_ret pe_bl)) pss_nil)) (pss_one (ps_if (pt_cmpR op_ne (pe_ix ix_list (pv 4) pe_int (fun _ _ => rfl)) pe_str (nomark _)) (pss_one (ps_ret pe_bl)) pss_nil))))))
  (blk_first T TB hgd hr)) ?_
  rintro D σ H3 ⟨v, u, e, g, b, y3, y4, y5, y6, y7, rfl, he, hg, hb, ow⟩
  walk_at "rd"
  refine for_rg (fun j σ H' => (∃ z3 z4, σ = [some v, some u, some (.bl b), z3, z4, y5, y6, y7]) ∧ ExtN H3 H' ∧ Tabs TT H') ⟨⟨_, _, rfl⟩, ExtN.refl _, ow.1⟩ ?_ ?_
  · rintro i σ H4 hi ⟨⟨z3, z4, rfl⟩, k4, t4⟩
    have he4 := he.ext k4
    have hw0 : (0 : Int) ≤ 0 + (i : Int) := by omega
    have hw1 : (0 : Int) + (i : Int) ≤ 8 := by have : i < 9 := hi; omega
    generalize (0 : Int) + (i : Int) = way at hw0 hw1 ⊢
    refine ⟨t4, fun H5 k5 t5 E1 R1 hE hR => ?_⟩
    have he5 := he4.ext k5
    walk_at "rd"
    refine ⟨way, v, e, rfl, he5, ?_⟩
    have bad : ∀ d H6, Keep [] H5 H6 → H6 d = some (.xd [(("value" : Str), v)]) → (way < 5 ∨ b = false) → E1 (.ref A.C_InvalidRights) (some d) H6 := fun d H6 k6 e6 hc => hE _ _ _ ⟨d, v, _, rfl, e6, .inl ⟨rfl, rfl⟩, fun p H7 np sp kp hp => by
      have W7 : Ow H7 [] H7 [] := Ow.start0
      have k7 := k6.trans kp
      walk_at "rd"
      refine ifD (fun c => ?_) (fun c => ?_)
      · walk_at "rd"
        rename_i p8 H8 np8 sp8 kp8 hp8 W8
        have k58 : Keep [] H5 H8 := k7.trans kp8
        obtain ⟨d1, f1, f2, f3⟩ := Odd.pair (s := Str.ofString "rights") (he5.keep0 k58) (by decide +kernel) (.of (by decide +kernel)) (kp8 _ _ hp (by simp)) sp
        obtain ⟨d2, _⟩ := Odd.pair (s := Str.ofString "rights") (he5.keep0 k58) (by decide +kernel) (.of (by decide +kernel)) hp8 sp8
        refine ⟨p, p8, _, rfl, d1, d2, f1, f2, f3, ?_⟩
        walk_at "rd"
        exact ⟨⟨_, _, rfl⟩, (k4.trans k5).trans (ext_of k58), tabs_of t5 k58⟩
      · have hb0 : b = false := hc.resolve_left c
        clear hb
        subst hb0
        walk_at "rd"
        rename_i p8 H8 np8 sp8 kp8 hp8 W8
        have k58 : Keep [] H5 H8 := k7.trans kp8
        obtain ⟨d1, f1, f2, f3⟩ := Odd.pair (s := Str.ofString "rights") (he5.keep0 k58) (by decide +kernel) (.of (by decide +kernel)) (kp8 _ _ hp (by simp)) sp
        obtain ⟨d2, _⟩ := Odd.pair (s := Str.ofString "rights") (he5.keep0 k58) (by decide +kernel) (.of (by decide +kernel)) hp8 sp8
        refine ⟨p, p8, _, rfl, d1, d2, f1, f2, f3, ?_⟩
        walk_at "rd"
        exact ⟨⟨_, _, rfl⟩, (k4.trans k5).trans (ext_of k58), tabs_of t5 k58⟩⟩
    have good : ∀ v' H6, Keep [] H5 H6 → ¬ way < 5 → b = true → R1 v' H6 := fun v' H6 k6 hc hb => hR _ _ fun p H7 np sp kp hp => by
      have W7 : Ow H7 [] H7 [] := Ow.start0
      have k7 := k6.trans kp
      subst hb
      walk_at "rd"
      refine ifD (fun c => absurd c hc) (fun c => ?_)
      walk_at "rd"
      refine ⟨_, _, _, _, rfl, rfl, .inl (.inl hp), rfl, ?_⟩
      walk_at "rd"
      exact ⟨⟨_, _, rfl⟩, (k4.trans k5).trans (ext_of k7), tabs_of t5 k7⟩
    by_cases hw : way < 5
    · exact .inl ⟨hw0, by omega, fun d H6 k6 e6 => bad d H6 k6 e6 (.inl hw)⟩
    · refine .inr (.inl ⟨by omega, hw1, ?_⟩)
      cases hl : letD e with
      | none => exact .inl ⟨rfl, fun d H6 k6 e6 => bad d H6 k6 e6 (.inr (by rw [hb, hl]; rfl))⟩
      | some d => exact .inr ⟨⟨d, rfl⟩, fun v' H6 k6 => good v' H6 k6 hw (by rw [hb, hl]; rfl)⟩
  · rintro σ H4 ⟨⟨z3, z4, rfl⟩, k4, t4⟩
    walk_at "rd"
    exact ⟨v, u, e, g, b, _, _, _, _, _, rfl, he.ext k4, hg.ext k4, hb, ow.ext k4 t4⟩
end
end K09
namespace K09
open PySem PySem.Spec PyProof.Rows L2 FR TL LamX
open C8 (pss_cut pe_gc)
open StX (pe_callS2 pa_star)
section
variable {P : Program} {w : World} {K : PySem.W.Frag} {mg : Str → Option Value} {base : Heap} {A : Ads}
set_option pp.maxSteps 150
theorem eqv_diff (s : Str) (e : PyData) (h : ∀ t, e ≠ .str t) : PyData.eqv (.str s) e = false := by
  cases e with
  | str t => exact absurd rfl (h t)
  | _ => rfl
theorem Odd.inT {H : Hp} {v : V} {e : PyData} (h : Odd H v e) : InT K H v (["r", "x"] : List Str) (inR 5 e) := by
  have kx : keysL.filter (bit 5) = (["r", "x"] : List Str) := by decide +kernel
  have nos : ∀ d : PyData, (∀ t, d ≠ .str t) → ((["r", "x"] : List Str).map PyData.str).any (fun z => PyData.eqv z d) = false := fun d hd => by
    simp only [List.map_cons, List.map_nil, List.any_cons, List.any_nil, eqv_diff _ d hd, Bool.or_self]
  have sh : SeqAt.shaped (.list ((["r", "x"] : List Str).map .str)) = true := by decide +kernel
  have sd : ∀ ws : List Str, (∀ s ∈ ws, s.length ≤ 20 ∧ Asc s) → SeqAt.shaped (dStrs ws) = true := fun ws h => shaped_strs fun s hs => (h s hs).2
  cases h with
  | non => exact .inl ⟨rfl, by decide +kernel⟩
  | bl b => exact .inl ⟨rfl, by cases b <;> decide +kernel⟩
  | int i _ => exact .inr (.inl ⟨.int i, .int i, rfl, sh, nos _ (fun t z => by cases z)⟩)
  | str s h1 h2 => exact .inl ⟨rfl, by rw [in_strs]; show _ = decide (s ∈ keysL.filter (bit 5)); rw [kx]⟩
  | @lst a ws h1 h2 h3 h4 => exact .inr (.inl ⟨dStrs ws, dp_strs (.inl (.inl h1)), sd ws h4, sh, nos _ (fun t z => by cases z)⟩)
  | one h1 h2 => exact .inr (.inl ⟨.list [.int 1], .lst (.inl (.inl h1)) (.cons (.int 1) .nil), by decide +kernel, sh, nos _ (fun t z => by cases z)⟩)
  | @tup a ws h1 h3 h4 =>
    refine .inr (.inl ⟨.tuple (ws.map .str), .tup (.inl (.inl h1)) (dpAll_strs ws), ?_, sh, nos _ (fun t z => by cases z)⟩)
    exact sd ws h4
  | dc0 h1 => exact .inr (.inr ⟨_, _, rfl, h1, rfl⟩)
  | dc1 h1 => exact .inr (.inr ⟨_, _, rfl, h1, rfl⟩)
theorem bls_ok (a c : Bool) : (PyData.list [.bool a, .bool false, .bool c]).showable = true ∧ (PyData.list [.bool a, .bool false, .bool c]).depth ≤ 50 ∧ (PyData.list [.bool a, .bool false, .bool c]).shown.length ≤ sizeLine := by
  have h : (PyData.list [.bool a, .bool false, .bool c]).showable = true ∧ (PyData.list [.bool a, .bool false, .bool c]).depth ≤ 50 ∧ (PyData.list [.bool a, .bool false, .bool c]).shown.length ≤ 1000000 := by cases a <;> cases c <;> decide +kernel
  exact ⟨h.1, h.2.1, size_le h.2.2⟩
def spRight (TT : List (Addr × Str)) : Sp := fun vs H Q _ => ∃ v u e g, vs = [v, u] ∧ Odd H v e ∧ Odd H u g ∧ Onw TT H (Q (.bl true))
theorem ok_right (T : Txt w K mg A) {c Pt : Addr} {TT : List (Addr × Str)} (L : FunL K "_law_right" "_law_right" s_right A.f_right c) (TB : TBs base mg c Pt ("_law_right" ++ ".<locals>." ++ "<lambda>") TT) : FnG P w K mg base CX0 10 A.f_right (spRight TT) := by
  refine okGC0 L T.F_right sc_right T.B_right (fun vs H Q E h => ?_) (fun A_ outer s_ H vs Q E hgd hr h => ?_)
  · obtain ⟨v, u, e, g, rfl, _⟩ := h
    rfl
  · obtain ⟨v, u, e, g, rfl, he, hg, ow⟩ := h
    refine ⟨_, (pss_cons (ps_set (i := 2) sc_right.nd rfl (.inl rfl) (pe_call (ok_is_letters T) (hr.mono (by decide)) (by rfl) T.g_is_letters T.F_is_letters.kp T.B_is_letters .nil pass0 (pa_cons (pv 0) pa_nil)))
  (pss_cons (ps_if (pt_cmpR op_ne (pe_callB (call_reprX hgd (u65 hr)) (by rfl) T.b_repr (by decide +kernel) (pa_cons (pe_lstS (pa_cons (pe_call (ok_is_rights T) (hr.mono (by decide)) (by rfl) T.g_is_rights T.F_is_rights.kp T.B_is_rights .nil pass0 (pa_cons (pv 0) pa_nil)) (pa_cons (pe_cmpR (op_cmpX (fun _ _ => rfl) T.me_Rights___eq__.at_ T.me_Rights___eq__.fn ((ok_Rights___eq__ T).raw T.B_Rights___eq__ .nil) (hr.mono (by decide)) pass0) (pe_make T.mk_Rights (ok_Rights___init__ T) (hr.mono (by decide)) (by rfl) T.gC_Rights (bd_Rights___init___1 T).2 (bd_Rights___init___1 T).1 px0 (pa_cons pe_str pa_nil)) (pv 0) (nomark _)) (pa_cons (pe_cmpR (op_inI T.me_Rights___contains__.at_ T.me_Rights___contains__.fn ((ok_Rights___contains__ T).raw T.B_Rights___contains__ .nil) (hr.mono (by decide)) pass0) (pv 0) (pe_make T.mk_Rights (ok_Rights___init__ T) (hr.mono (by decide)) (by rfl) T.gC_Rights (bd_Rights___init___1 T).2 (bd_Rights___init___1 T).1 px0 (pa_cons pe_str pa_nil)) rfl) pa_nil)))) pa_nil)) (pe_callB (call_reprX hgd (u65 hr)) (by rfl) T.b_repr (by decide +kernel) (pa_cons (pe_lstS (pa_cons (pv 2) (pa_cons pe_bl (pa_cons (pe_cmpR (op_inT (u65 hr)) (pv 0) (pe_lstS (pa_cons pe_str (pa_cons pe_str pa_nil))) rfl) pa_nil)))) pa_nil)) (nomark _)) (pss_one (ps_ret pe_bl)) pss_nil)
  (blk_ways T TB hgd hr))), ?_⟩
    walk_at "rd"
    refine ⟨v, e, rfl, he, fun H1 k1 => ?_⟩
    have he1 := he.keep0 k1
    have W1 : Ow H [] H1 [] := Ow.start0.call0 k1
    walk_at "rd"
    refine .inl ⟨e, he1, ?_⟩
    walk_at "rd"
    intro x1 dx1 n1 m1 _
    refine ⟨x1, dx1, _, rfl, upd_same, .inr ⟨_, _, lit_rx.1, (lit_rx (H := H)).2, fun H2 k2' h2 => ⟨rfl, ?_⟩⟩⟩
    have k2 := keep_of_new Keep.refl n1 m1 k2'
    have he2 := he1.keep0 k2
    walk_at "rd"
    refine ⟨x1, dx1, _, _, rfl, h2, he2.ty, he2.nf T, _, 5, _, rfl, ⟨x1, dx1, rfl, h2, by decide, by decide⟩, .inr ⟨⟨e, he2⟩, ?_⟩⟩
    walk_at "rd"
    intro x3 dx3 n3 m3 _
    refine ⟨x3, dx3, _, rfl, upd_same, .inr ⟨_, _, lit_rx.1, (lit_rx (H := H)).2, fun H3 k3' h3 => ⟨rfl, ?_⟩⟩⟩
    have k3 := keep_of_new Keep.refl n3 m3 k3'
    have he3 := he2.keep0 k3
    refine ⟨x3, dx3, _, rfl, h3, _, 5, _, e, rfl, ⟨x3, dx3, rfl, h3, by decide, by decide⟩, he3, fun H4 k4 => ⟨_, rfl, ?_⟩⟩
    have W4 := W1.call0 ((k2.trans k3).trans k4)
    obtain ⟨f1, f2, f3⟩ := bls_ok (letD e).isSome (inR 5 e)
    obtain ⟨sh, hsh⟩ : ∃ sh, (PyData.list [.bool (letD e).isSome, .bool false, .bool (inR 5 e)]).shown = sh := ⟨_, rfl⟩
    walk_at "rd"
    rename_i p5 H5 np5 sp5 kp5 hp5 W5
    refine .inl ⟨p5, .list [.bool (letD e).isSome, .bool false, .bool (inR 5 e)], rfl, .lst hp5 sp5 (.cons (.bl _) (.cons (.bl _) (.cons (.bl _) .nil))), f1, f2, f3, ?_⟩
    rw [hsh]
    walk_at "rd"
    rename_i p6 H6 np6 sp6 kp6 hp6 W6
    refine ⟨p6, (["r", "x"] : List Str), _, rfl, .inl (.inl hp6), (((he3.keep0 k4).keep0 kp5).keep0 kp6).inT, ?_⟩
    walk_at "rd"
    rename_i p7 H7 np7 sp7 kp7 hp7 W7
    refine .inl ⟨p7, .list [.bool (letD e).isSome, .bool false, .bool (inR 5 e)], rfl, .lst hp7 sp7 (.cons (.bl _) (.cons (.bl _) (.cons (.bl _) .nil))), f1, f2, f3, ?_⟩
    rw [hsh]
    walk_at "rd"
    have k7 : Keep [] H H7 := W7.keep
    refine same_txt ?_
    exact ⟨v, u, e, g, _, _, _, _, _, _, rfl, he.keep0 k7, hg.keep0 k7, rfl, ow.keep k7⟩
end
end K09
namespace K09
open PySem PySem.Spec PyProof.Rows L2 FR TL LamX
open C8 (pss_cut pe_gc)
open StX (pe_callS2 pa_star)
section
variable {P : Program} {w : World} {K : PySem.W.Frag} {mg : Str → Option Value} {base : Heap} {A : Ads}
set_option pp.maxSteps 150
theorem eight2 {F : Int → Int → Prop} (h : ∀ x, F x 0 ∧ F x 1 ∧ F x 2 ∧ F x 3 ∧ F x 4 ∧ F x 5 ∧ F x 6 ∧ F x 7) {d e : Int} (e0 : 0 ≤ e) (e1 : e ≤ 7) : F d e := eight (F := fun e => F d e) (h d) e0 e1
def B2 (f : Int → Int → Bool) : Bool := [0, 1, 2, 3, 4, 5, 6, 7].all fun a => [0, 1, 2, 3, 4, 5, 6, 7].all fun b => f a b
theorem mem8 {a : Int} (h0 : 0 ≤ a) (h1 : a ≤ 7) : a ∈ ([0, 1, 2, 3, 4, 5, 6, 7] : List Int) := by
  have : a = 0 ∨ a = 1 ∨ a = 2 ∨ a = 3 ∨ a = 4 ∨ a = 5 ∨ a = 6 ∨ a = 7 := by omega
  simpa using this
theorem B2.at {f : Int → Int → Bool} (h : B2 f = true) {a b : Int} (a0 : 0 ≤ a) (a1 : a ≤ 7) (b0 : 0 ≤ b) (b1 : b ≤ 7) : f a b = true := List.all_eq_true.mp (List.all_eq_true.mp h a (mem8 a0 a1)) b (mem8 b0 b1)
theorem sums {a b : Int} (a0 : 0 ≤ a) (a1 : a ≤ 7) (b0 : 0 ≤ b) (b1 : b ≤ 7) : orAll [a, b] = Builtin.bitOr a b ∧ orAll [3, a] = Builtin.bitOr a 3 ∧ orAll [0, a, 4, b, 0, 1] = Builtin.bitOr (Builtin.bitOr a b) 5 := by
  have h : B2 (fun a b => decide (orAll [a, b] = Builtin.bitOr a b ∧ orAll [3, a] = Builtin.bitOr a 3 ∧ orAll [0, a, 4, b, 0, 1] = Builtin.bitOr (Builtin.bitOr a b) 5)) = true := by decide +kernel
  exact of_decide_eq_true (B2.at h a0 a1 b0 b1)
theorem joinR {H : Hp} {b : Int} (b0 : 0 ≤ b) (b1 : b ≤ 7) : ∃ e, Odd H (.str (Txt.join (Str.ofString "") (keysL.filter (bit b)))) e ∧ letD e = some b := by
  obtain ⟨h1, h2, h3⟩ := eight (F := fun b => (Txt.join (Str.ofString "") (keysL.filter (bit b))).length ≤ 20 ∧ (tl (Txt.join (Str.ofString "") (keysL.filter (bit b)))).all (fun c => decide (c < 128)) = true ∧ letD (.str (Txt.join (Str.ofString "") (keysL.filter (bit b)))) = some b) (by decide +kernel) b0 b1
  exact ⟨_, .str _ h1 (.of h2), h3⟩
theorem lit_wx {H : Hp} : Odd H (.str (Str.ofString "wx")) (.str (Str.ofString "wx")) ∧ letD (.str (Str.ofString "wx")) = some 3 := lit (by decide +kernel) (by decide +kernel) (by decide +kernel)
theorem same_int {i : Int} {A B : Prop} (b : B) : if (!decide (V.int i = V.int i)) = true then A else B := by
  rw [decide_eq_true rfl]
  exact b
theorem same_p {p : Prop} [Decidable p] {A B : Prop} (h : p) (b : B) : if (!decide p) = true then A else B := by
  rw [decide_eq_true h]
  exact b
def R_sums (A : Ads) : TS := fun D σ H => ∃ (y0 y1 y2 y3 y4 y5 y6 y11 y12 : Option V) (v1 v2 : V) (a b : Int), σ = [y0, y1, y2, y3, y4, y5, y6, some (.int a), some (.int b), some v1, some v2, y11, y12] ∧ IsR A H v1 a ∧ IsR A H v2 b ∧ ∀ H', Keep [] H H' → D.nx σ H'
theorem blk_sums (T : Txt w K mg A) {c Pt : Addr} {TT : List (Addr × Str)} (okr : FnG P w K mg base CX0 10 A.f_right (spRight TT)) (TB : TBs base mg c Pt ("law" ++ ".<locals>." ++ "<lambda>") TT) {A_ : Around} {outer : List Env} {s_ : Shared} {H : Hp} {E : XK} (hgd : A_.guards = some []) (hr : Room 10 (A_.deeper (envOfC "law" (defScope s_law) s_.heap.objs.size A.f_law (.ref c)))) : PSs (cxOf CX0 P w K mg base N_law "law" (defScope s_law) A.f_law (.ref c) A_ outer s_ H E).nox (List.drop 6 (bdF (nth (defBody s_law) 0))) (R_sums A) := by
  refine pss_b (pss_cons (ps_if (PW.pt (pw_or (pt_cmpR op_ne (pe_prop (ClX.pe_cmeth (pe_gc rfl T.c_Rights) T.cr_Rights T.cm_Rights_of (ok_Rights_of T) (hr.mono (by decide)) px0 (pa_cons (pv 9) (pa_cons (pv 10) pa_nil))) T.cl_Rights T.pr_Rights_digit (ok_Rights_digit T) (hr.mono (by decide)) T.B_Rights_digit .nil pass0 rfl) (pe_op op_or (pv 7) (pv 8)) (nomark _)) (pw_or (pt_cmpR op_ne (pe_prop (ClX.pe_cmeth0 (pe_gc rfl T.c_Rights) T.cr_Rights T.cm_Rights_of (ok_Rights_of T) (hr.mono (by decide)) px0) T.cl_Rights T.pr_Rights_digit (ok_Rights_digit T) (hr.mono (by decide)) T.B_Rights_digit .nil pass0 rfl) pe_int (nomark _)) (pw_or1 (pt_cmpR (op_neI T.in_Rights.hm T.ne_Rights T.me_Rights___eq__.at_ T.me_Rights___eq__.fn ((ok_Rights___eq__ T).raw T.B_Rights___eq__ .nil) (hr.mono (by decide)) pass0) (pe_callS (ok_as_rights T) (hr.mono (by decide)) (by rfl) T.g_as_rights T.F_as_rights.kp T.B_as_rights (fun σ => passAt tk0 σ) (pa_cons (pv 9) pa_nil)) (pv 9) (nomark _)))))) (pss_one (ps_ret pe_bl)) pss_nil)
  (pss_cons (ps_if (PW.pt (pw_or (pt_not (pt_val (pe_call (ok_is_rights T) (hr.mono (by decide)) (by rfl) T.g_is_rights T.F_is_rights.kp T.B_is_rights .nil pass0 (pa_cons (pv 9) pa_nil)))) (pw_or (pt_cmpR (op_neI T.in_Rights.hm T.ne_Rights T.me_Rights___eq__.at_ T.me_Rights___eq__.fn ((ok_Rights___eq__ T).raw T.B_Rights___eq__ .nil) (hr.mono (by decide)) pass0) (pe_callS (ok_as_rights T) (hr.mono (by decide)) (by rfl) T.g_as_rights T.F_as_rights.kp T.B_as_rights (fun σ => passAt tk0 σ) (pa_cons (pe_join pe_str (pe_meth0 (pv 10) T.cl_Rights T.me_Rights_listed (ok_Rights_listed T) (hr.mono (by decide)) T.B_Rights_listed .nil pass0)) pa_nil)) (pv 10) (nomark _)) (pw_or1 (pt_cmpR op_ne (pe_prop (ClX.pe_cmeth (pe_gc rfl T.c_Rights) T.cr_Rights T.cm_Rights_of (ok_Rights_of T) (hr.mono (by decide)) px0 (pa_cons pe_str (pa_cons (pv 9) pa_nil))) T.cl_Rights T.pr_Rights_digit (ok_Rights_digit T) (hr.mono (by decide)) T.B_Rights_digit .nil pass0 rfl) (pe_op op_or (pv 7) pe_int) (nomark _)))))) (pss_one (ps_ret pe_bl)) pss_nil)
  (pss_one (ps_if (pt_cmpR op_ne (pe_prop (ClX.pe_cmeth (pe_gc rfl T.c_Rights) T.cr_Rights T.cm_Rights_of (ok_Rights_of T) (hr.mono (by decide)) px0 (pa_cons pe_str (pa_cons (pv 9) (pa_cons pe_str (pa_cons (pv 10) (pa_cons (pe_make0 T.mk_Rights (ok_Rights___init__ T) (hr.mono (by decide)) (by rfl) T.gC_Rights (bd_Rights___init___0 T).choose_spec.2 (bd_Rights___init___0 T).choose_spec.1 px0) (pa_cons pe_str pa_nil))))))) T.cl_Rights T.pr_Rights_digit (ok_Rights_digit T) (hr.mono (by decide)) T.B_Rights_digit .nil pass0 rfl) (pe_op op_or (pe_op op_or (pv 7) (pv 8)) pe_int) (nomark _)) (pss_one (ps_ret pe_bl)) pss_nil)))) ?_
  rintro D σ H3 ⟨y0, y1, y2, y3, y4, y5, y6, y11, y12, v1, v2, a, b, rfl, ha, hb, q⟩
  obtain ⟨r1, dr1, rfl, ha', a0, a1⟩ := id ha
  obtain ⟨r2, dr2, rfl, hb', b0, b1⟩ := id hb
  obtain ⟨e1, e2, e3⟩ := sums a0 a1 b0 b1
  obtain ⟨o0, o1⟩ := or_in a0 a1 b0 b1
  obtain ⟨u0, u1⟩ := or_in a0 a1 (show (0 : Int) ≤ 3 by decide) (by decide)
  obtain ⟨t0, t1⟩ := or_in o0 o1 (show (0 : Int) ≤ 5 by decide) (by decide)
  walk_at "rd"
  refine ⟨[(.ref r1, a), (.ref r2, b)], [], rfl, Nat.le_of_ble_eq_true rfl, fun p hp => ?_, .inl ⟨rfl, fun x1 d1 H1 n1 m1 k1 h1 => ?_⟩⟩
  · simp only [List.mem_cons, List.not_mem_nil, or_false] at hp
    rcases hp with rfl | rfl
    · exact .inl ha
    · exact .inl hb
  replace h1 : H1 x1 = some (RgO A d1 (Builtin.bitOr a b)) := by rw [← e1]; exact h1
  refine ⟨x1, d1, _, rfl, h1, _, _, rfl, ⟨x1, d1, rfl, h1, o0, o1⟩, ?_⟩
  walk_at "rd"
  refine same_int ?_
  walk_at "rd"
  refine ⟨[], [], rfl, Nat.le_of_ble_eq_true rfl, fun p hp => (List.not_mem_nil hp).elim, .inl ⟨rfl, fun x2 d2 H2 n2 m2 k2 h2 => ?_⟩⟩
  replace h2 : H2 x2 = some (RgO A d2 0) := h2
  refine ⟨x2, d2, _, rfl, h2, _, _, rfl, ⟨x2, d2, rfl, h2, by decide, by decide⟩, ?_⟩
  walk_at "rd"
  have ka2 := k1.trans k2
  refine .inl ⟨a, ha.keep ka2, ?_⟩
  walk_at "rd"
  have ha2 := ha.keep ka2
  refine ⟨r1, dr1, _, r1, dr1, _, rfl, rfl, ka2 _ _ ha' (by simp), ka2 _ _ ha' (by simp), _, a, _, rfl, ha2, .inl ⟨a, ha2, _, rfl, _, rfl, ?_⟩⟩
  refine same_p rfl ?_
  walk_at "rd"
  refine .inr ⟨⟨a, ha2⟩, ?_⟩
  walk_at "rd"
  have hb2 := hb.keep ka2
  refine ⟨r2, dr2, _, rfl, ka2 _ _ hb' (by simp), rfl, _, b, rfl, hb2, fun H3' k3 => ?_⟩
  have W3 : Ow H3' [] H3' [] := Ow.start0
  walk_at "obj"
  rename_i p4 H4 np4 sp4 kp4 hp4 W4
  have k24 : Keep [] H2 H4 := k3.trans kp4
  refine ⟨_, p4, keysL.filter (bit b), rfl, rfl, .inl (.inl (.inl hp4)), ?_, ?_⟩
  · have : (List.map (fun x : Str => x.length) (List.filter (bit b) keysL)).sum + (List.filter (bit b) keysL).length * (Str.ofString "").length ≤ 100 := eight (F := fun b => (List.map (fun x : Str => x.length) (List.filter (bit b) keysL)).sum + (List.filter (bit b) keysL).length * (Str.ofString "").length ≤ 100) (by decide +kernel) b0 b1
    omega
  obtain ⟨ej, hej, hlj⟩ := joinR (H := H4) b0 b1
  walk_at "rd"
  refine .inr (.inl ⟨ej, b, hej, hlj, fun x5 d5 H5 n5 m5 k5 h5 => ?_⟩)
  have k25 : Keep [] H2 H5 := k24.trans k5
  have hb5 := hb2.keep k25
  walk_at "rd"
  refine ⟨x5, d5, _, r2, dr2, _, rfl, rfl, h5, (ka2.trans k25) _ _ hb' (by simp), _, b, _, rfl, ⟨x5, d5, rfl, h5, b0, b1⟩, .inl ⟨b, hb5, _, rfl, _, rfl, ?_⟩⟩
  refine same_p rfl ?_
  walk_at "rd"
  have ha5 := ha2.keep k25
  refine ⟨[(.str (Str.ofString "wx"), 3), (.ref r1, a)], [], rfl, Nat.le_of_ble_eq_true rfl, fun p hp => ?_, .inl ⟨rfl, fun x6 d6 H6 n6 m6 k6 h6 => ?_⟩⟩
  · simp only [List.mem_cons, List.not_mem_nil, or_false] at hp
    rcases hp with rfl | rfl
    · exact .inr ⟨_, lit_wx⟩
    · exact .inl ha5
  replace h6 : H6 x6 = some (RgO A d6 (Builtin.bitOr a 3)) := by rw [← e2]; exact h6
  refine ⟨x6, d6, _, rfl, h6, _, _, rfl, ⟨x6, d6, rfl, h6, u0, u1⟩, ?_⟩
  walk_at "rd"
  refine same_int ?_
  walk_at "rd"
  intro x7 d7 n7 m7 _
  refine ⟨x7, d7, _, rfl, upd_same, .inr ⟨_, _, lit0.1, (lit0 (H := H)).2, fun H7 k7' h7 => ⟨rfl, ?_⟩⟩⟩
  have k7 := keep_of_new Keep.refl n7 m7 k7'
  have k57 : Keep [] H5 H7 := k6.trans k7
  walk_at "rd"
  refine ⟨[(.str (Str.ofString ""), 0), (.ref r1, a), (.str (Str.ofString "r"), 4), (.ref r2, b), (.ref x7, 0), (.str (Str.ofString "x"), 1)], [], rfl, Nat.le_of_ble_eq_true rfl, fun p hp => ?_, .inl ⟨rfl, fun x8 d8 H8 n8 m8 k8 h8 => ?_⟩⟩
  · simp only [List.mem_cons, List.not_mem_nil, or_false] at hp
    rcases hp with rfl | rfl | rfl | rfl | rfl | rfl
    · exact .inr ⟨_, lit0⟩
    · exact .inl (ha5.keep k57)
    · exact .inr ⟨_, lit_r⟩
    · exact .inl (hb5.keep k57)
    · exact .inl ⟨x7, d7, rfl, h7, Int.le_refl 0, (by decide : (0 : Int) ≤ 7)⟩
    · exact .inr ⟨_, lit_x⟩
  replace h8 : H8 x8 = some (RgO A d8 (Builtin.bitOr (Builtin.bitOr a b) 5)) := by rw [← e3]; exact h8
  refine ⟨x8, d8, _, rfl, h8, _, _, rfl, ⟨x8, d8, rfl, h8, t0, t1⟩, ?_⟩
  walk_at "rd"
  refine same_int ?_
  exact q H8 ((ka2.trans k25).trans (k57.trans k8))
end
end K09
namespace K09
open PySem PySem.Spec PyProof.Rows L2 FR TL LamX
open C8 (pss_cut pe_gc)
open StX (pe_callS2 pa_star)
section
variable {P : Program} {w : World} {K : PySem.W.Frag} {mg : Str → Option Value} {base : Heap} {A : Ads}
set_option pp.maxSteps 150
/-- what a turn of the law leaves: all but the bag and the tables -/
def ExtB (b : Addr) (H H' : Hp) : Prop := ∀ a o, a ≠ b → H a = some o → (∀ ps, o ≠ .tbl ps) → H' a = some o
theorem ExtB.refl {b : Addr} {H : Hp} : ExtB b H H := fun _ _ _ h _ => h
theorem ExtB.keep {b : Addr} {H H1 H2 : Hp} (x : ExtB b H H1) (k : Keep [b] H1 H2) : ExtB b H H2 := fun a o n e nt => k a o (x a o n e nt) (by simpa using n)
theorem ExtB.keep0 {b : Addr} {H H1 H2 : Hp} (x : ExtB b H H1) (k : Keep [] H1 H2) : ExtB b H H2 := fun a o n e nt => k a o (x a o n e nt) (by simp)
theorem ExtB.ext {b : Addr} {H H1 H2 : Hp} (x : ExtB b H H1) (k : ExtN H1 H2) : ExtB b H H2 := fun a o n e nt => k a o (x a o n e nt) nt
theorem ExtB.trans {b : Addr} {H H1 H2 : Hp} (x : ExtB b H H1) (y : ExtB b H1 H2) : ExtB b H H2 := fun a o n e nt => y a o n (x a o n e nt) nt
theorem tabs_kb {T : List (Addr × Str)} {H H' : Hp} {b : Addr} {x y z : Int} (t : Tabs T H) (hb : H b = some (bagO x y z)) (k : Keep [b] H H') : Tabs T H' := fun p hp => by
  obtain ⟨ps, h1, h2, h3⟩ := t p hp
  have ne : ∀ a o, H a = some o → o ≠ bagO x y z → a ∉ ([b] : List Addr) := fun a o e n m => by
    have : a = b := by simpa using m
    subst this
    rw [hb] at e
    exact n (Option.some.inj e).symm
  refine ⟨ps, k _ _ h1 (ne _ _ h1 (fun q => by cases q)), h2, fun pos cv hc => ?_⟩
  obtain ⟨c, e1, e2⟩ := h3 pos cv hc
  exact ⟨c, e1, k _ _ e2 (ne _ _ e2 (fun q => by cases q))⟩
def Bg (H : Hp) (b : Addr) (n : Nat) : Prop := ∃ x y z, H b = some (bagO x y z) ∧ BagOk n x y z
def R_two (TT : List (Addr × Str)) : TS := fun D σ H => ∃ (y0 y1 y3 y4 y5 y6 y7 y8 y9 y10 y11 y12 : Option V) (b : Addr) (n : Nat), σ = [y0, y1, some (.ref b), y3, y4, y5, y6, y7, y8, y9, y10, y11, y12] ∧ Bg H b n ∧ n < 900000 ∧ Tabs TT H ∧
  ∀ (z7 z8 z9 z10 z11 : Option V) (H' : Hp), ExtB b H H' → Tabs TT H' → D.nx [y0, y1, some (.ref b), y3, y4, y5, y6, z7, z8, z9, z10, z11, y12] H'
theorem blk_two (T : Txt w K mg A) {c Pt : Addr} {TT : List (Addr × Str)} (okr : FnG P w K mg base CX0 10 A.f_right (spRight TT)) (TB : TBs base mg c Pt ("law" ++ ".<locals>." ++ "<lambda>") TT) {A_ : Around} {outer : List Env} {s_ : Shared} {H : Hp} {E : XK} (hgd : A_.guards = some []) (hr : Room 10 (A_.deeper (envOfC "law" (defScope s_law) s_.heap.objs.size A.f_law (.ref c)))) : PSs (cxOf CX0 P w K mg base N_law "law" (defScope s_law) A.f_law (.ref c) A_ outer s_ H E).nox (List.drop 2 (bdF (nth (defBody s_law) 0))) (R_two TT) := by
  refine pss_b (pss_cons (ps_par (i := 7) (j := 8) (by rfl) sc_law.nd rfl rfl (by decide) rfl rfl (pa_cons (pe_call (ok_take T) (hr.mono (by decide)) (by rfl) T.g_take T.F_take.kp T.B_take .nil pass0 (pa_cons (pv 2) (pa_cons pe_int pa_nil))) (pa_cons (pe_call (ok_take T) (hr.mono (by decide)) (by rfl) T.g_take T.F_take.kp T.B_take .nil pass0 (pa_cons (pv 2) (pa_cons pe_int pa_nil))) pa_nil)) (by rfl))
  (pss_cons (ps_asg (pe_tupN (pa_cons (ClX.pe_cmeth (pe_gc rfl T.c_Rights) T.cr_Rights T.cm_Rights_from_digit ((ok_Rights_from_digit T).raw T.B_Rights_from_digit .nil) (hr.mono (by decide)) px0 (pa_cons (pv 7) pa_nil)) (pa_cons (ClX.pe_cmeth (pe_gc rfl T.c_Rights) T.cr_Rights T.cm_Rights_from_digit ((ok_Rights_from_digit T).raw T.B_Rights_from_digit .nil) (hr.mono (by decide)) px0 (pa_cons (pv 8) pa_nil)) pa_nil))) (pg_tup rfl (pgs_cons (pg_name (i := 9) sc_law.nd rfl (.inr rfl)) (pgs_cons (pg_name (i := 10) sc_law.nd rfl (.inl rfl)) pgs_nil))))
  (pss_cons (ps_set (i := 11) sc_law.nd rfl (.inl rfl) (lam_caught (sc := defScope s_law) T TB hgd hr (fun Y outer s H E f c hgd hr => (pe_make T.mk_Rights (ok_Rights___init__ T) (hr.mono (by decide)) (by rfl) T.gC_Rights (bd_Rights___init___1 T).2 (bd_Rights___init___1 T).1 (pxE rfl rfl rfl rfl) (pa_cons (pv 9) pa_nil)))))
  (pss_cons (ps_if (PW.pt (pw_or (pt_cmpR op_ne (pe_ix ix_list (pv 11) pe_int (fun _ _ => rfl)) pe_str (nomark _)) (pw_or1 (pt_cmpR (op_neI T.in_Rights.hm T.ne_Rights T.me_Rights___eq__.at_ T.me_Rights___eq__.fn ((ok_Rights___eq__ T).raw T.B_Rights___eq__ .nil) (hr.mono (by decide)) pass0) (pe_ix ix_list (pv 11) pe_int (fun _ _ => rfl)) (pv 9) (nomark _))))) (pss_one (ps_ret pe_bl)) pss_nil)
  (blk_sums T okr TB hgd hr))))) ?_
  rintro D σ H3 ⟨y0, y1, y3, y4, y5, y6, y7, y8, y9, y10, y11, y12, b, n, rfl, ⟨x, y, z, hb, ok⟩, hn, tt, q⟩
  have W : Ow H3 [b] H3 [(b, bagO x y z)] := Ow.start1 hb
  walk_at "rd"
  walk_at "take"
  rename_i d x2 y2 z2 H4 d0 d1 ok4 kp4 hb4 W4
  walk_at "rd"
  walk_at "take"
  rename_i e x5 y5' z5 H5 e0 e1 ok5 kp5 hb5 W5
  have k5 : Keep [b] H3 H5 := W5.keep
  walk_at "rd"
  refine ⟨.int d, .int d, rfl, .int d (by omega), .inl ⟨d, rfl, d0, by omega, fun r1 dr1 H6 n6 m6 k6 h6 => ?_⟩⟩
  walk_at "rd"
  refine ⟨.int e, .int e, rfl, .int e (by omega), .inl ⟨e, rfl, e0, by omega, fun r2 dr2 H7 n7 m7 k7 h7 => ?_⟩⟩
  have W7 := W5.call0 (k6.trans k7)
  walk_at "rd"
  rename_i p8 H8 np8 kp8 hp8 W8
  refine ⟨_, _, rfl, .inl (.inl hp8), rfl, ?_⟩
  walk_at "rd"
  have x8 : ExtB b H3 H8 := ((ExtB.refl.keep k5).keep0 (k6.trans k7)).keep0 kp8
  have t8 : Tabs TT H8 := tabs_of (tabs_kb tt hb k5) ((k6.trans k7).trans kp8)
  have hd8 : IsR A H8 (.ref r1) d := ⟨r1, dr1, rfl, (k7.trans kp8) _ _ h6 (by simp), d0, by omega⟩
  have he8 : IsR A H8 (.ref r2) e := ⟨r2, dr2, rfl, kp8 _ _ h7 (by simp), e0, by omega⟩
  refine ⟨t8, fun H9 k9 t9 E1 R1 hE hR => ?_⟩
  have keepR : ∀ {v : V} {d : Int}, IsR A H8 v d → IsR A H9 v d := fun h => by
    obtain ⟨a, dx, rfl, ha, r⟩ := h
    exact ⟨a, dx, rfl, k9 _ _ ha (fun ps q => by cases q), r⟩
  have hd9 := keepR hd8
  have he9 := keepR he8
  walk_at "rd"
  intro w1 dw1 n1 m1 _
  refine ⟨w1, dw1, _, rfl, upd_same, .inl ⟨.inr ⟨d, hd9.keep (keep_two n1 m1)⟩, fun dd H10 k10 e10 => hE _ _ _ ⟨dd, _, _, rfl, e10, .inl ⟨rfl, rfl⟩, fun p H11 np sp kp hp => ?_⟩⟩⟩
  have k11 : Keep [] H9 H11 := ((keep_two n1 m1).trans k10).trans kp
  have hd11 := hd9.keep k11
  have he11 := he9.keep k11
  walk_at "rd"
  refine ⟨_, _, _, _, rfl, rfl, .inl (.inl hp), rfl, ?_⟩
  walk_at "rd"
  refine ⟨_, _, _, _, rfl, rfl, .inl (.inl hp), rfl, ?_⟩
  walk_at "rd"
  obtain ⟨_, dr, er, hr1, _⟩ := id hd11
  cases er
  refine ⟨r1, dr, _, r1, dr, _, rfl, rfl, hr1, hr1, _, d, _, rfl, hd11, .inl ⟨d, hd11, _, rfl, _, rfl, ?_⟩⟩
  refine same_p rfl ?_
  refine ⟨_, _, _, _, _, _, _, _, _, _, _, d, e, rfl, hd11, he11, fun H' k' => ?_⟩
  have kE : Keep [] H9 H' := k11.trans k'
  exact q _ _ _ _ _ H' ((x8.ext k9).keep0 kE) (tabs_of t9 kE)
end
end K09
namespace K09
open PySem PySem.Spec PyProof.Rows L2 FR TL LamX
open C8 (pss_cut pe_gc)
open StX (pe_callS2 pa_star)
section
variable {P : Program} {w : World} {K : PySem.W.Frag} {mg : Str → Option Value} {base : Heap} {A : Ads}
set_option pp.maxSteps 150
def eightS : Str := Str.ofString "rwxR-7wr"
def R_turn (TT : List (Addr × Str)) : TS := fun D σ H => ∃ (y0 y1 y3 y4 y5 y6 y7 y8 y9 y10 y11 y12 : Option V) (b : Addr) (n : Nat), σ = [y0, y1, some (.ref b), y3, y4, y5, y6, y7, y8, y9, y10, y11, y12] ∧ Bg H b n ∧ n < 900000 ∧ Tabs TT H ∧
  ∀ (z4 z5 z6 : Option V) (H' : Hp), Bg H' b (n + 50) → ExtB b H H' → Tabs TT H' → D.nx [y0, y1, some (.ref b), y3, z4, z5, z6, y7, y8, y9, y10, y11, y12] H'
theorem blk_turn (T : Txt w K mg A) {c Pt : Addr} {TT : List (Addr × Str)} (okr : FnG P w K mg base CX0 10 A.f_right (spRight TT)) (TB : TBs base mg c Pt ("law" ++ ".<locals>." ++ "<lambda>") TT) {A_ : Around} {outer : List Env} {s_ : Shared} {H : Hp} {E : XK} (hgd : A_.guards = some []) (hr : Room 10 (A_.deeper (envOfC "law" (defScope s_law) s_.heap.objs.size A.f_law (.ref c)))) : PSs (cxOf CX0 P w K mg base N_law "law" (defScope s_law) A.f_law (.ref c) A_ outer s_ H E).nox (bdF (nth (bdF (nth (defBody s_law) 0)) 1)) (R_turn TT) := by
  refine pss_b (pss_cons (ps_set (i := 4) sc_law.nd rfl (.inl rfl) (pe_join pe_str (pe_lc (own := [("_law_at", 12)]) (g := gName 12) rfl sc_law.nd (pi_range1 (by rfl) T.b_range (pa_cons (pe_call (ok_take T) (hr.mono (by decide)) (by rfl) T.g_take T.F_take.kp T.B_take .nil pass0 (pa_cons (pv 2) (pa_cons pe_int pa_nil))) pa_nil)) (blkOk_by (own := [("_law_at", 12)]) (N := N_law) (sc := defScope s_law) (by decide +kernel)) (fun _ _ _ _ _ => pg_name (i := 12) sc_law.nd rfl (Or.inl rfl)) (fun _ _ _ _ _ => pts_nil) (fun _ _ _ _ _ => (pe_ix ix_str pe_str (pe_call (ok_take T) (hr.mono (by decide)) (by rfl) T.g_take T.F_take.kp T.B_take .nil pass0 (pa_cons (pv 2) (pa_cons pe_int pa_nil))) (fun _ _ => rfl))))))
  (pss_cons (ps_set (i := 5) sc_law.nd rfl (.inl rfl) (pe_ix ix_list (pe_lstS (pa_cons (pe_call (ok_odd T) (hr.mono (by decide)) (by rfl) T.g_odd T.F_odd.kp T.B_odd .nil pass0 (pa_cons (pv 2) pa_nil)) (pa_cons (pv 4) (pa_cons pe_str (pa_cons pe_str pa_nil))))) (pe_call (ok_take T) (hr.mono (by decide)) (by rfl) T.g_take T.F_take.kp T.B_take .nil pass0 (pa_cons (pv 2) (pa_cons pe_int pa_nil))) (fun _ _ => rfl)))
  (pss_cons (ps_set (i := 6) sc_law.nd rfl (.inl rfl) (pe_ix ix_list (pe_lstS (pa_cons (pe_call (ok_odd T) (hr.mono (by decide)) (by rfl) T.g_odd T.F_odd.kp T.B_odd .nil pass0 (pa_cons (pv 2) pa_nil)) (pa_cons pe_str (pa_cons (pv 4) pa_nil)))) (pe_call (ok_take T) (hr.mono (by decide)) (by rfl) T.g_take T.F_take.kp T.B_take .nil pass0 (pa_cons (pv 2) (pa_cons pe_int pa_nil))) (fun _ _ => rfl)))
  (pss_one (ps_if (pt_not (pt_val (pe_callG okr hgd hr T.F_right.kp (by rfl) T.g_right pass0 (pa_cons (pv 5) (pa_cons (pv 6) pa_nil))))) (pss_one (ps_ret pe_bl)) pss_nil))))) ?_
  rintro D σ H3 ⟨y0, y1, y3, y4, y5, y6, y7, y8, y9, y10, y11, y12, b, n, rfl, ⟨x, y, z, hb, ok⟩, hn, tt, q⟩
  have W : Ow H3 [b] H3 [(b, bagO x y z)] := Ow.start1 hb
  walk_at "rd"
  walk_at "take"
  rename_i d1 x2 y2 z2 H4 d10 d11 ok4 kp4 hb4 W4
  walk_at "rd"
  intro D1 hD1
  refine lc_rg (fun i H' => ∃ (l : List Nat) (x y z : Int), l.length = i ∧ (∀ c ∈ l, c < 128) ∧ BagOk (n + 1 + i) x y z ∧ Ow H3 [b] H' [(D1, .lst ((sg l).map V.str)), (b, bagO x y z)]) ?_ ?_ ?_
  · exact ⟨[], _, _, _, rfl, by simp, ok4, W4.new hD1⟩
  · rintro i H5 hi ⟨l, x5, y5, z5, hl, hl2, ok5, W5⟩
    have hi' : i < 6 := by omega
    have hsz : eightS.length ≤ sizeLine := size_le (by decide +kernel)
    have hsl : eightS.cps.toList.length = 8 := by decide +kernel
    walk_at "rd"
    walk_at "take"
    rename_i d6 x6 y6 z6 H6 d60 d61 ok6 kp6 hb6 W6
    obtain ⟨e, he, hm⟩ := atI_in (xs := eightS.cps.toList) d60 (by rw [hsl]; exact d61)
    have he' : e < 128 := (Asc.of (x := eightS) (by decide +kernel)) e hm
    refine ⟨_, _, _, rfl, rfl, hsz, he, ?_⟩
    refine ⟨_, W6.get 0 rfl, size_ok (by rw [List.length_map, sg_len]; omega), l ++ [e], x6, y6, z6, by rw [List.length_append, hl]; rfl, ?_, ok6.mono (by omega), ?_⟩
    · intro d hd
      rcases List.mem_append.mp hd with h | h
      · exact hl2 d h
      · rw [List.mem_singleton.mp h]; exact he'
    · rw [sg_app]
      exact W6.set 0 rfl
  · rintro H7 ⟨l, x7, y7', z7, hl, hl2, ok7, W7⟩
    have hl6 : l.length ≤ 6 := by omega
    walk_at "rd"
    refine ⟨_, _, sg l, rfl, rfl, .inl (W7.sq 0 rfl), by rw [sum_one sg_one, sg_len, show (Str.ofString "").length = 0 by decide +kernel]; omega, ?_⟩
    have hs : (Txt.join (Str.ofString "") (sg l)).length = l.length := by rw [len_tl, tl_joined_sg]
    have ha : Asc (Txt.join (Str.ofString "") (sg l)) := by unfold Asc; rw [tl_joined_sg]; exact hl2
    generalize Txt.join (Str.ofString "") (sg l) = tx at hs ha
    have hb7 : H7 b = some (bagO x7 y7' z7) := W7.get 1 rfl
    have k7 : Keep [b] H3 H7 := W7.keep
    have t7 : Tabs TT H7 := tabs_kb tt hb k7
    have tox : ∀ {H : Hp}, Odd H (.str tx) (.str tx) := .str tx (by omega) ha
    walk_at "rd"
    refine ⟨b, n + 1 + d1.toNat, x7, y7', z7, rfl, hb7, ok7.mono (by omega), by omega, fun v1 e1 x8 y8' z8 H8 ok8 k8 hb8 he1 => ?_⟩
    have W8 : Ow H8 [b] H8 [(b, bagO x8 y8' z8)] := Ow.start1 hb8
    walk_at "rd"
    walk_at "take"
    rename_i p9 H9 np9 sp9 kp9 hp9 W9 d10' x10 y10' z10 H10 d100 d101 ok10 kp10 hb10 W10
    obtain ⟨v, hv, hm⟩ := lst_at (W10.get 0 rfl) rfl d100 d101
    refine ⟨_, _, _, _, rfl, rfl, W10.sq 0 rfl, hv, ?_⟩
    have k810 : Keep [b] H8 H10 := W10.keep
    obtain ⟨e, hev⟩ : ∃ e, Odd H10 v e := by
      simp only [List.mem_cons, List.not_mem_nil, or_false] at hm
      rcases hm with rfl | rfl | rfl | rfl
      · exact ⟨_, he1.keepb hb8 k810⟩
      · exact ⟨_, tox⟩
      · exact ⟨_, .str _ (by decide +kernel) (.of (by decide +kernel))⟩
      · exact ⟨_, .str _ (by decide +kernel) (.of (by decide +kernel))⟩
    walk_at "rd"
    refine ⟨b, _, x10, y10', z10, rfl, hb10, ok10, by omega, fun v2 e2 x11 y11' z11 H11 ok11 k11 hb11 he2 => ?_⟩
    have hev11 := hev.keepb hb10 k11
    have W11 : Ow H11 [b] H11 [(b, bagO x11 y11' z11)] := Ow.start1 hb11
    walk_at "rd"
    walk_at "take"
    rename_i p12 H12 np12 sp12 kp12 hp12 W12 d13 x13 y13' z13 H13 d130 d131 ok13 kp13 hb13 W13
    obtain ⟨u, hu, hm2⟩ := lst_at (W13.get 0 rfl) rfl d130 d131
    refine ⟨_, _, _, _, rfl, rfl, W13.sq 0 rfl, hu, ?_⟩
    have k1113 : Keep [b] H11 H13 := W13.keep
    have hev13 := hev11.keepb hb11 k1113
    obtain ⟨g, hug⟩ : ∃ g, Odd H13 u g := by
      simp only [List.mem_cons, List.not_mem_nil, or_false] at hm2
      rcases hm2 with rfl | rfl | rfl
      · exact ⟨_, he2.keepb hb11 k1113⟩
      · exact ⟨_, .str _ (by decide +kernel) (.of (by decide +kernel))⟩
      · exact ⟨_, tox⟩
    have t13 : Tabs TT H13 := tabs_kb (tabs_kb (tabs_kb (tabs_kb t7 hb7 k8) hb8 k810) hb10 k11) hb11 k1113
    have x13 : ExtB b H3 H13 := ((((ExtB.refl.keep k7).keep k8).keep k810).keep k11).keep k1113
    walk_at "rd"
    refine ⟨v, u, e, g, rfl, hev13, hug, t13, fun H14 k14 t14 => ?_⟩
    walk_at "rd"
    exact q _ _ _ H14 ⟨_, _, _, k14 b _ hb13 (fun ps q => by cases q), ok13.mono (by omega)⟩ (x13.ext k14) t14
end
end K09
namespace K09
open PySem PySem.Spec PyProof.Rows L2 FR TL LamX
open C8 (pss_cut pe_gc)
open StX (pe_callS2 pa_star)
section
variable {P : Program} {w : World} {K : PySem.W.Frag} {mg : Str → Option Value} {base : Heap} {A : Ads}
set_option pp.maxSteps 150
theorem sq_ext {H H' : Hp} {a b : Addr} {xs : List V} (h : SqL K H a xs) (nb : H b = none) (k : ∀ c o, c ≠ b → H c = some o → (∀ ps, o ≠ .tbl ps) → H' c = some o) : SqL K H' a xs := by
  rcases h with h | h
  · rcases h with h | ⟨ob, h⟩
    · exact .inl (.inl (k a _ (fun e => by rw [e, nb] at h; cases h) h (fun ps q => by cases q)))
    · exact .inl (.inr ⟨ob, k a _ (fun e => by rw [e, nb] at h; cases h) h (fun ps q => by cases q)⟩)
  · exact .inr h
def spLaw (K : PySem.W.Frag) (TT : List (Addr × Str)) : Sp := fun vs H Q _ => ∃ (a : Addr) (ns : List Int), vs = [.ref a] ∧ SqL K H a (ns.map V.int) ∧ ns.length ≤ 63 ∧ Tabs TT H ∧ ∀ H', Q (.bl true) H'
theorem ok_law (T : Txt w K mg A) {c Pt : Addr} {TT : List (Addr × Str)} (okr : FnG P w K mg base CX0 10 A.f_right (spRight TT)) (L : FunL K "law" "law" s_law A.f_law c) (TB : TBs base mg c Pt ("law" ++ ".<locals>." ++ "<lambda>") TT) : FnG P w K mg base CX0 11 A.f_law (spLaw K TT) := by
  refine okGC0 L T.F_law sc_law T.B_law (fun vs H Q E h => ?_) (fun A_ outer s_ H vs Q E hgd hr h => ?_)
  · obtain ⟨a, ns, rfl, _⟩ := h
    rfl
  · obtain ⟨a, zs, rfl, hS, hlen, tt, q⟩ := h
    refine ⟨_, (pss_cons (ps_for PassesOwn.never rfl (pi_range1 (by rfl) T.b_range (pa_cons (pe_callB (call_max2 rfl) (by rfl) T.b_max (by decide +kernel) (pa_cons pe_int (pa_cons (pe_callB (call_min2 rfl) (by rfl) T.b_min (by decide +kernel) (pa_cons pe_int (pa_cons (pe_callB call_len_seq (by rfl) T.b_len PySem.boot_len (pa_cons (pv 0) pa_nil)) pa_nil))) pa_nil))) pa_nil)) (pg_name (i := 1) sc_law.nd rfl (.inl rfl)) (pss_cons (ps_set (i := 2) sc_law.nd rfl (.inr rfl) (pe_call (ok_box T) (hr.mono (by decide)) (by rfl) T.g_box T.F_box.kp T.B_box .nil pass0 (pa_cons (pe_call (ok_cell T) (hr.mono (by decide)) (by rfl) T.g_cell T.F_cell.kp T.B_cell .nil pass0 (pa_cons (pv 0) (pa_cons (pv 1) pa_nil))) pa_nil)))
  (pss_cons (ps_for PassesOwn.never rfl (pi_range1 (by rfl) T.b_range (pa_cons pe_int pa_nil)) (pg_name (i := 3) sc_law.nd rfl (.inl rfl)) (blk_turn T okr TB hgd hr))
  (blk_two T okr TB hgd hr))))
  (pss_one (ps_ret pe_bl))), ?_⟩
    walk_at "rd"
    refine for_rg (fun i σ H' => (∃ y1 y2 y3 y4 y5 y6 y7 y8 y9 y10 y11 y12, σ = [some (.ref a), y1, y2, y3, y4, y5, y6, y7, y8, y9, y10, y11, y12]) ∧ SqL K H' a (zs.map V.int) ∧ Tabs TT H') ⟨⟨none, none, none, none, none, none, none, none, none, none, none, none, rfl⟩, hS, tt⟩ ?_ ?_
    · rintro i σ H1 hi ⟨⟨y1, y2, y3, y4, y5, y6, y7, y8, y9, y10, y11, y12, rfl⟩, S1, t1⟩
      have hi' : i < 63 := by
        refine Nat.lt_of_lt_of_le hi ?_
        rw [List.length_map]
        split <;> split <;> omega
      have W1 : Ow H1 [] H1 [] := Ow.start0
      walk_at "rd"
      refine ⟨a, zs, _, rfl, S1, by omega, by omega, fun n => ?_⟩
      walk_at "rd"
      intro x y z ok
      walk_at "rd"
      rename_i b H2 np2 kp2 hp2 W2
      have s2 : ∀ H', ExtB b H2 H' → SqL K H' a (zs.map V.int) := fun H' x2 => sq_ext S1 np2 fun c o nc e nt => x2 c o nc (kp2 c o e (by simp)) nt
      have t2 := tabs_of t1 kp2
      refine for_rg (fun j σ' H' => (∃ u3 u4 u5 u6, σ' = [some (.ref a), some (.int (0 + i)), some (.ref b), u3, u4, u5, u6, y7, y8, y9, y10, y11, y12]) ∧ Bg H' b (50 * j) ∧ ExtB b H2 H' ∧ Tabs TT H') ⟨⟨_, _, _, _, rfl⟩, ⟨x, y, z, hp2, ok⟩, ExtB.refl, t2⟩ ?_ ?_
      · rintro j σ5 H5 hj ⟨⟨u3, u4, u5, u6, rfl⟩, bg, x5, t5⟩
        have hj8 : j < 8 := by omega
        walk_at "rd"
        refine ⟨_, _, _, _, _, _, _, _, _, _, _, _, b, 50 * j, rfl, bg, by omega, t5, fun z4 z5 z6 H6 bg6 x6 t6 => ?_⟩
        exact ⟨⟨_, _, _, _, rfl⟩, by rw [Nat.mul_succ]; exact bg6, x5.trans x6, t6⟩
      · rintro σ5 H5 ⟨⟨u3, u4, u5, u6, rfl⟩, bg, x5, t5⟩
        refine ⟨_, _, _, _, _, _, _, _, _, _, _, _, b, _, rfl, bg, by omega, t5, fun z7 z8 z9 z10 z11 H6 x6 t6 => ?_⟩
        exact ⟨⟨_, _, _, _, _, _, _, _, _, _, _, _, rfl⟩, s2 H6 (x5.trans x6), t6⟩
    · rintro σ H1 ⟨⟨y1, y2, y3, y4, y5, y6, y7, y8, y9, y10, y11, y12, rfl⟩, S1, t1⟩
      walk_at "rd"
      exact q H1
end
end K09
namespace K09
open PySem PySem.Spec PyProof.Rows L2 FR TL
theorem all_mk {P : Program} {w : World} {K : PySem.W.Frag} {h : Heap} {mg : Str → Option Value} {fa : Addr} (X : K.In h) (G : h.Ns mainGlobals mg) (hfa : mg "law" = some (.ref fa))
    {O0 : Addr} {cdo0 : ClassData}
    {f0 : Addr} {od0 an0 : Option Addr} {sl0 : Array (Option Value)} {oc0 kV0 dc0 pm0 cd0 ct0 : Value}
    {f1 : Addr} {od1 an1 : Option Addr} {sl1 : Array (Option Value)} {oc1 kV1 dc1 pm1 cd1 ct1 : Value}
    {f2 : Addr} {od2 an2 : Option Addr} {sl2 : Array (Option Value)} {oc2 kV2 dc2 pm2 cd2 ct2 : Value}
    {f3 : Addr} {od3 an3 : Option Addr} {sl3 : Array (Option Value)} {oc3 kV3 dc3 pm3 cd3 ct3 : Value}
    {f4 : Addr} {od4 an4 : Option Addr} {sl4 : Array (Option Value)} {oc4 kV4 dc4 pm4 cd4 ct4 : Value}
    {f5 : Addr} {od5 an5 : Option Addr} {sl5 : Array (Option Value)} {oc5 kV5 dc5 pm5 cd5 ct5 : Value}
    {f6 : Addr} {od6 an6 : Option Addr} {sl6 : Array (Option Value)} {oc6 kV6 dc6 pm6 cd6 ct6 : Value}
    {f7 : Addr} {od7 an7 : Option Addr} {sl7 : Array (Option Value)} {oc7 kV7 dc7 pm7 cd7 ct7 : Value}
    {f8 : Addr} {od8 an8 : Option Addr} {sl8 : Array (Option Value)} {oc8 kV8 dc8 pm8 cd8 ct8 : Value}
    {f9 : Addr} {od9 an9 : Option Addr} {sl9 : Array (Option Value)} {oc9 kV9 dc9 pm9 cd9 ct9 : Value}
    {f10 : Addr} {od10 an10 : Option Addr} {sl10 : Array (Option Value)} {oc10 kV10 dc10 pm10 cd10 ct10 : Value}
    {f11 : Addr} {od11 an11 : Option Addr} {sl11 : Array (Option Value)} {oc11 kV11 dc11 pm11 cd11 ct11 : Value}
    {f12 : Addr} {od12 an12 : Option Addr} {sl12 : Array (Option Value)} {oc12 kV12 dc12 pm12 cd12 ct12 : Value}
    {f13 : Addr} {od13 an13 : Option Addr} {sl13 : Array (Option Value)} {oc13 kV13 dc13 pm13 cd13 ct13 : Value}
    {f14 : Addr} {od14 an14 : Option Addr} {sl14 : Array (Option Value)} {oc14 kV14 dc14 pm14 ct14 : Value} {cr14 Pr14 : Addr}
    {f15 : Addr} {od15 an15 : Option Addr} {sl15 : Array (Option Value)} {oc15 kV15 dc15 pm15 ct15 : Value} {cr15 Pr15 : Addr}
    {f16 : Addr} {od16 an16 : Option Addr} {sl16 : Array (Option Value)} {oc16 kV16 dc16 pm16 cd16 ct16 : Value}
    {DT16 : Addr} {dto16 : Obj} {dti16 : List Value} {dtn16 : Nat}
    {f17 : Addr} {od17 an17 : Option Addr} {sl17 : Array (Option Value)} {oc17 kV17 dc17 pm17 cd17 ct17 : Value}
    {P17 : Addr} {pr17 : List Value}
    {f18 : Addr} {od18 an18 : Option Addr} {sl18 : Array (Option Value)} {oc18 kV18 dc18 pm18 cd18 ct18 : Value}
    {P18 : Addr} {pr18 : List Value}
    {f19 : Addr} {od19 an19 : Option Addr} {sl19 : Array (Option Value)} {oc19 kV19 dc19 pm19 cd19 ct19 : Value}
    {P19 : Addr} {pr19 : List Value}
    {f20 : Addr} {od20 an20 : Option Addr} {sl20 : Array (Option Value)} {oc20 kV20 dc20 pm20 cd20 ct20 : Value}
    {f21 : Addr} {od21 an21 : Option Addr} {sl21 : Array (Option Value)} {oc21 kV21 dc21 pm21 cd21 ct21 : Value}
    {f22 : Addr} {od22 an22 : Option Addr} {sl22 : Array (Option Value)} {oc22 kV22 dc22 pm22 cd22 ct22 : Value}
    {f23 : Addr} {od23 an23 : Option Addr} {sl23 : Array (Option Value)} {oc23 kV23 dc23 pm23 cd23 ct23 : Value}
    {f24 : Addr} {od24 an24 : Option Addr} {sl24 : Array (Option Value)} {oc24 kV24 dc24 pm24 cd24 ct24 : Value}
    {f25 : Addr} {od25 an25 : Option Addr} {sl25 : Array (Option Value)} {oc25 kV25 dc25 pm25 cd25 ct25 : Value}
    {f27 : Addr} {od27 an27 : Option Addr} {sl27 : Array (Option Value)} {oc27 kV27 dc27 pm27 cd27 ct27 : Value}
    {f28 : Addr} {od28 an28 : Option Addr} {sl28 : Array (Option Value)} {oc28 kV28 dc28 pm28 cd28 ct28 : Value}
    {K0 : Addr}
    {K1 : Addr}
    {K2 : Addr}
    {K3 : Addr}
    {K4 : Addr}
    {J3 : Addr} {nm3 qu3 : Str} {N3 bs3 sn3 sub3 : _} {ab3 col3 dd3 m03 m13 m23 m33 m53 : _} {ioc3 idc3 ipm3 icd3 ict3 : Value} {iod3 ian3 : Option Addr} {isl3 : Array (Option Value)} {pa3 pb3 pc3 pd3 pe3 pf3 : Pos}
    {J4 : Addr} {nm4 qu4 : Str} {N4 bs4 sn4 sub4 : _} {ab4 col4 dd4 m04 m14 m24 m34 m54 : _} {ioc4 idc4 ipm4 icd4 ict4 : Value} {iod4 ian4 : Option Addr} {isl4 : Array (Option Value)} {pa4 pb4 pc4 pd4 pe4 pf4 : Pos}
    {tc0 : Tok}
    {tc1 : Tok}
    {KD2 : Addr} {kes2 : Array DictEntry} {ken2 : Nat} {kt2_0 : Tok} {kt2_1 : Tok} {kt2_2 : Tok} {kt2_3 : Tok} {kt2_4 : Tok} {kt2_5 : Tok} {kt2_6 : Tok} {kt2_7 : Tok} {kt2_8 : Tok} {kt2_9 : Tok} {kt2_10 : Tok} {kt2_11 : Tok} {kt2_12 : Tok} {kt2_13 : Tok} {kt2_14 : Tok} {kt2_15 : Tok}
    {KD3 : Addr} {kto3 : Obj} {kti3 : Array Value} {ktn3 : Nat}
    (oa0 : PySem.W.nsIn K mainGlobals "Rights" = some (some (.ref O0)))
    (opg0 : PySem.W.plainGet K O0 Str.empty = true)
    (ohd0 : PySem.W.hasDictIn K O0 = true)
    (opo0 : PySem.W.plainOver K O0 = true)
    (osa0 : PySem.W.findIn K (.ref O0) "__setattr__" = some (some (.builtin "object.__setattr__")))
    (omk0 : PySem.W.makesIn K O0 = true)
    (okc0 : PySem.W.keepIn K (.ref O0) = true)
    (oca0 : PySem.W.findIn K (.ref O0) "__class__" = some (some (.builtin "object.__class__")))
    (ocn0 : PySem.W.specialIn K (.builtin "object.__class__") "__get__" = some (some (.builtin "getset_descriptor.__get__")))
    (oct0 : PySem.W.takesIn K (.builtin "object.__class__") = some true)
    (ocm0 : PySem.W.mroIn K O0 (.type "object") = some true)
    (osf0 : PySem.W.selfFirst K O0 = true)
    (ocd0 : PySem.W.clsIn K O0 = some cdo0)
    (omr0 : cdo0.mro = [.ref O0, .type "object"])
    (one0 : PySem.W.findIn K (.ref O0) "__ne__" = some (some (.builtin "object.__ne__")))
    (ona_digit0 : PySem.W.findIn K (.ref O0) "_digit" = some none)
    (onfstr0 : PySem.W.notFirst K O0 (.type "str") = true)
    (onfint0 : PySem.W.notFirst K O0 (.type "int") = true)
    (onfbool0 : PySem.W.notFirst K O0 (.type "bool") = true)
    (onfNoneType0 : PySem.W.notFirst K O0 (.type "NoneType") = true)
    (onflist0 : PySem.W.notFirst K O0 (.type "list") = true)
    (onftuple0 : PySem.W.notFirst K O0 (.type "tuple") = true)
    (onfdict0 : PySem.W.notFirst K O0 (.type "dict") = true)
    (ord0 : PySem.W.readsIn K O0 (.type "type") = true)
    (org0 : PySem.W.specialIn K (.ref O0) "__getattribute__" = some (some (.builtin "type.__getattribute__")))
    (oic0 : PySem.W.isClsIn K O0 = true)
    (oyt0 : PySem.W.typeIn K (.ref O0) = some (.type "type"))
    (oktstr0 : PySem.W.subIn K (.type "str") (.ref O0) = some false)
    (oktint0 : PySem.W.subIn K (.type "int") (.ref O0) = some false)
    (oktbool0 : PySem.W.subIn K (.type "bool") (.ref O0) = some false)
    (oktNoneType0 : PySem.W.subIn K (.type "NoneType") (.ref O0) = some false)
    (oktlist0 : PySem.W.subIn K (.type "list") (.ref O0) = some false)
    (okttuple0 : PySem.W.subIn K (.type "tuple") (.ref O0) = some false)
    (oktdict0 : PySem.W.subIn K (.type "dict") (.ref O0) = some false)
    (okistr0 : PySem.W.kitOne K (.ref O0) (.type "str") = some false)
    (orror0 : PySem.W.findIn K (.ref O0) "__ror__" = some none)
    (orrand0 : PySem.W.findIn K (.ref O0) "__rand__" = some none)
    (orrsub0 : PySem.W.findIn K (.ref O0) "__rsub__" = some none)
    (orrxor0 : PySem.W.findIn K (.ref O0) "__rxor__" = some none)
    (a0 : PySem.W.nsIn K mainGlobals "is_integer" = some (some (.ref f0)))
    (l0 : K.lookup f0 = some ⟨oc0, od0, .func (PySem.W.fnOf "is_integer" "is_integer" (defArgs s_is_integer) (defBody s_is_integer) (defScope s_is_integer) .none kV0 dc0 pm0 an0 cd0 ct0), sl0⟩)
    (c0 : PySem.W.codeIn K cd0 "is_integer" = true) (k0 : PySem.W.keepIn K (.ref f0) = true)
    (a1 : PySem.W.nsIn K mainGlobals "is_rights" = some (some (.ref f1)))
    (l1 : K.lookup f1 = some ⟨oc1, od1, .func (PySem.W.fnOf "is_rights" "is_rights" (defArgs s_is_rights) (defBody s_is_rights) (defScope s_is_rights) .none kV1 dc1 pm1 an1 cd1 ct1), sl1⟩)
    (c1 : PySem.W.codeIn K cd1 "is_rights" = true) (k1 : PySem.W.keepIn K (.ref f1) = true)
    (a2 : PySem.W.nsIn K mainGlobals "as_rights" = some (some (.ref f2)))
    (l2 : K.lookup f2 = some ⟨oc2, od2, .func (PySem.W.fnOf "as_rights" "as_rights" (defArgs s_as_rights) (defBody s_as_rights) (defScope s_as_rights) .none kV2 dc2 pm2 an2 cd2 ct2), sl2⟩)
    (c2 : PySem.W.codeIn K cd2 "as_rights" = true) (k2 : PySem.W.keepIn K (.ref f2) = true)
    (a3 : PySem.W.nsIn K mainGlobals "_is_letters" = some (some (.ref f3)))
    (l3 : K.lookup f3 = some ⟨oc3, od3, .func (PySem.W.fnOf "_is_letters" "_is_letters" (defArgs s__is_letters) (defBody s__is_letters) (defScope s__is_letters) .none kV3 dc3 pm3 an3 cd3 ct3), sl3⟩)
    (c3 : PySem.W.codeIn K cd3 "_is_letters" = true) (k3 : PySem.W.keepIn K (.ref f3) = true)
    (a4 : PySem.W.nsIn K mainGlobals "_digit_of" = some (some (.ref f4)))
    (l4 : K.lookup f4 = some ⟨oc4, od4, .func (PySem.W.fnOf "_digit_of" "_digit_of" (defArgs s__digit_of) (defBody s__digit_of) (defScope s__digit_of) .none kV4 dc4 pm4 an4 cd4 ct4), sl4⟩)
    (c4 : PySem.W.codeIn K cd4 "_digit_of" = true) (k4 : PySem.W.keepIn K (.ref f4) = true)
    (a5 : PySem.W.nsIn K mainGlobals "_law_cell" = some (some (.ref f5)))
    (l5 : K.lookup f5 = some ⟨oc5, od5, .func (PySem.W.fnOf "_law_cell" "_law_cell" (defArgs s_cell) (defBody s_cell) (defScope s_cell) .none kV5 dc5 pm5 an5 cd5 ct5), sl5⟩)
    (c5 : PySem.W.codeIn K cd5 "_law_cell" = true) (k5 : PySem.W.keepIn K (.ref f5) = true)
    (a6 : PySem.W.nsIn K mainGlobals "_law_box" = some (some (.ref f6)))
    (l6 : K.lookup f6 = some ⟨oc6, od6, .func (PySem.W.fnOf "_law_box" "_law_box" (defArgs s_box) (defBody s_box) (defScope s_box) .none kV6 dc6 pm6 an6 cd6 ct6), sl6⟩)
    (c6 : PySem.W.codeIn K cd6 "_law_box" = true) (k6 : PySem.W.keepIn K (.ref f6) = true)
    (a7 : PySem.W.nsIn K mainGlobals "_law_take" = some (some (.ref f7)))
    (l7 : K.lookup f7 = some ⟨oc7, od7, .func (PySem.W.fnOf "_law_take" "_law_take" (defArgs s_take) (defBody s_take) (defScope s_take) .none kV7 dc7 pm7 an7 cd7 ct7), sl7⟩)
    (c7 : PySem.W.codeIn K cd7 "_law_take" = true) (k7 : PySem.W.keepIn K (.ref f7) = true)
    (a8 : PySem.W.nsIn K mainGlobals "_law_odd" = some (some (.ref f8)))
    (l8 : K.lookup f8 = some ⟨oc8, od8, .func (PySem.W.fnOf "_law_odd" "_law_odd" (defArgs s_odd) (defBody s_odd) (defScope s_odd) .none kV8 dc8 pm8 an8 cd8 ct8), sl8⟩)
    (c8 : PySem.W.codeIn K cd8 "_law_odd" = true) (k8 : PySem.W.keepIn K (.ref f8) = true)
    (a9 : PySem.W.nsIn K mainGlobals "_law_sign" = some (some (.ref f9)))
    (l9 : K.lookup f9 = some ⟨oc9, od9, .func (PySem.W.fnOf "_law_sign" "_law_sign" (defArgs s_sign) (defBody s_sign) (defScope s_sign) .none kV9 dc9 pm9 an9 cd9 ct9), sl9⟩)
    (c9 : PySem.W.codeIn K cd9 "_law_sign" = true) (k9 : PySem.W.keepIn K (.ref f9) = true)
    (a10 : PySem.W.nsIn K mainGlobals "_law_ask" = some (some (.ref f10)))
    (l10 : K.lookup f10 = some ⟨oc10, od10, .func (PySem.W.fnOf "_law_ask" "_law_ask" (defArgs s_ask) (defBody s_ask) (defScope s_ask) .none kV10 dc10 pm10 an10 cd10 ct10), sl10⟩)
    (c10 : PySem.W.codeIn K cd10 "_law_ask" = true) (k10 : PySem.W.keepIn K (.ref f10) = true)
    (a11 : PySem.W.nsIn K mainGlobals "_law_caught" = some (some (.ref f11)))
    (l11 : K.lookup f11 = some ⟨oc11, od11, .func (PySem.W.fnOf "_law_caught" "_law_caught" (defArgs s_caught) (defBody s_caught) (defScope s_caught) .none kV11 dc11 pm11 an11 cd11 ct11), sl11⟩)
    (c11 : PySem.W.codeIn K cd11 "_law_caught" = true) (k11 : PySem.W.keepIn K (.ref f11) = true)
    (a12 : PySem.W.nsIn K mainGlobals "_law_is_letters" = some (some (.ref f12)))
    (l12 : K.lookup f12 = some ⟨oc12, od12, .func (PySem.W.fnOf "_law_is_letters" "_law_is_letters" (defArgs s_is_letters) (defBody s_is_letters) (defScope s_is_letters) .none kV12 dc12 pm12 an12 cd12 ct12), sl12⟩)
    (c12 : PySem.W.codeIn K cd12 "_law_is_letters" = true) (k12 : PySem.W.keepIn K (.ref f12) = true)
    (a13 : PySem.W.nsIn K mainGlobals "_law_same" = some (some (.ref f13)))
    (l13 : K.lookup f13 = some ⟨oc13, od13, .func (PySem.W.fnOf "_law_same" "_law_same" (defArgs s_same) (defBody s_same) (defScope s_same) .none kV13 dc13 pm13 an13 cd13 ct13), sl13⟩)
    (c13 : PySem.W.codeIn K cd13 "_law_same" = true) (k13 : PySem.W.keepIn K (.ref f13) = true)
    (a14 : PySem.W.nsIn K mainGlobals "_law_right" = some (some (.ref f14)))
    (l14 : K.lookup f14 = some ⟨oc14, od14, .func (PySem.W.fnOf "_law_right" "_law_right" (defArgs s_right) (defBody s_right) (defScope s_right) .none kV14 dc14 pm14 an14 (.ref cr14) ct14), sl14⟩)
    (c14 : PySem.W.codeIn K (.ref cr14) "_law_right" = true) (k14 : PySem.W.keepIn K (.ref f14) = true)
    (a15 : PySem.W.nsIn K mainGlobals "law" = some (some (.ref f15)))
    (l15 : K.lookup f15 = some ⟨oc15, od15, .func (PySem.W.fnOf "law" "law" (defArgs s_law) (defBody s_law) (defScope s_law) .none kV15 dc15 pm15 an15 (.ref cr15) ct15), sl15⟩)
    (c15 : PySem.W.codeIn K (.ref cr15) "law" = true) (k15 : PySem.W.keepIn K (.ref f15) = true)
    (a16 : PySem.W.findIn K (.ref O0) "__init__" = some (some (.ref f16)))
    (t16 : PySem.W.isFn K (.ref f16) = true)
    (l16 : K.lookup f16 = some ⟨oc16, od16, .func (PySem.W.fnOf "__init__" "Rights.__init__" (defArgs s_Rights___init__) (defBody s_Rights___init__) (defScope s_Rights___init__) (.ref DT16) kV16 dc16 pm16 an16 cd16 ct16), sl16⟩)
    (c16 : PySem.W.codeIn K cd16 "Rights.__init__" = true)
    (k16 : PySem.W.keepIn K (.ref f16) = true)
    (dl16 : K.lookup DT16 = some dto16)
    (dd16 : dto16.data = .seq dti16.toArray dtn16)
    (dv16 : Vals [.str ""] dti16)
    (a17 : PySem.W.findCls K (.ref O0) (.type "type") "of" = some (PySem.W.CFound.get (.builtin "classmethod.__get__") (.ref P17) .none (.ref O0)))
    (px17 : PySem.W.recIn K P17 "classmethod" = some (.ref f17 :: pr17))
    (pf17 : PySem.W.fnIn K f17 = true)
    (l17 : K.lookup f17 = some ⟨oc17, od17, .func (PySem.W.fnOf "of" "Rights.of" (defArgs s_Rights_of) (defBody s_Rights_of) (defScope s_Rights_of) .none kV17 dc17 pm17 an17 cd17 ct17), sl17⟩)
    (c17 : PySem.W.codeIn K cd17 "Rights.of" = true)
    (k17 : PySem.W.keepIn K (.ref f17) = true)
    (a18 : PySem.W.findCls K (.ref O0) (.type "type") "from_digit" = some (PySem.W.CFound.get (.builtin "classmethod.__get__") (.ref P18) .none (.ref O0)))
    (px18 : PySem.W.recIn K P18 "classmethod" = some (.ref f18 :: pr18))
    (pf18 : PySem.W.fnIn K f18 = true)
    (l18 : K.lookup f18 = some ⟨oc18, od18, .func (PySem.W.fnOf "from_digit" "Rights.from_digit" (defArgs s_Rights_from_digit) (defBody s_Rights_from_digit) (defScope s_Rights_from_digit) .none kV18 dc18 pm18 an18 cd18 ct18), sl18⟩)
    (c18 : PySem.W.codeIn K cd18 "Rights.from_digit" = true)
    (k18 : PySem.W.keepIn K (.ref f18) = true)
    (a19 : PySem.W.findIn K (.ref O0) "digit" = some (some (.ref P19)))
    (pg19 : PySem.W.specialIn K (.ref P19) "__get__" = some (some (.builtin "property.__get__")))
    (pt19 : PySem.W.takesIn K (.ref P19) = some true)
    (px19 : PySem.W.recIn K P19 "property" = some (.ref f19 :: pr19))
    (l19 : K.lookup f19 = some ⟨oc19, od19, .func (PySem.W.fnOf "digit" "Rights.digit" (defArgs s_Rights_digit) (defBody s_Rights_digit) (defScope s_Rights_digit) .none kV19 dc19 pm19 an19 cd19 ct19), sl19⟩)
    (c19 : PySem.W.codeIn K cd19 "Rights.digit" = true)
    (k19 : PySem.W.keepIn K (.ref f19) = true)
    (a20 : PySem.W.findIn K (.ref O0) "listed" = some (some (.ref f20)))
    (t20 : PySem.W.isFn K (.ref f20) = true)
    (l20 : K.lookup f20 = some ⟨oc20, od20, .func (PySem.W.fnOf "listed" "Rights.listed" (defArgs s_Rights_listed) (defBody s_Rights_listed) (defScope s_Rights_listed) .none kV20 dc20 pm20 an20 cd20 ct20), sl20⟩)
    (c20 : PySem.W.codeIn K cd20 "Rights.listed" = true)
    (k20 : PySem.W.keepIn K (.ref f20) = true)
    (a21 : PySem.W.findIn K (.ref O0) "covers" = some (some (.ref f21)))
    (t21 : PySem.W.isFn K (.ref f21) = true)
    (l21 : K.lookup f21 = some ⟨oc21, od21, .func (PySem.W.fnOf "covers" "Rights.covers" (defArgs s_Rights_covers) (defBody s_Rights_covers) (defScope s_Rights_covers) .none kV21 dc21 pm21 an21 cd21 ct21), sl21⟩)
    (c21 : PySem.W.codeIn K cd21 "Rights.covers" = true)
    (k21 : PySem.W.keepIn K (.ref f21) = true)
    (a22 : PySem.W.findIn K (.ref O0) "__or__" = some (some (.ref f22)))
    (t22 : PySem.W.isFn K (.ref f22) = true)
    (l22 : K.lookup f22 = some ⟨oc22, od22, .func (PySem.W.fnOf "__or__" "Rights.__or__" (defArgs s_Rights___or__) (defBody s_Rights___or__) (defScope s_Rights___or__) .none kV22 dc22 pm22 an22 cd22 ct22), sl22⟩)
    (c22 : PySem.W.codeIn K cd22 "Rights.__or__" = true)
    (k22 : PySem.W.keepIn K (.ref f22) = true)
    (a23 : PySem.W.findIn K (.ref O0) "__and__" = some (some (.ref f23)))
    (t23 : PySem.W.isFn K (.ref f23) = true)
    (l23 : K.lookup f23 = some ⟨oc23, od23, .func (PySem.W.fnOf "__and__" "Rights.__and__" (defArgs s_Rights___and__) (defBody s_Rights___and__) (defScope s_Rights___and__) .none kV23 dc23 pm23 an23 cd23 ct23), sl23⟩)
    (c23 : PySem.W.codeIn K cd23 "Rights.__and__" = true)
    (k23 : PySem.W.keepIn K (.ref f23) = true)
    (a24 : PySem.W.findIn K (.ref O0) "__sub__" = some (some (.ref f24)))
    (t24 : PySem.W.isFn K (.ref f24) = true)
    (l24 : K.lookup f24 = some ⟨oc24, od24, .func (PySem.W.fnOf "__sub__" "Rights.__sub__" (defArgs s_Rights___sub__) (defBody s_Rights___sub__) (defScope s_Rights___sub__) .none kV24 dc24 pm24 an24 cd24 ct24), sl24⟩)
    (c24 : PySem.W.codeIn K cd24 "Rights.__sub__" = true)
    (k24 : PySem.W.keepIn K (.ref f24) = true)
    (a25 : PySem.W.findIn K (.ref O0) "__xor__" = some (some (.ref f25)))
    (t25 : PySem.W.isFn K (.ref f25) = true)
    (l25 : K.lookup f25 = some ⟨oc25, od25, .func (PySem.W.fnOf "__xor__" "Rights.__xor__" (defArgs s_Rights___xor__) (defBody s_Rights___xor__) (defScope s_Rights___xor__) .none kV25 dc25 pm25 an25 cd25 ct25), sl25⟩)
    (c25 : PySem.W.codeIn K cd25 "Rights.__xor__" = true)
    (k25 : PySem.W.keepIn K (.ref f25) = true)
    (a27 : PySem.W.findIn K (.ref O0) "__eq__" = some (some (.ref f27)))
    (t27 : PySem.W.isFn K (.ref f27) = true)
    (l27 : K.lookup f27 = some ⟨oc27, od27, .func (PySem.W.fnOf "__eq__" "Rights.__eq__" (defArgs s_Rights___eq__) (defBody s_Rights___eq__) (defScope s_Rights___eq__) .none kV27 dc27 pm27 an27 cd27 ct27), sl27⟩)
    (c27 : PySem.W.codeIn K cd27 "Rights.__eq__" = true)
    (k27 : PySem.W.keepIn K (.ref f27) = true)
    (a28 : PySem.W.findIn K (.ref O0) "__contains__" = some (some (.ref f28)))
    (t28 : PySem.W.isFn K (.ref f28) = true)
    (l28 : K.lookup f28 = some ⟨oc28, od28, .func (PySem.W.fnOf "__contains__" "Rights.__contains__" (defArgs s_Rights___contains__) (defBody s_Rights___contains__) (defScope s_Rights___contains__) .none kV28 dc28 pm28 an28 cd28 ct28), sl28⟩)
    (c28 : PySem.W.codeIn K cd28 "Rights.__contains__" = true)
    (k28 : PySem.W.keepIn K (.ref f28) = true)
    (ka0 : PySem.W.nsIn K mainGlobals "RightsError" = some (some (.ref K0)))
    (ka1 : PySem.W.nsIn K mainGlobals "MissingError" = some (some (.ref K1)))
    (ka2 : PySem.W.nsIn K mainGlobals "RefusedError" = some (some (.ref K2)))
    (ka3 : PySem.W.nsIn K mainGlobals "InvalidInteger" = some (some (.ref K3)))
    (ka4 : PySem.W.nsIn K mainGlobals "InvalidRights" = some (some (.ref K4)))
    (ic0 : PySem.W.isClsIn K K0 = true) (yt0 : PySem.W.typeIn K (.ref K0) = some (.type "type"))
    (ic1 : PySem.W.isClsIn K K1 = true) (yt1 : PySem.W.typeIn K (.ref K1) = some (.type "type"))
    (ic2 : PySem.W.isClsIn K K2 = true) (yt2 : PySem.W.typeIn K (.ref K2) = some (.type "type"))
    (xl3 : K.lookup K3 = some (excClassObj nm3 qu3 K3 N3 bs3 [.ref K0, .type "ValueError", .type "Exception", .type "BaseException", .type "object"] true sn3 sub3 ab3 col3 dd3 m03 m13 m23 m33 m53 "ValueError.__new__"))
    (sa3 : PySem.W.findIn K (.ref K3) "__setattr__" = some (some (.builtin "object.__setattr__")))
    (ga3 : PySem.W.findIn K (.ref K3) "__getattribute__" = some (some (.builtin "BaseException.__getattribute__")))
    (gg3 : PySem.W.findIn K (.ref K3) "__getattr__" = some none)
    (nb3 : PySem.W.findIn K (.ref K3) "value" = some none)
    (in3 : PySem.W.findIn K (.ref K3) "__init__" = some (some (.ref J3)))
    (ti3 : PySem.W.typeIn K (.ref J3) = some (.type "function"))
    (li3 : K.lookup J3 = some ⟨ioc3, iod3, .func (PySem.W.fnOf "__init__" "InvalidInteger.__init__" (PySem.ExV.iA pa3 pb3) (PySem.ExV.iB pc3 pd3 pe3 pf3) PySem.ExV.iS .none .none idc3 ipm3 ian3 icd3 ict3), isl3⟩)
    (ci3 : PySem.W.codeIn K icd3 "InvalidInteger.__init__" = true)
    (kc3 : PySem.W.keepIn K (.ref K3) = true)
    (eb3 : PySem.W.subIn K (.ref K3) (.type "BaseException") = some true)
    (yt3 : PySem.W.typeIn K (.ref K3) = some (.type "type"))
    (hd3 : PySem.W.hasDictIn K K3 = true)
    (ic3 : PySem.W.isClsIn K K3 = true)
    (sc3 : PySem.W.subIn K (.ref K3) (.ref K3) = some true)
    (ca3 : PySem.W.findIn K (.ref K3) "__class__" = some (some (.builtin "object.__class__")))
    (cn3 : PySem.W.specialIn K (.builtin "object.__class__") "__get__" = some (some (.builtin "getset_descriptor.__get__")))
    (xt3 : PySem.W.takesIn K (.builtin "object.__class__") = some true)
    (cm3 : PySem.W.mroIn K K3 (.type "object") = some true)
    (xl4 : K.lookup K4 = some (excClassObj nm4 qu4 K4 N4 bs4 [.ref K0, .type "ValueError", .type "Exception", .type "BaseException", .type "object"] true sn4 sub4 ab4 col4 dd4 m04 m14 m24 m34 m54 "ValueError.__new__"))
    (sa4 : PySem.W.findIn K (.ref K4) "__setattr__" = some (some (.builtin "object.__setattr__")))
    (ga4 : PySem.W.findIn K (.ref K4) "__getattribute__" = some (some (.builtin "BaseException.__getattribute__")))
    (gg4 : PySem.W.findIn K (.ref K4) "__getattr__" = some none)
    (nb4 : PySem.W.findIn K (.ref K4) "value" = some none)
    (in4 : PySem.W.findIn K (.ref K4) "__init__" = some (some (.ref J4)))
    (ti4 : PySem.W.typeIn K (.ref J4) = some (.type "function"))
    (li4 : K.lookup J4 = some ⟨ioc4, iod4, .func (PySem.W.fnOf "__init__" "InvalidRights.__init__" (PySem.ExV.iA pa4 pb4) (PySem.ExV.iB pc4 pd4 pe4 pf4) PySem.ExV.iS .none .none idc4 ipm4 ian4 icd4 ict4), isl4⟩)
    (ci4 : PySem.W.codeIn K icd4 "InvalidRights.__init__" = true)
    (kc4 : PySem.W.keepIn K (.ref K4) = true)
    (eb4 : PySem.W.subIn K (.ref K4) (.type "BaseException") = some true)
    (yt4 : PySem.W.typeIn K (.ref K4) = some (.type "type"))
    (hd4 : PySem.W.hasDictIn K K4 = true)
    (ic4 : PySem.W.isClsIn K K4 = true)
    (sc4 : PySem.W.subIn K (.ref K4) (.ref K4) = some true)
    (ca4 : PySem.W.findIn K (.ref K4) "__class__" = some (some (.builtin "object.__class__")))
    (cn4 : PySem.W.specialIn K (.builtin "object.__class__") "__get__" = some (some (.builtin "getset_descriptor.__get__")))
    (xt4 : PySem.W.takesIn K (.builtin "object.__class__") = some true)
    (cm4 : PySem.W.mroIn K K4 (.type "object") = some true)
    (kit_InvalidRights_InvalidInteger : PySem.W.subIn K (.ref K4) (.ref K3) = some false)
    (kit_InvalidRights_MissingError : PySem.W.subIn K (.ref K4) (.ref K1) = some false)
    (kit_InvalidRights_RefusedError : PySem.W.subIn K (.ref K4) (.ref K2) = some false)
    (kit_InvalidInteger_MissingError : PySem.W.subIn K (.ref K3) (.ref K1) = some false)
    (kit_InvalidInteger_RefusedError : PySem.W.subIn K (.ref K3) (.ref K2) = some false)
    (exm_InvalidInteger_InvalidRights : PySem.W.subIn K (.ref K3) (.ref K4) = some false)
    (q0 : PySem.W.nsIn K mainGlobals "LETTERS" = some (some (.str "rwx" tc0)))
    (q1 : PySem.W.nsIn K mainGlobals "ALL_DIGIT" = some (some (.int 7 tc1)))
    (q2 : PySem.W.nsIn K mainGlobals "DIGITS" = some (some (.ref KD2)))
    (kl2 : K.lookup KD2 = some ⟨.type "dict", none, .dict kes2 ken2, #[]⟩)
    (ky2 : PySem.W.KeysLit w.params kes2.toList)
    (ks2 : (KD2 == sysModules) = false)
    (kq2 : Vals [.str "", .str "x", .str "w", .str "wx", .str "xw", .str "r", .str "rx", .str "xr", .str "rw", .str "wr", .str "rwx", .str "rxw", .str "wrx", .str "wxr", .str "xrw", .str "xwr"] (kes2.toList.map (·.key)))
    (kv2_0 : PySem.W.nsIn K KD2 "" = some (some (.int 0 kt2_0)))
    (kv2_1 : PySem.W.nsIn K KD2 "x" = some (some (.int 1 kt2_1)))
    (kv2_2 : PySem.W.nsIn K KD2 "w" = some (some (.int 2 kt2_2)))
    (kv2_3 : PySem.W.nsIn K KD2 "wx" = some (some (.int 3 kt2_3)))
    (kv2_4 : PySem.W.nsIn K KD2 "xw" = some (some (.int 3 kt2_4)))
    (kv2_5 : PySem.W.nsIn K KD2 "r" = some (some (.int 4 kt2_5)))
    (kv2_6 : PySem.W.nsIn K KD2 "rx" = some (some (.int 5 kt2_6)))
    (kv2_7 : PySem.W.nsIn K KD2 "xr" = some (some (.int 5 kt2_7)))
    (kv2_8 : PySem.W.nsIn K KD2 "rw" = some (some (.int 6 kt2_8)))
    (kv2_9 : PySem.W.nsIn K KD2 "wr" = some (some (.int 6 kt2_9)))
    (kv2_10 : PySem.W.nsIn K KD2 "rwx" = some (some (.int 7 kt2_10)))
    (kv2_11 : PySem.W.nsIn K KD2 "rxw" = some (some (.int 7 kt2_11)))
    (kv2_12 : PySem.W.nsIn K KD2 "wrx" = some (some (.int 7 kt2_12)))
    (kv2_13 : PySem.W.nsIn K KD2 "wxr" = some (some (.int 7 kt2_13)))
    (kv2_14 : PySem.W.nsIn K KD2 "xrw" = some (some (.int 7 kt2_14)))
    (kv2_15 : PySem.W.nsIn K KD2 "xwr" = some (some (.int 7 kt2_15)))
    (q3 : PySem.W.nsIn K mainGlobals "WORDS" = some (some (.ref KD3)))
    (kl3 : K.lookup KD3 = some kto3)
    (ku3 : kto3.cls = .type "tuple")
    (kd3 : kto3.data = .seq kti3 ktn3)
    (kz3 : kti3.size ≤ sizeLine)
    (kv3 : Vals [.str "", .str "x", .str "w", .str "wx", .str "r", .str "rx", .str "rw", .str "rwx"] kti3.toList)
    (z0 : PySem.W.nsIn K mainGlobals "bool" = some none)
    (z1 : PySem.W.nsIn K mainGlobals "int" = some none)
    (z2 : PySem.W.nsIn K mainGlobals "isinstance" = some none)
    (z3 : PySem.W.nsIn K mainGlobals "len" = some none)
    (z4 : PySem.W.nsIn K mainGlobals "list" = some none)
    (z5 : PySem.W.nsIn K mainGlobals "max" = some none)
    (z6 : PySem.W.nsIn K mainGlobals "min" = some none)
    (z7 : PySem.W.nsIn K mainGlobals "range" = some none)
    (z8 : PySem.W.nsIn K mainGlobals "repr" = some none)
    (z9 : PySem.W.nsIn K mainGlobals "set" = some none)
    (z10 : PySem.W.nsIn K mainGlobals "str" = some none) :
    ∀ base : Heap, K.In base → base.Ns mainGlobals mg → LamX.TabB base mg cr14 Pr14 → LamX.TabB base mg cr15 Pr15 → Pr14 ≠ Pr15 → FnG P w K mg base CX0 11 fa (spLaw K [(Pr14, ("_law_right" ++ ".<locals>." ++ "<lambda>" : Str)), (Pr15, ("law" ++ ".<locals>." ++ "<lambda>" : Str))]) := by
  have e := hfa.symm.trans (PySem.W.mg_of X G a15)
  cases e
  let A : Ads := {
    C_Rights := O0
    f_is_integer := f0
    d_is_integer := PySem.W.fnOf "is_integer" "is_integer" (defArgs s_is_integer) (defBody s_is_integer) (defScope s_is_integer) .none kV0 dc0 pm0 an0 cd0 ct0
    f_is_rights := f1
    d_is_rights := PySem.W.fnOf "is_rights" "is_rights" (defArgs s_is_rights) (defBody s_is_rights) (defScope s_is_rights) .none kV1 dc1 pm1 an1 cd1 ct1
    f_as_rights := f2
    d_as_rights := PySem.W.fnOf "as_rights" "as_rights" (defArgs s_as_rights) (defBody s_as_rights) (defScope s_as_rights) .none kV2 dc2 pm2 an2 cd2 ct2
    f__is_letters := f3
    d__is_letters := PySem.W.fnOf "_is_letters" "_is_letters" (defArgs s__is_letters) (defBody s__is_letters) (defScope s__is_letters) .none kV3 dc3 pm3 an3 cd3 ct3
    f__digit_of := f4
    d__digit_of := PySem.W.fnOf "_digit_of" "_digit_of" (defArgs s__digit_of) (defBody s__digit_of) (defScope s__digit_of) .none kV4 dc4 pm4 an4 cd4 ct4
    f_cell := f5
    d_cell := PySem.W.fnOf "_law_cell" "_law_cell" (defArgs s_cell) (defBody s_cell) (defScope s_cell) .none kV5 dc5 pm5 an5 cd5 ct5
    f_box := f6
    d_box := PySem.W.fnOf "_law_box" "_law_box" (defArgs s_box) (defBody s_box) (defScope s_box) .none kV6 dc6 pm6 an6 cd6 ct6
    f_take := f7
    d_take := PySem.W.fnOf "_law_take" "_law_take" (defArgs s_take) (defBody s_take) (defScope s_take) .none kV7 dc7 pm7 an7 cd7 ct7
    f_odd := f8
    d_odd := PySem.W.fnOf "_law_odd" "_law_odd" (defArgs s_odd) (defBody s_odd) (defScope s_odd) .none kV8 dc8 pm8 an8 cd8 ct8
    f_sign := f9
    d_sign := PySem.W.fnOf "_law_sign" "_law_sign" (defArgs s_sign) (defBody s_sign) (defScope s_sign) .none kV9 dc9 pm9 an9 cd9 ct9
    f_ask := f10
    d_ask := PySem.W.fnOf "_law_ask" "_law_ask" (defArgs s_ask) (defBody s_ask) (defScope s_ask) .none kV10 dc10 pm10 an10 cd10 ct10
    f_caught := f11
    d_caught := PySem.W.fnOf "_law_caught" "_law_caught" (defArgs s_caught) (defBody s_caught) (defScope s_caught) .none kV11 dc11 pm11 an11 cd11 ct11
    f_is_letters := f12
    d_is_letters := PySem.W.fnOf "_law_is_letters" "_law_is_letters" (defArgs s_is_letters) (defBody s_is_letters) (defScope s_is_letters) .none kV12 dc12 pm12 an12 cd12 ct12
    f_same := f13
    d_same := PySem.W.fnOf "_law_same" "_law_same" (defArgs s_same) (defBody s_same) (defScope s_same) .none kV13 dc13 pm13 an13 cd13 ct13
    f_right := f14
    d_right := PySem.W.fnOf "_law_right" "_law_right" (defArgs s_right) (defBody s_right) (defScope s_right) .none kV14 dc14 pm14 an14 (.ref cr14) ct14
    f_law := fa
    d_law := PySem.W.fnOf "law" "law" (defArgs s_law) (defBody s_law) (defScope s_law) .none kV15 dc15 pm15 an15 (.ref cr15) ct15
    f_Rights___init__ := f16
    d_Rights___init__ := PySem.W.fnOf "__init__" "Rights.__init__" (defArgs s_Rights___init__) (defBody s_Rights___init__) (defScope s_Rights___init__) (.ref DT16) kV16 dc16 pm16 an16 cd16 ct16
    f_Rights_of := f17
    d_Rights_of := PySem.W.fnOf "of" "Rights.of" (defArgs s_Rights_of) (defBody s_Rights_of) (defScope s_Rights_of) .none kV17 dc17 pm17 an17 cd17 ct17
    P_Rights_of := P17
    f_Rights_from_digit := f18
    d_Rights_from_digit := PySem.W.fnOf "from_digit" "Rights.from_digit" (defArgs s_Rights_from_digit) (defBody s_Rights_from_digit) (defScope s_Rights_from_digit) .none kV18 dc18 pm18 an18 cd18 ct18
    P_Rights_from_digit := P18
    f_Rights_digit := f19
    d_Rights_digit := PySem.W.fnOf "digit" "Rights.digit" (defArgs s_Rights_digit) (defBody s_Rights_digit) (defScope s_Rights_digit) .none kV19 dc19 pm19 an19 cd19 ct19
    P_Rights_digit := P19
    f_Rights_listed := f20
    d_Rights_listed := PySem.W.fnOf "listed" "Rights.listed" (defArgs s_Rights_listed) (defBody s_Rights_listed) (defScope s_Rights_listed) .none kV20 dc20 pm20 an20 cd20 ct20
    f_Rights_covers := f21
    d_Rights_covers := PySem.W.fnOf "covers" "Rights.covers" (defArgs s_Rights_covers) (defBody s_Rights_covers) (defScope s_Rights_covers) .none kV21 dc21 pm21 an21 cd21 ct21
    f_Rights___or__ := f22
    d_Rights___or__ := PySem.W.fnOf "__or__" "Rights.__or__" (defArgs s_Rights___or__) (defBody s_Rights___or__) (defScope s_Rights___or__) .none kV22 dc22 pm22 an22 cd22 ct22
    f_Rights___and__ := f23
    d_Rights___and__ := PySem.W.fnOf "__and__" "Rights.__and__" (defArgs s_Rights___and__) (defBody s_Rights___and__) (defScope s_Rights___and__) .none kV23 dc23 pm23 an23 cd23 ct23
    f_Rights___sub__ := f24
    d_Rights___sub__ := PySem.W.fnOf "__sub__" "Rights.__sub__" (defArgs s_Rights___sub__) (defBody s_Rights___sub__) (defScope s_Rights___sub__) .none kV24 dc24 pm24 an24 cd24 ct24
    f_Rights___xor__ := f25
    d_Rights___xor__ := PySem.W.fnOf "__xor__" "Rights.__xor__" (defArgs s_Rights___xor__) (defBody s_Rights___xor__) (defScope s_Rights___xor__) .none kV25 dc25 pm25 an25 cd25 ct25
    f_Rights___eq__ := f27
    d_Rights___eq__ := PySem.W.fnOf "__eq__" "Rights.__eq__" (defArgs s_Rights___eq__) (defBody s_Rights___eq__) (defScope s_Rights___eq__) .none kV27 dc27 pm27 an27 cd27 ct27
    f_Rights___contains__ := f28
    d_Rights___contains__ := PySem.W.fnOf "__contains__" "Rights.__contains__" (defArgs s_Rights___contains__) (defBody s_Rights___contains__) (defScope s_Rights___contains__) .none kV28 dc28 pm28 an28 cd28 ct28
    C_RightsError := K0
    C_MissingError := K1
    C_RefusedError := K2
    C_InvalidInteger := K3
    C_InvalidRights := K4
    I_InvalidInteger := J3
    I_InvalidRights := J4
    K_DIGITS := KD2
    K_WORDS := KD3 }
  have T : Txt w K mg A := {
    cr_Rights := ⟨ord0, org0⟩
    gC_Rights := PySem.W.mg_of X G oa0
    c_Rights := ⟨_, PySem.W.mg_of X G oa0, rfl⟩
    cl_Rights := ⟨opg0, ohd0, opo0, osa0⟩
    in_Rights := ⟨⟨opg0, ohd0, opo0, osa0⟩, oca0, ocn0, oct0, ocm0, by unfold PySem.W.kitOne; simp⟩
    sf_Rights := osf0
    cd_Rights := ⟨_, ocd0, omr0⟩
    ne_Rights := one0
    na_Rights__digit := ona_digit0
    nf_Rights_str := onfstr0
    nf_Rights_int := onfint0
    nf_Rights_bool := onfbool0
    nf_Rights_NoneType := onfNoneType0
    nf_Rights_list := onflist0
    nf_Rights_tuple := onftuple0
    nf_Rights_dict := onfdict0
    kt_Rights_str := kit_ofT oic0 oyt0 oktstr0
    kt_Rights_int := kit_ofT oic0 oyt0 oktint0
    kt_Rights_bool := kit_ofT oic0 oyt0 oktbool0
    kt_Rights_NoneType := kit_ofT oic0 oyt0 oktNoneType0
    kt_Rights_list := kit_ofT oic0 oyt0 oktlist0
    kt_Rights_tuple := kit_ofT oic0 oyt0 okttuple0
    kt_Rights_dict := kit_ofT oic0 oyt0 oktdict0
    ki_Rights_str := okistr0
    rr_Rights_or := (show PySem.dunderR "or" = "__ror__" by decide +kernel) ▸ orror0
    rr_Rights_and := (show PySem.dunderR "and" = "__rand__" by decide +kernel) ▸ orrand0
    rr_Rights_sub := (show PySem.dunderR "sub" = "__rsub__" by decide +kernel) ▸ orrsub0
    rr_Rights_xor := (show PySem.dunderR "xor" = "__rxor__" by decide +kernel) ▸ orrxor0
    sb_Rights_str := oktstr0
    sb_Rights_int := oktint0
    sb_Rights_bool := oktbool0
    sb_Rights_NoneType := oktNoneType0
    sb_Rights_list := oktlist0
    sb_Rights_tuple := okttuple0
    sb_Rights_dict := oktdict0
    F_is_integer := fun_mk l0 c0 k0
    B_is_integer := (fun_mk (st := s_is_integer) l0 c0 k0).binds (ps := ["value", "low", "high"]) fun _ _ _ _ _ _ us hl => match us, hl with | [_, _, _], _ => rfl
    g_is_integer := PySem.W.mg_of X G a0
    F_is_rights := fun_mk l1 c1 k1
    B_is_rights := (fun_mk (st := s_is_rights) l1 c1 k1).binds (ps := ["value"]) fun _ _ _ _ _ _ us hl => match us, hl with | [_], _ => rfl
    g_is_rights := PySem.W.mg_of X G a1
    F_as_rights := fun_mk l2 c2 k2
    B_as_rights := (fun_mk (st := s_as_rights) l2 c2 k2).binds (ps := ["value"]) fun _ _ _ _ _ _ us hl => match us, hl with | [_], _ => rfl
    g_as_rights := PySem.W.mg_of X G a2
    F__is_letters := fun_mk l3 c3 k3
    B__is_letters := (fun_mk (st := s__is_letters) l3 c3 k3).binds (ps := ["value"]) fun _ _ _ _ _ _ us hl => match us, hl with | [_], _ => rfl
    g__is_letters := PySem.W.mg_of X G a3
    F__digit_of := fun_mk l4 c4 k4
    B__digit_of := (fun_mk (st := s__digit_of) l4 c4 k4).binds (ps := ["value"]) fun _ _ _ _ _ _ us hl => match us, hl with | [_], _ => rfl
    g__digit_of := PySem.W.mg_of X G a4
    F_cell := fun_mk l5 c5 k5
    B_cell := (fun_mk (st := s_cell) l5 c5 k5).binds (ps := ["_law_script", "_law_k"]) fun _ _ _ _ _ _ us hl => match us, hl with | [_, _], _ => rfl
    g_cell := PySem.W.mg_of X G a5
    F_box := fun_mk l6 c6 k6
    B_box := (fun_mk (st := s_box) l6 c6 k6).binds (ps := ["_law_cell_here"]) fun _ _ _ _ _ _ us hl => match us, hl with | [_], _ => rfl
    g_box := PySem.W.mg_of X G a6
    F_take := fun_mk l7 c7 k7
    B_take := (fun_mk (st := s_take) l7 c7 k7).binds (ps := ["_law_box_here", "_law_many"]) fun _ _ _ _ _ _ us hl => match us, hl with | [_, _], _ => rfl
    g_take := PySem.W.mg_of X G a7
    F_odd := fun_mk l8 c8 k8
    B_odd := (fun_mk (st := s_odd) l8 c8 k8).binds (ps := ["_law_box_here"]) fun _ _ _ _ _ _ us hl => match us, hl with | [_], _ => rfl
    g_odd := PySem.W.mg_of X G a8
    F_sign := fun_mk l9 c9 k9
    B_sign := (fun_mk (st := s_sign) l9 c9 k9).binds (ps := ["_law_one", "_law_odd_here", "_law_way"]) fun _ _ _ _ _ _ us hl => match us, hl with | [_, _, _], _ => rfl
    g_sign := PySem.W.mg_of X G a9
    F_ask := fun_mk l10 c10 k10
    B_ask := (fun_mk (st := s_ask) l10 c10 k10).binds (ps := ["_law_way", "_law_odd_here"]) fun _ _ _ _ _ _ us hl => match us, hl with | [_, _], _ => rfl
    g_ask := PySem.W.mg_of X G a10
    F_caught := fun_mk l11 c11 k11
    B_caught := (fun_mk (st := s_caught) l11 c11 k11).binds (ps := ["_law_ask_here"]) fun _ _ _ _ _ _ us hl => match us, hl with | [_], _ => rfl
    g_caught := PySem.W.mg_of X G a11
    F_is_letters := fun_mk l12 c12 k12
    B_is_letters := (fun_mk (st := s_is_letters) l12 c12 k12).binds (ps := ["_law_thing"]) fun _ _ _ _ _ _ us hl => match us, hl with | [_], _ => rfl
    g_is_letters := PySem.W.mg_of X G a12
    F_same := fun_mk l13 c13 k13
    B_same := (fun_mk (st := s_same) l13 c13 k13).binds (ps := ["_law_found", "_law_due"]) fun _ _ _ _ _ _ us hl => match us, hl with | [_, _], _ => rfl
    g_same := PySem.W.mg_of X G a13
    F_right := fun_mk l14 c14 k14
    B_right := (fun_mk (st := s_right) l14 c14 k14).binds (ps := ["_law_odd_here", "_law_strange"]) fun _ _ _ _ _ _ us hl => match us, hl with | [_, _], _ => rfl
    g_right := PySem.W.mg_of X G a14
    F_law := fun_mk l15 c15 k15
    B_law := (fun_mk (st := s_law) l15 c15 k15).binds (ps := ["_law_script"]) fun _ _ _ _ _ _ us hl => match us, hl with | [_], _ => rfl
    g_law := PySem.W.mg_of X G a15
    F_Rights___init__ := ⟨⟨oc16, od16, .ref DT16, kV16, dc16, pm16, an16, cd16, ct16, sl16, rfl, l16, c16, .inr ⟨by simp, DT16, dto16, dti16, dtn16, rfl, dl16, dd16, dv16⟩, .inl rfl⟩, k16⟩
    me_Rights___init__ := ⟨a16, t16, k16⟩
    mk_Rights := ⟨omk0, a16, t16, okc0⟩
    F_Rights_of := fun_mk l17 c17 k17
    cm_Rights_of := ⟨a17, ⟨_, px17⟩, pf17⟩
    F_Rights_from_digit := fun_mk l18 c18 k18
    B_Rights_from_digit := (fun_mk (st := s_Rights_from_digit) l18 c18 k18).binds (ps := ["cls", "digit"]) fun _ _ _ _ _ _ us hl => match us, hl with | [_, _], _ => rfl
    cm_Rights_from_digit := ⟨a18, ⟨_, px18⟩, pf18⟩
    F_Rights_digit := fun_mk l19 c19 k19
    B_Rights_digit := (fun_mk (st := s_Rights_digit) l19 c19 k19).binds (ps := ["self"]) fun _ _ _ _ _ _ us hl => match us, hl with | [_], _ => rfl
    pr_Rights_digit := ⟨a19, pg19, pt19, _, px19⟩
    F_Rights_listed := fun_mk l20 c20 k20
    B_Rights_listed := (fun_mk (st := s_Rights_listed) l20 c20 k20).binds (ps := ["self"]) fun _ _ _ _ _ _ us hl => match us, hl with | [_], _ => rfl
    me_Rights_listed := ⟨a20, t20, k20⟩
    F_Rights_covers := fun_mk l21 c21 k21
    B_Rights_covers := (fun_mk (st := s_Rights_covers) l21 c21 k21).binds (ps := ["self", "other"]) fun _ _ _ _ _ _ us hl => match us, hl with | [_, _], _ => rfl
    me_Rights_covers := ⟨a21, t21, k21⟩
    F_Rights___or__ := fun_mk l22 c22 k22
    B_Rights___or__ := (fun_mk (st := s_Rights___or__) l22 c22 k22).binds (ps := ["self", "other"]) fun _ _ _ _ _ _ us hl => match us, hl with | [_, _], _ => rfl
    me_Rights___or__ := ⟨a22, t22, k22⟩
    F_Rights___and__ := fun_mk l23 c23 k23
    B_Rights___and__ := (fun_mk (st := s_Rights___and__) l23 c23 k23).binds (ps := ["self", "other"]) fun _ _ _ _ _ _ us hl => match us, hl with | [_, _], _ => rfl
    me_Rights___and__ := ⟨a23, t23, k23⟩
    F_Rights___sub__ := fun_mk l24 c24 k24
    B_Rights___sub__ := (fun_mk (st := s_Rights___sub__) l24 c24 k24).binds (ps := ["self", "other"]) fun _ _ _ _ _ _ us hl => match us, hl with | [_, _], _ => rfl
    me_Rights___sub__ := ⟨a24, t24, k24⟩
    F_Rights___xor__ := fun_mk l25 c25 k25
    B_Rights___xor__ := (fun_mk (st := s_Rights___xor__) l25 c25 k25).binds (ps := ["self", "other"]) fun _ _ _ _ _ _ us hl => match us, hl with | [_, _], _ => rfl
    me_Rights___xor__ := ⟨a25, t25, k25⟩
    F_Rights___eq__ := fun_mk l27 c27 k27
    B_Rights___eq__ := (fun_mk (st := s_Rights___eq__) l27 c27 k27).binds (ps := ["self", "other"]) fun _ _ _ _ _ _ us hl => match us, hl with | [_, _], _ => rfl
    me_Rights___eq__ := ⟨a27, t27, k27⟩
    F_Rights___contains__ := fun_mk l28 c28 k28
    B_Rights___contains__ := (fun_mk (st := s_Rights___contains__) l28 c28 k28).binds (ps := ["self", "value"]) fun _ _ _ _ _ _ us hl => match us, hl with | [_, _], _ => rfl
    me_Rights___contains__ := ⟨a28, t28, k28⟩
    c_RightsError := ⟨_, PySem.W.mg_of X G ka0, rfl⟩
    c_MissingError := ⟨_, PySem.W.mg_of X G ka1, rfl⟩
    c_RefusedError := ⟨_, PySem.W.mg_of X G ka2, rfl⟩
    c_InvalidInteger := ⟨_, PySem.W.mg_of X G ka3, rfl⟩
    c_InvalidRights := ⟨_, PySem.W.mg_of X G ka4, rfl⟩
    low_InvalidInteger := { gC := PySem.W.mg_of X G ka3, cls := ⟨_, _, _, _, _, _, _, _, _, _, _, _, _, _, _, xl3, rfl⟩, sa := sa3, ga := ga3, gg := gg3, noN := nb3, iC := in3, tC := ti3, kC := kc3, exC := eb3, tyC := yt3, hdC := hd3, te := exm_of eb3 ic3 yt3 sc3, fn := ⟨_, _, _, _, _, _, _, _, _, _, _, _, _, _, li3, ci3⟩ }
    ec_InvalidInteger := ⟨ga3, gg3, eb3, hd3, ca3, cn3, xt3, cm3⟩
    low_InvalidRights := { gC := PySem.W.mg_of X G ka4, cls := ⟨_, _, _, _, _, _, _, _, _, _, _, _, _, _, _, xl4, rfl⟩, sa := sa4, ga := ga4, gg := gg4, noN := nb4, iC := in4, tC := ti4, kC := kc4, exC := eb4, tyC := yt4, hdC := hd4, te := exm_of eb4 ic4 yt4 sc4, fn := ⟨_, _, _, _, _, _, _, _, _, _, _, _, _, _, li4, ci4⟩ }
    ec_InvalidRights := ⟨ga4, gg4, eb4, hd4, ca4, cn4, xt4, cm4⟩
    kit_InvalidRights_InvalidInteger := kit_of sc4 ic3 yt3 kit_InvalidRights_InvalidInteger
    kit_InvalidRights_MissingError := kit_of sc4 ic1 yt1 kit_InvalidRights_MissingError
    kit_InvalidRights_RefusedError := kit_of sc4 ic2 yt2 kit_InvalidRights_RefusedError
    kit_InvalidInteger_MissingError := kit_of sc3 ic1 yt1 kit_InvalidInteger_MissingError
    kit_InvalidInteger_RefusedError := kit_of sc3 ic2 yt2 kit_InvalidInteger_RefusedError
    exm_InvalidInteger_InvalidRights := exm_of eb4 ic4 yt4 exm_InvalidInteger_InvalidRights
    c_LETTERS := ⟨_, PySem.W.mg_of X G q0, _, rfl⟩
    c_ALL_DIGIT := ⟨_, PySem.W.mg_of X G q1, _, rfl⟩
    c_DIGITS := ⟨_, PySem.W.mg_of X G q2, rfl⟩
    kd_DIGITS := ⟨_, _, kl2, ky2, ks2⟩
    ms_DIGITS := fun z hz => FR.ns_miss (ks := ["", "x", "w", "wx", "xw", "r", "rx", "xr", "rw", "wr", "rwx", "rxw", "wrx", "wxr", "xrw", "xwr"]) kl2 kq2 hz
    at_DIGITS_ := ⟨_, _, _, kl2, ky2, kv2_0, _, rfl⟩
    at_DIGITS_x := ⟨_, _, _, kl2, ky2, kv2_1, _, rfl⟩
    at_DIGITS_w := ⟨_, _, _, kl2, ky2, kv2_2, _, rfl⟩
    at_DIGITS_wx := ⟨_, _, _, kl2, ky2, kv2_3, _, rfl⟩
    at_DIGITS_xw := ⟨_, _, _, kl2, ky2, kv2_4, _, rfl⟩
    at_DIGITS_r := ⟨_, _, _, kl2, ky2, kv2_5, _, rfl⟩
    at_DIGITS_rx := ⟨_, _, _, kl2, ky2, kv2_6, _, rfl⟩
    at_DIGITS_xr := ⟨_, _, _, kl2, ky2, kv2_7, _, rfl⟩
    at_DIGITS_rw := ⟨_, _, _, kl2, ky2, kv2_8, _, rfl⟩
    at_DIGITS_wr := ⟨_, _, _, kl2, ky2, kv2_9, _, rfl⟩
    at_DIGITS_rwx := ⟨_, _, _, kl2, ky2, kv2_10, _, rfl⟩
    at_DIGITS_rxw := ⟨_, _, _, kl2, ky2, kv2_11, _, rfl⟩
    at_DIGITS_wrx := ⟨_, _, _, kl2, ky2, kv2_12, _, rfl⟩
    at_DIGITS_wxr := ⟨_, _, _, kl2, ky2, kv2_13, _, rfl⟩
    at_DIGITS_xrw := ⟨_, _, _, kl2, ky2, kv2_14, _, rfl⟩
    at_DIGITS_xwr := ⟨_, _, _, kl2, ky2, kv2_15, _, rfl⟩
    c_WORDS := ⟨_, PySem.W.mg_of X G q3, rfl⟩
    tu_WORDS := ⟨_, _, _, kl3, ku3, kd3, kz3, kv3⟩
    b_bool := PySem.W.mg_none_of X G z0
    b_int := PySem.W.mg_none_of X G z1
    b_isinstance := PySem.W.mg_none_of X G z2
    b_len := PySem.W.mg_none_of X G z3
    b_list := PySem.W.mg_none_of X G z4
    b_max := PySem.W.mg_none_of X G z5
    b_min := PySem.W.mg_none_of X G z6
    b_range := PySem.W.mg_none_of X G z7
    b_repr := PySem.W.mg_none_of X G z8
    b_set := PySem.W.mg_none_of X G z9
    b_str := PySem.W.mg_none_of X G z10 }
  intro base _ _ tb0 tb1 hne
  have L0 : FR.FunL K "_law_right" "_law_right" s_right _ cr14 := ⟨⟨_, _, _, _, _, _, _, _, l14⟩, c14⟩
  have L1 : FR.FunL K "law" "law" s_law _ cr15 := ⟨⟨_, _, _, _, _, _, _, _, l15⟩, c15⟩
  have TB0 : TBs base mg cr14 Pr14 ("_law_right" ++ ".<locals>." ++ "<lambda>") [(Pr14, ("_law_right" ++ ".<locals>." ++ "<lambda>" : Str)), (Pr15, ("law" ++ ".<locals>." ++ "<lambda>" : Str))] := ⟨tb0, List.mem_cons_self, fun p hp e => by
    simp only [List.mem_cons, List.not_mem_nil, or_false] at hp
    rcases hp with rfl | rfl
    · rfl
    · exact absurd e.symm hne⟩
  have TB1 : TBs base mg cr15 Pr15 ("law" ++ ".<locals>." ++ "<lambda>") [(Pr14, ("_law_right" ++ ".<locals>." ++ "<lambda>" : Str)), (Pr15, ("law" ++ ".<locals>." ++ "<lambda>" : Str))] := ⟨tb1, List.mem_cons_of_mem _ List.mem_cons_self, fun p hp e => by
    simp only [List.mem_cons, List.not_mem_nil, or_false] at hp
    rcases hp with rfl | rfl
    · exact absurd e hne
    · rfl⟩
  exact ok_law T (ok_right T L0 TB0) L1 TB1
end K09
open PySem PySem.W PyProof.Rows
set_option maxHeartbeats 0 in
theorem PySem.Challenge.cw_filerights_k09_rights_refused_holds : PySem.Challenge.rw_filerights_k09_rights_refused.Holds := by
  w_on; o_law; k_head; (case hw => w_witness2)
  k_fill
  refine FR.walk_ofTG (l := PySem.Challenge.rw_filerights_k09_rights_refused) (n := 63) rfl (by decide) rfl (k := 11) ⟨rfl, by decide, by decide⟩ (fun w h Y => PySem.W.km_in_of Y) ?F
  case F =>
    intro w mg fa h Y KX G hmg
    refine' FR.lawG_mk KX (PySem.W.km_tabs_of Y) ?o1 ?o2 ?e1 ?e2 ?dr ?dl ?mr ?ml ?nr ?nl ?hne ?F2 (spF := K09.spLaw) (q1 := ("_law_right" ++ ".<locals>." ++ "<lambda>" : Str)) (q2 := ("law" ++ ".<locals>." ++ "<lambda>" : Str)) ?hs
    (case hs => exact fun H a ns hl h1 h2 hS => ⟨a, ns, rfl, hS, hl, fun p hp => by
      simp only [List.mem_cons, List.not_mem_nil, or_false] at hp
      rcases hp with rfl | rfl
      · exact LamX.TabS.nil h1
      · exact LamX.TabS.nil h2, fun _ => rfl⟩)
    case' F2 => refine' K09.all_mk KX G hmg ?oa0 ?opg0 ?ohd0 ?opo0 ?osa0 ?omk0 ?okc0 ?oca0 ?ocn0 ?oct0 ?ocm0 ?osf0 ?ocd0 ?omr0 ?one0 ?ona_digit0 ?onfstr0 ?onfint0 ?onfbool0 ?onfNoneType0 ?onflist0 ?onftuple0 ?onfdict0 ?ord0 ?org0 ?oic0 ?oyt0 ?oktstr0 ?oktint0 ?oktbool0 ?oktNoneType0 ?oktlist0 ?okttuple0 ?oktdict0 ?okistr0 ?orror0 ?orrand0 ?orrsub0 ?orrxor0 ?a0 ?l0 ?c0 ?k0 ?a1 ?l1 ?c1 ?k1 ?a2 ?l2 ?c2 ?k2 ?a3 ?l3 ?c3 ?k3 ?a4 ?l4 ?c4 ?k4 ?a5 ?l5 ?c5 ?k5 ?a6 ?l6 ?c6 ?k6 ?a7 ?l7 ?c7 ?k7 ?a8 ?l8 ?c8 ?k8 ?a9 ?l9 ?c9 ?k9 ?a10 ?l10 ?c10 ?k10 ?a11 ?l11 ?c11 ?k11 ?a12 ?l12 ?c12 ?k12 ?a13 ?l13 ?c13 ?k13 ?a14 ?l14 ?c14 ?k14 ?a15 ?l15 ?c15 ?k15 ?a16 ?t16 ?l16 ?c16 ?k16 ?dl16 ?dd16 ?dv16 ?a17 ?px17 ?pf17 ?l17 ?c17 ?k17 ?a18 ?px18 ?pf18 ?l18 ?c18 ?k18 ?a19 ?pg19 ?pt19 ?px19 ?l19 ?c19 ?k19 ?a20 ?t20 ?l20 ?c20 ?k20 ?a21 ?t21 ?l21 ?c21 ?k21 ?a22 ?t22 ?l22 ?c22 ?k22 ?a23 ?t23 ?l23 ?c23 ?k23 ?a24 ?t24 ?l24 ?c24 ?k24 ?a25 ?t25 ?l25 ?c25 ?k25 ?a27 ?t27 ?l27 ?c27 ?k27 ?a28 ?t28 ?l28 ?c28 ?k28 ?ka0 ?ka1 ?ka2 ?ka3 ?ka4 ?ic0 ?yt0 ?ic1 ?yt1 ?ic2 ?yt2 ?xl3 ?sa3 ?ga3 ?gg3 ?nb3 ?in3 ?ti3 ?li3 ?ci3 ?kc3 ?eb3 ?yt3 ?hd3 ?ic3 ?sc3 ?ca3 ?cn3 ?xt3 ?cm3 ?xl4 ?sa4 ?ga4 ?gg4 ?nb4 ?in4 ?ti4 ?li4 ?ci4 ?kc4 ?eb4 ?yt4 ?hd4 ?ic4 ?sc4 ?ca4 ?cn4 ?xt4 ?cm4 ?kit_InvalidRights_InvalidInteger ?kit_InvalidRights_MissingError ?kit_InvalidRights_RefusedError ?kit_InvalidInteger_MissingError ?kit_InvalidInteger_RefusedError ?exm_InvalidInteger_InvalidRights ?q0 ?q1 ?q2 ?kl2 ?ky2 ?ks2 ?kq2 ?kv2_0 ?kv2_1 ?kv2_2 ?kv2_3 ?kv2_4 ?kv2_5 ?kv2_6 ?kv2_7 ?kv2_8 ?kv2_9 ?kv2_10 ?kv2_11 ?kv2_12 ?kv2_13 ?kv2_14 ?kv2_15 ?q3 ?kl3 ?ku3 ?kd3 ?kz3 ?kv3 ?z0 ?z1 ?z2 ?z3 ?z4 ?z5 ?z6 ?z7 ?z8 ?z9 ?z10
    (case oa0 => k_is)
    (case opg0 => k_is)
    (case ohd0 => k_is)
    (case opo0 => k_is)
    (case osa0 => k_is)
    (case omk0 => first | k_is | exact (by rfl) | exact FR.size_le (by decide) | decide | (repeat (first | exact True.intro | exact .nil | refine .cons ⟨_, rfl⟩ ?_ | refine ⟨⟨_, _, rfl, rfl⟩, ?_⟩)))
    (case okc0 => k_is)
    (case oca0 => k_is)
    (case ocn0 => k_is)
    (case oct0 => k_is)
    (case ocm0 => k_is)
    (case osf0 => k_is)
    (case ocd0 => k_is)
    (case omr0 => first | k_is | exact (by rfl) | exact FR.size_le (by decide) | decide | (repeat (first | exact True.intro | exact .nil | refine .cons ⟨_, rfl⟩ ?_ | refine ⟨⟨_, _, rfl, rfl⟩, ?_⟩)))
    (case one0 => k_is)
    (case ona_digit0 => k_is)
    (case onfstr0 => k_is)
    (case onfint0 => k_is)
    (case onfbool0 => k_is)
    (case onfNoneType0 => k_is)
    (case onflist0 => k_is)
    (case onftuple0 => k_is)
    (case onfdict0 => k_is)
    (case ord0 => k_is)
    (case org0 => k_is)
    (case oic0 => k_is)
    (case oyt0 => k_is)
    (case oktstr0 => k_is)
    (case oktint0 => k_is)
    (case oktbool0 => k_is)
    (case oktNoneType0 => k_is)
    (case oktlist0 => k_is)
    (case okttuple0 => k_is)
    (case oktdict0 => k_is)
    (case okistr0 => first | k_is | kernel_rfl | rfl)
    (case orror0 => k_is)
    (case orrand0 => k_is)
    (case orrsub0 => k_is)
    (case orrxor0 => k_is)
    (case a0 => k_is)
    (case l0 => k_is)
    (case c0 => k_is)
    (case k0 => k_is)
    (case a1 => k_is)
    (case l1 => k_is)
    (case c1 => k_is)
    (case k1 => k_is)
    (case a2 => k_is)
    (case l2 => k_is)
    (case c2 => k_is)
    (case k2 => k_is)
    (case a3 => k_is)
    (case l3 => k_is)
    (case c3 => k_is)
    (case k3 => k_is)
    (case a4 => k_is)
    (case l4 => k_is)
    (case c4 => k_is)
    (case k4 => k_is)
    (case a5 => k_is)
    (case l5 => k_is)
    (case c5 => k_is)
    (case k5 => k_is)
    (case a6 => k_is)
    (case l6 => k_is)
    (case c6 => k_is)
    (case k6 => k_is)
    (case a7 => k_is)
    (case l7 => k_is)
    (case c7 => k_is)
    (case k7 => k_is)
    (case a8 => k_is)
    (case l8 => k_is)
    (case c8 => k_is)
    (case k8 => k_is)
    (case a9 => k_is)
    (case l9 => k_is)
    (case c9 => k_is)
    (case k9 => k_is)
    (case a10 => k_is)
    (case l10 => k_is)
    (case c10 => k_is)
    (case k10 => k_is)
    (case a11 => k_is)
    (case l11 => k_is)
    (case c11 => k_is)
    (case k11 => k_is)
    (case a12 => k_is)
    (case l12 => k_is)
    (case c12 => k_is)
    (case k12 => k_is)
    (case a13 => k_is)
    (case l13 => k_is)
    (case c13 => k_is)
    (case k13 => k_is)
    (case a14 => k_is)
    (case l14 => k_is)
    (case c14 => k_is)
    (case k14 => k_is)
    (case a15 => k_is)
    (case l15 => k_is)
    (case c15 => k_is)
    (case k15 => k_is)
    (case a16 => k_is)
    (case t16 => k_is)
    (case l16 => k_is)
    (case c16 => k_is)
    (case k16 => k_is)
    (case dl16 => k_is)
    (case dd16 => first | k_is | exact (by rfl) | exact FR.size_le (by decide) | decide | (repeat (first | exact True.intro | exact .nil | refine .cons ⟨_, rfl⟩ ?_ | refine ⟨⟨_, _, rfl, rfl⟩, ?_⟩)))
    (case dv16 => first | k_is | exact (by rfl) | exact FR.size_le (by decide) | decide | (repeat (first | exact True.intro | exact .nil | refine .cons ⟨_, rfl⟩ ?_ | refine ⟨⟨_, _, rfl, rfl⟩, ?_⟩)))
    (case a17 => k_is)
    (case px17 => k_is)
    (case pf17 => k_is)
    (case l17 => k_is)
    (case c17 => k_is)
    (case k17 => k_is)
    (case a18 => k_is)
    (case px18 => k_is)
    (case pf18 => k_is)
    (case l18 => k_is)
    (case c18 => k_is)
    (case k18 => k_is)
    (case a19 => k_is)
    (case pg19 => k_is)
    (case pt19 => k_is)
    (case px19 => k_is)
    (case l19 => k_is)
    (case c19 => k_is)
    (case k19 => k_is)
    (case a20 => k_is)
    (case t20 => k_is)
    (case l20 => k_is)
    (case c20 => k_is)
    (case k20 => k_is)
    (case a21 => k_is)
    (case t21 => k_is)
    (case l21 => k_is)
    (case c21 => k_is)
    (case k21 => k_is)
    (case a22 => k_is)
    (case t22 => k_is)
    (case l22 => k_is)
    (case c22 => k_is)
    (case k22 => k_is)
    (case a23 => k_is)
    (case t23 => k_is)
    (case l23 => k_is)
    (case c23 => k_is)
    (case k23 => k_is)
    (case a24 => k_is)
    (case t24 => k_is)
    (case l24 => k_is)
    (case c24 => k_is)
    (case k24 => k_is)
    (case a25 => k_is)
    (case t25 => k_is)
    (case l25 => k_is)
    (case c25 => k_is)
    (case k25 => k_is)
    (case a27 => k_is)
    (case t27 => k_is)
    (case l27 => k_is)
    (case c27 => k_is)
    (case k27 => k_is)
    (case a28 => k_is)
    (case t28 => k_is)
    (case l28 => k_is)
    (case c28 => k_is)
    (case k28 => k_is)
    (case ka0 => k_is)
    (case ka1 => k_is)
    (case ka2 => k_is)
    (case ka3 => k_is)
    (case ka4 => k_is)
    (case ic0 => k_is)
    (case yt0 => k_is)
    (case ic1 => k_is)
    (case yt1 => k_is)
    (case ic2 => k_is)
    (case yt2 => k_is)
    (case xl3 => k_is)
    (case sa3 => k_is)
    (case ga3 => k_is)
    (case gg3 => k_is)
    (case nb3 => k_is)
    (case in3 => k_is)
    (case ti3 => k_is)
    (case li3 => k_is)
    (case ci3 => k_is)
    (case kc3 => k_is)
    (case eb3 => k_is)
    (case yt3 => k_is)
    (case hd3 => k_is)
    (case ic3 => k_is)
    (case sc3 => k_is)
    (case ca3 => k_is)
    (case cn3 => k_is)
    (case xt3 => k_is)
    (case cm3 => k_is)
    (case xl4 => k_is)
    (case sa4 => k_is)
    (case ga4 => k_is)
    (case gg4 => k_is)
    (case nb4 => k_is)
    (case in4 => k_is)
    (case ti4 => k_is)
    (case li4 => k_is)
    (case ci4 => k_is)
    (case kc4 => k_is)
    (case eb4 => k_is)
    (case yt4 => k_is)
    (case hd4 => k_is)
    (case ic4 => k_is)
    (case sc4 => k_is)
    (case ca4 => k_is)
    (case cn4 => k_is)
    (case xt4 => k_is)
    (case cm4 => k_is)
    (case kit_InvalidRights_InvalidInteger => k_is)
    (case kit_InvalidRights_MissingError => k_is)
    (case kit_InvalidRights_RefusedError => k_is)
    (case kit_InvalidInteger_MissingError => k_is)
    (case kit_InvalidInteger_RefusedError => k_is)
    (case exm_InvalidInteger_InvalidRights => k_is)
    (case q0 => k_is)
    (case q1 => k_is)
    (case q2 => k_is)
    (case kl2 => k_is)
    (case ky2 => first | k_is | exact (by rfl) | exact FR.size_le (by decide) | decide | (repeat (first | exact True.intro | exact .nil | refine .cons ⟨_, rfl⟩ ?_ | refine ⟨⟨_, _, rfl, rfl⟩, ?_⟩)))
    (case ks2 => first | k_is | exact (by rfl) | exact FR.size_le (by decide) | decide | (repeat (first | exact True.intro | exact .nil | refine .cons ⟨_, rfl⟩ ?_ | refine ⟨⟨_, _, rfl, rfl⟩, ?_⟩)))
    (case kq2 => first | k_is | exact (by rfl) | exact FR.size_le (by decide) | decide | (repeat (first | exact True.intro | exact .nil | refine .cons ⟨_, rfl⟩ ?_ | refine ⟨⟨_, _, rfl, rfl⟩, ?_⟩)))
    (case kv2_0 => first | k_is | exact (by rfl) | exact FR.size_le (by decide) | decide | (repeat (first | exact True.intro | exact .nil | refine .cons ⟨_, rfl⟩ ?_ | refine ⟨⟨_, _, rfl, rfl⟩, ?_⟩)))
    (case kv2_1 => first | k_is | exact (by rfl) | exact FR.size_le (by decide) | decide | (repeat (first | exact True.intro | exact .nil | refine .cons ⟨_, rfl⟩ ?_ | refine ⟨⟨_, _, rfl, rfl⟩, ?_⟩)))
    (case kv2_2 => first | k_is | exact (by rfl) | exact FR.size_le (by decide) | decide | (repeat (first | exact True.intro | exact .nil | refine .cons ⟨_, rfl⟩ ?_ | refine ⟨⟨_, _, rfl, rfl⟩, ?_⟩)))
    (case kv2_3 => first | k_is | exact (by rfl) | exact FR.size_le (by decide) | decide | (repeat (first | exact True.intro | exact .nil | refine .cons ⟨_, rfl⟩ ?_ | refine ⟨⟨_, _, rfl, rfl⟩, ?_⟩)))
    (case kv2_4 => first | k_is | exact (by rfl) | exact FR.size_le (by decide) | decide | (repeat (first | exact True.intro | exact .nil | refine .cons ⟨_, rfl⟩ ?_ | refine ⟨⟨_, _, rfl, rfl⟩, ?_⟩)))
    (case kv2_5 => first | k_is | exact (by rfl) | exact FR.size_le (by decide) | decide | (repeat (first | exact True.intro | exact .nil | refine .cons ⟨_, rfl⟩ ?_ | refine ⟨⟨_, _, rfl, rfl⟩, ?_⟩)))
    (case kv2_6 => first | k_is | exact (by rfl) | exact FR.size_le (by decide) | decide | (repeat (first | exact True.intro | exact .nil | refine .cons ⟨_, rfl⟩ ?_ | refine ⟨⟨_, _, rfl, rfl⟩, ?_⟩)))
    (case kv2_7 => first | k_is | exact (by rfl) | exact FR.size_le (by decide) | decide | (repeat (first | exact True.intro | exact .nil | refine .cons ⟨_, rfl⟩ ?_ | refine ⟨⟨_, _, rfl, rfl⟩, ?_⟩)))
    (case kv2_8 => first | k_is | exact (by rfl) | exact FR.size_le (by decide) | decide | (repeat (first | exact True.intro | exact .nil | refine .cons ⟨_, rfl⟩ ?_ | refine ⟨⟨_, _, rfl, rfl⟩, ?_⟩)))
    (case kv2_9 => first | k_is | exact (by rfl) | exact FR.size_le (by decide) | decide | (repeat (first | exact True.intro | exact .nil | refine .cons ⟨_, rfl⟩ ?_ | refine ⟨⟨_, _, rfl, rfl⟩, ?_⟩)))
    (case kv2_10 => first | k_is | exact (by rfl) | exact FR.size_le (by decide) | decide | (repeat (first | exact True.intro | exact .nil | refine .cons ⟨_, rfl⟩ ?_ | refine ⟨⟨_, _, rfl, rfl⟩, ?_⟩)))
    (case kv2_11 => first | k_is | exact (by rfl) | exact FR.size_le (by decide) | decide | (repeat (first | exact True.intro | exact .nil | refine .cons ⟨_, rfl⟩ ?_ | refine ⟨⟨_, _, rfl, rfl⟩, ?_⟩)))
    (case kv2_12 => first | k_is | exact (by rfl) | exact FR.size_le (by decide) | decide | (repeat (first | exact True.intro | exact .nil | refine .cons ⟨_, rfl⟩ ?_ | refine ⟨⟨_, _, rfl, rfl⟩, ?_⟩)))
    (case kv2_13 => first | k_is | exact (by rfl) | exact FR.size_le (by decide) | decide | (repeat (first | exact True.intro | exact .nil | refine .cons ⟨_, rfl⟩ ?_ | refine ⟨⟨_, _, rfl, rfl⟩, ?_⟩)))
    (case kv2_14 => first | k_is | exact (by rfl) | exact FR.size_le (by decide) | decide | (repeat (first | exact True.intro | exact .nil | refine .cons ⟨_, rfl⟩ ?_ | refine ⟨⟨_, _, rfl, rfl⟩, ?_⟩)))
    (case kv2_15 => first | k_is | exact (by rfl) | exact FR.size_le (by decide) | decide | (repeat (first | exact True.intro | exact .nil | refine .cons ⟨_, rfl⟩ ?_ | refine ⟨⟨_, _, rfl, rfl⟩, ?_⟩)))
    (case q3 => k_is)
    (case kl3 => k_is)
    (case ku3 => first | k_is | exact (by rfl) | exact FR.size_le (by decide) | decide | (repeat (first | exact True.intro | exact .nil | refine .cons ⟨_, rfl⟩ ?_ | refine ⟨⟨_, _, rfl, rfl⟩, ?_⟩)))
    (case kd3 => first | k_is | exact (by rfl) | exact FR.size_le (by decide) | decide | (repeat (first | exact True.intro | exact .nil | refine .cons ⟨_, rfl⟩ ?_ | refine ⟨⟨_, _, rfl, rfl⟩, ?_⟩)))
    (case kz3 => first | k_is | exact (by rfl) | exact FR.size_le (by decide) | decide | (repeat (first | exact True.intro | exact .nil | refine .cons ⟨_, rfl⟩ ?_ | refine ⟨⟨_, _, rfl, rfl⟩, ?_⟩)))
    (case kv3 => first | k_is | exact (by rfl) | exact FR.size_le (by decide) | decide | (repeat (first | exact True.intro | exact .nil | refine .cons ⟨_, rfl⟩ ?_ | refine ⟨⟨_, _, rfl, rfl⟩, ?_⟩)))
    (case z0 => k_is)
    (case z1 => k_is)
    (case z2 => k_is)
    (case z3 => k_is)
    (case z4 => k_is)
    (case z5 => k_is)
    (case z6 => k_is)
    (case z7 => k_is)
    (case z8 => k_is)
    (case z9 => k_is)
    (case z10 => k_is)
    (case o1 => k_is)
    (case o2 => k_is)
    (case e1 => rfl)
    (case e2 => rfl)
    (case dr => first | k_is | kernel_rfl)
    (case dl => first | k_is | kernel_rfl)
    (case mr => first | rfl | decide)
    (case ml => first | rfl | decide)
    (case nr => first | kernel_rfl | rfl)
    (case nl => first | kernel_rfl | rfl)
    (case hne => decide)
