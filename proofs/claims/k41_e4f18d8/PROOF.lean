import PyProof.Rows.All
import Wide.All
import OpenK.AllK
import Wide.FinOn
import HandS.ForMost
import HandS.IsInst
import HandS.Defaults
import HandS.StrMore
import HandS.Flow
import HandS.Codes
import HandS.EndBits
import HandS.Walk
import HandS.Replace
import HandS.Star
import HandS.TupLe
import HandS.ForExc
import HandS.TryMany
import HandS.ExcIs
import HandS.ExcField
import KE.OsGo
import KE.KExcIs
import HandS.Deep
import PyProof.EqKinds
import HandS.SlotsOwn
import KE.KOpsOwn
import HandS.Iter
import HandS.More
import HandS.SetTxt0
import HandS.Zip
import HandS.Conv
import PyProof.ListStr
import HandS.ReplaceDef
import HandS.ReplaceLit
import HandS.ReplaceList
import PyProof.Rows.Range3
import HandS.ClsMeth
import PyProof.P3In
import HandS.TupAny
import HandS.Lambda
import PyProof.CallFns
import PyProof.NeData
import HandS.EndTab
import KE.KUnpackStar
import HandS.DictTup
import KE.KDictList
import KE.KDictItemsList
import HandS.NoneIn
import HandS.Property
import HandS.MakeKwOnly
import PySem.Challenge.RW_filerights_k41_values_that_are_deeds
set_option Elab.async false
set_option linter.all false
set_option maxRecDepth 100000
/-! own lemmas over the hand layer: what a def's body holds of the heap -/
namespace FR
open PySem PySem.Spec PyProof.Rows L2 TL
/-- all that was tracked, other than at M, is as it was -/
def Keep (M : List Addr) (H H' : Hp) : Prop := ∀ b o, H b = some o → b ∉ M → H' b = some o
theorem Keep.refl {M : List Addr} {H : Hp} : Keep M H H := fun _ _ h _ => h
theorem Keep.same {H H' : Hp} (k : Keep [] H H') : Same H H' := fun b o h => k b o h (by simp)
theorem Keep.of_same {H H' : Hp} (k : Same H H') : Keep [] H H' := fun b o h _ => k b o h
theorem Keep.free {H H' : Hp} (k : Keep [] H H') {p : Addr} (h : H' p = none) : H p = none := k.same.free h
/-- a body's heap: H0 at its entry, M what it may change, L what it holds -/
structure Ow (H0 : Hp) (M : List Addr) (H : Hp) (L : List (Addr × HO)) : Prop where
  keep : ∀ b o, H0 b = some o → b ∉ M → H b = some o
  has : ∀ p ∈ L, H p.1 = some p.2
  nd : (L.map (·.1)).Nodup
  fr : ∀ p ∈ L, H0 p.1 = none ∨ p.1 ∈ M
section
variable {H0 H H' : Hp} {M : List Addr} {L : List (Addr × HO)} {a p : Addr} {o o' : HO} {K : PySem.W.Frag} {xs : List V}
theorem Ow.start0 : Ow H [] H [] := ⟨fun _ _ h _ => h, fun _ h => by simp at h, by simp, fun _ h => by simp at h⟩
theorem Ow.start1 (h : H a = some o) : Ow H [a] H [(a, o)] := ⟨fun _ _ h _ => h, fun p hp => by simp at hp; subst hp; exact h, by simp, fun p hp => by simp at hp; subst hp; exact .inr (by simp)⟩
theorem Ow.get (W : Ow H0 M H L) (i : Nat) (e : L[i]? = some (a, o)) : H a = some o := W.has _ (List.mem_of_getElem? e)
theorem Ow.new (W : Ow H0 M H L) (h : H p = none) : Ow H0 M (upd H p o) ((p, o) :: L) where
  keep := fun b u e hb => by
    rw [upd_ne (ne_of_none (W.keep b u e hb) h)]
    exact W.keep b u e hb
  has := fun q hq => by
    rcases List.mem_cons.mp hq with rfl | hq
    · exact upd_same
    · rw [upd_ne (ne_of_none (W.has q hq) h)]
      exact W.has q hq
  nd := by
    rw [List.map_cons, List.nodup_cons]
    refine ⟨fun hm => ?_, W.nd⟩
    obtain ⟨q, hq, e⟩ := List.mem_map.mp hm
    have := W.has q hq
    rw [show q.1 = p from e, h] at this
    cases this
  fr := fun q hq => by
    rcases List.mem_cons.mp hq with rfl | hq
    · by_cases hm : p ∈ M
      · exact .inr hm
      · cases e : H0 p with
        | none => exact .inl rfl
        | some u =>
          have := W.keep p u e hm
          rw [h] at this
          cases this
    · exact W.fr q hq
theorem nd_of {α β : Type} [DecidableEq α] : ∀ {L : List (α × β)} {i : Nat} {x : α × β} {q : α × β}, (L.map (·.1)).Nodup → L[i]? = some x → q ∈ L → q.1 = x.1 → q = x
  | [], i, x, q, _, e, _, _ => by simp at e
  | y :: L, 0, x, q, hn, e, hq, h => by
    have e' : y = x := Option.some.inj e
    subst e'
    rcases List.mem_cons.mp hq with r | hq
    · exact r
    · rw [List.map_cons, List.nodup_cons] at hn
      exact absurd (List.mem_map.mpr ⟨q, hq, h⟩) hn.1
  | y :: L, i + 1, x, q, hn, e, hq, h => by
    rw [List.map_cons, List.nodup_cons] at hn
    have e' : L[i]? = some x := e
    rcases List.mem_cons.mp hq with r | hq
    · subst r
      exact absurd (List.mem_map.mpr ⟨x, List.mem_of_getElem? e', h.symm⟩) hn.1
    · exact nd_of hn.2 e' hq h
theorem map_set_fst {α β : Type} : ∀ {L : List (α × β)} {i : Nat} {a : α} {o o' : β}, L[i]? = some (a, o) → (L.set i (a, o')).map (·.1) = L.map (·.1)
  | [], i, a, o, o', e => by simp at e
  | y :: L, 0, a, o, o', e => by
    have e' : y = (a, o) := Option.some.inj e
    subst e'
    rfl
  | y :: L, i + 1, a, o, o', e => by
    have e' : L[i]? = some (a, o) := e
    rw [List.set_cons_succ, List.map_cons, List.map_cons, map_set_fst e']
theorem Ow.any1 (W : Ow H0 M H L) (i : Nat) (e : L[i]? = some (a, o)) (k : Keep [a] H H') (h : H' a = some o') : Ow H0 M H' (L.set i (a, o')) where
  keep := fun b u eb hb => by
    have z := W.keep b u eb hb
    refine k b u z ?_
    intro hm
    have hm' : b = a := by simpa using hm
    subst hm'
    rcases W.fr _ (List.mem_of_getElem? e) with r | r
    · rw [show (b, o).1 = b from rfl, eb] at r; cases r
    · exact hb r
  has := fun q hq => by
    rcases List.mem_or_eq_of_mem_set hq with hq | rfl
    · by_cases ha : q.1 = a
      · have := nd_of (q := q) (by rw [map_set_fst (o' := o') e]; exact W.nd) (show (L.set i (a, o'))[i]? = some (a, o') by
          have hi : i < L.length := (List.getElem?_eq_some_iff.mp e).1
          rw [List.getElem?_set_self hi]) (by assumption) ha
        subst this
        exact h
      · exact k _ _ (W.has q hq) (by simpa using ha)
    · exact h
  nd := by rw [map_set_fst e]; exact W.nd
  fr := fun q hq => by
    rcases List.mem_or_eq_of_mem_set hq with hq | rfl
    · exact W.fr q hq
    · exact (W.fr (a, o) (List.mem_of_getElem? e) : H0 a = none ∨ a ∈ M)
theorem keep_upd {H : Hp} {a : Addr} {o : HO} : Keep [a] H (upd H a o) := fun b u e hb => by
  rw [upd_ne (by simpa using hb)]
  exact e
theorem Ow.set (W : Ow H0 M H L) (i : Nat) (e : L[i]? = some (a, o)) : Ow H0 M (upd H a o') (L.set i (a, o')) := W.any1 i e keep_upd upd_same
/-- a call that changed nothing -/
theorem Ow.call0 (W : Ow H0 M H L) (k : Keep [] H H') : Ow H0 M H' L where
  keep := fun b u e hb => k b u (W.keep b u e hb) (by simp)
  has := fun q hq => k _ _ (W.has q hq) (by simp)
  nd := W.nd
  fr := W.fr
/-- .. and handed back a new object -/
theorem Ow.res (W : Ow H0 M H L) (W' : Ow H0 M H' L) (hp : H p = none) (h : H' p = some o) : Ow H0 M H' ((p, o) :: L) where
  keep := W'.keep
  has := fun q hq => by
    rcases List.mem_cons.mp hq with rfl | hq
    · exact h
    · exact W'.has q hq
  nd := by
    rw [List.map_cons, List.nodup_cons]
    refine ⟨fun hm => ?_, W.nd⟩
    obtain ⟨q, hq, e⟩ := List.mem_map.mp hm
    have := W.has q hq
    rw [show q.1 = p from e, hp] at this
    cases this
  fr := fun q hq => by
    rcases List.mem_cons.mp hq with rfl | hq
    · by_cases hm : p ∈ M
      · exact .inr hm
      · cases e : H0 p with
        | none => exact .inl rfl
        | some u =>
          have := W.keep p u e hm
          rw [hp] at this
          cases this
    · exact W.fr q hq
theorem Ow.tail {q : Addr × HO} (W : Ow H0 M H (q :: L)) : Ow H0 M H L := ⟨W.keep, fun p hp => W.has p (List.mem_cons_of_mem _ hp), (List.nodup_cons.mp W.nd).2, fun p hp => W.fr p (List.mem_cons_of_mem _ hp)⟩
theorem Ow.drop (W : Ow H0 M H L) : Ow H0 M H [] := ⟨W.keep, fun _ h => by simp at h, by simp, fun _ h => by simp at h⟩
theorem Ow.seq (W : Ow H0 M H L) (h : SqL K H0 a xs) (ha : a ∉ M) : SqL K H a xs := by
  rcases h with (h | ⟨o, h⟩) | h
  · exact .inl (.inl (W.keep _ _ h ha))
  · exact .inl (.inr ⟨o, W.keep _ _ h ha⟩)
  · exact .inr h
theorem Ow.sq (W : Ow H0 M H L) (i : Nat) (e : L[i]? = some (a, .lst xs)) : SqL K H a xs := .inl (.inl (W.get i e))
theorem Ow.sqT (W : Ow H0 M H L) (i : Nat) (e : L[i]? = some (a, .tup xs)) : SqT K H a xs := .inl (.inl (W.get i e))
end
/-! ### objects that are made or changed: the heap behind is told by what it keeps -/
structure NewO (o : HO) (Q : VK) (H : Hp) : Prop where
  to : ∀ (p : Addr) (H' : Hp), H p = none → Keep [] H H' → H' p = some o → Q (.ref p) H'
structure MutO (a : Addr) (o : HO) (Q : Hp → Prop) (H : Hp) : Prop where
  to : ∀ H' : Hp, Keep [a] H H' → H' a = some o → Q H'
theorem keep_new {H : Hp} {p : Addr} {o : HO} (np : H p = none) : Keep [] H (upd H p o) := fun b u e _ => by
  rw [upd_ne (ne_of_none e np)]
  exact e
theorem NewO.all {o : HO} {Q : VK} {H : Hp} (h : NewO o Q H) : ∀ p, H p = none → Q (.ref p) (upd H p o) := fun p np => h.to p _ np (keep_new np) upd_same
theorem MutO.at {a : Addr} {o : HO} {Q : Hp → Prop} {H : Hp} (h : MutO a o Q H) : Q (upd H a o) := h.to _ keep_upd upd_same
section
variable {H0 H H' : Hp} {M : List Addr} {L : List (Addr × HO)} {a p : Addr} {o o' : HO} {G : Prop}
theorem with1 (i : Nat) (W : Ow H0 M H L) (e : L[i]? = some (a, o)) (k : Keep [a] H H') (h : H' a = some o') (g : Ow H0 M H' (L.set i (a, o')) → G) : G := g (W.any1 i e k h)
theorem withN (W : Ow H0 M H L) (np : H p = none) (k : Keep [] H H') (h : H' p = some o) (g : Ow H0 M H' ((p, o) :: L) → G) : G := g (W.res (W.call0 k) np h)
theorem with0 (W : Ow H0 M H L) (k : Keep [] H H') (g : Ow H0 M H' L → G) : G := g (W.call0 k)
end
section
variable {X : Cx} {e : Expr} {es : List Expr} {t t' : TE} {ta : TA} {pos : Pos} {K : PySem.W.Frag}
def mA (t : TA) : TA := fun σ H Q => ∃ Q0, t σ H Q0 ∧ ∀ xs H', Q0 xs H' → Q xs H'
theorem pa_m (h : PA X es ta) : PA X es (mA ta) := ⟨fun pos pins s σ H Q I hq => by
  obtain ⟨Q0, h0, hi⟩ := hq
  exact thn (h.run pos pins s σ H Q0 I h0) fun us s1 ⟨xs, H1, I1, r, q⟩ => ⟨xs, H1, I1, r, hi _ _ q⟩⟩
theorem pe_imp (h : PE X e t) (k : ∀ σ H Q, t' σ H Q → t σ H Q) : PE X e t' := ⟨fun pins s σ H Q I q => h.run pins s σ H Q I (k σ H Q q)⟩
def tLstN (t : TA) : TE := fun σ H Q => t σ H fun xs H1 => xs.length ≤ sizeLine ∧ NewO (.lst xs) Q H1
def tTupN (t : TA) : TE := fun σ H Q => t σ H fun xs H1 => xs.length ≤ sizeLine ∧ NewO (.tup xs) Q H1
theorem pe_lstN (h : PA X es ta) : PE X (.List es pos) (tLstN ta) := pe_imp (pe_lst (pa_m h)) fun σ H Q q => ⟨_, q, fun xs H1 z => ⟨z.1, z.2.all⟩⟩
theorem pe_tupN {x1} (h : PA X es ta) : PE X (.Tuple es x1 pos) (tTupN ta) := pe_imp (pe_tup (pa_m h)) fun σ H Q q => ⟨_, q, fun xs H1 z => ⟨z.1, z.2.all⟩⟩
theorem pe_dnewN : PE X (.Dict [] [] pos) (fun _ H Q => NewO (.dK []) Q H) := pe_imp pe_dnewK fun σ H Q q => q.all
def rSetN : V → V → V → Hp → (Hp → Prop) → Prop := fun o i v H Q => ∃ p xs k j, o = .ref p ∧ i = .int k ∧ H p = some (.lst xs) ∧ ixN xs.length k = some j ∧ MutO p (.lst (xs.set j v)) Q H
theorem set_listN : PSet X rSetN := fun pins s σ H o i v ov iv u Q I ro ri rv h => by
  obtain ⟨p, xs, k, j, e1, e2, hp, hj, q⟩ := h
  exact set_list pins s σ H o i v ov iv u Q I ro ri rv ⟨p, xs, k, j, e1, e2, hp, hj, q.at⟩
def rSlN (K : PySem.W.Frag) : V → Option Int → Option Int → Hp → VK → Prop := fun x lo hi H Q => ∃ a xs, x = .ref a ∧ SqL K H a xs ∧ NewO (.lst (cutV xs lo hi)) Q H
theorem sl_listN : SlR X (rSlN X.K) := fun pins s σ H x v vl vu lo hi sl Q I rx hs pl pu h => by
  obtain ⟨a, xs, e, hx, q⟩ := h
  exact sl_list pins s σ H x v vl vu lo hi sl Q I rx hs pl pu ⟨a, xs, e, hx, q.all⟩
def rCatN : R2 := fun x y H Q => ∃ l b xs zs, x = .ref l ∧ y = .ref b ∧ H l = some (.lst xs) ∧ H b = some (.lst zs) ∧ xs.length + zs.length ≤ sizeLine ∧ NewO (.lst (xs ++ zs)) Q H
theorem op_catN : OpR X (binaryOp .Add) rCatN := fun pins s σ H x y v u Q I rx ry h => by
  obtain ⟨l, b, xs, zs, e1, e2, hl, hb, hz, q⟩ := h
  exact op_cat pins s σ H x y v u Q I rx ry ⟨l, b, xs, zs, e1, e2, hl, hb, hz, q.all⟩
def rAppN : V → List V → Hp → VK → Prop := fun x vs H Q => ∃ l xs y, x = .ref l ∧ vs = [y] ∧ H l = some (.lst xs) ∧ xs.length < sizeLine ∧ MutO l (.lst (xs ++ [y])) (Q .non) H
theorem mt_appN : MtR X "list.append" rAppN := fun pins s σ H x xs v us Q I rx rv h => by
  obtain ⟨l, ys, y, e1, e2, hl, hz, q⟩ := h
  exact mt_append pins s σ H x xs v us Q I rx rv ⟨l, ys, y, e1, e2, hl, hz, q.at⟩
def rSplN : V → List V → Hp → VK → Prop := fun x xs H Q => ∃ a b, x = .str a ∧ xs = [.str b] ∧ (b.length == 0) = false ∧ a.length + 2 ≤ sizeLine ∧ NewO (.lst ((Txt.split a b).map V.str)) Q H
theorem mt_splN : MtR X "str.split" rSplN := fun pins s σ H x xs v us Q I rx rv h => by
  obtain ⟨a, b, e1, e2, h1, h2, q⟩ := h
  exact mt_split pins s σ H x xs v us Q I rx rv ⟨a, b, e1, e2, h1, h2, q.all⟩
def rLofN (K : PySem.W.Frag) : List V → Hp → VK → Prop := fun xs H Q => ∃ p ys, xs = [.ref p] ∧ (SqL K H p ys ∨ SqT K H p ys) ∧ NewO (.lst ys) Q H
theorem call_lofN : CallR X (.type "list") (rLofN X.K) := fun pins s σ H xs us Q I r h => by
  obtain ⟨p, ys, e, hs, q⟩ := h
  exact call_list_of pins s σ H xs us Q I r ⟨p, ys, e, hs, q.all⟩
end
/-! ### calls with keywords of a def without defaults by place -/
section
variable {K : PySem.W.Frag} {x qual : Str} {params : Arguments} {body : List Stmt} {scope : Scope} {kws : List (Str × V)} {f : Addr} {fd : FuncData} {ps : List Str}
theorem kb0 (F : FunD K x qual params body scope [] kws f fd) (n : Nat) (ks : List Str) (ms : List (Str × V)) (g : {α : Type} → List α → List α → List α → List α) (hk : kws ≠ []) (hms : ∀ q ∈ ms, q ∈ kws)
    (hrel : ∀ {vs mz zs : List V} {us mv ws : List Value}, Vals vs us → Vals mz mv → Vals zs ws → Vals (g vs mz zs) (g us mv ws))
    (h : ∀ (D : Addr) (doc pm : Value) (an : Option Addr) (cdv ct : Value) (us mv ws : List Value), us.length = n → mv.length = ms.length → ws.length = ks.length →
      KwChain D ((ms.map (·.1)).zip mv) (bindArgs (PySem.W.fnOf x qual params body scope .none (.ref D) doc pm an cdv ct) ⟨us, ks.zip ws⟩) (ps.zip (g us mv ws))) :
    ∃ mv : List Value, KBn K fd ps n ks (fun us ws => g us mv ws) (fun vs zs => g vs (ms.map (·.2)) zs) := by
  obtain ⟨oc, od, dV, kV, doc, pm, an, cdv, ct, osl, rfl, lk, hcd, hD, hK⟩ := F.ex
  rcases hD with ⟨_, rfl⟩ | ⟨e, _⟩
  · rcases hK with e | ⟨D, rfl, hq⟩
    · exact absurd e hk
    · obtain ⟨mv, hl, rk, hks⟩ := kwd_vals (ms := ms) fun q hm => hq q (hms q hm)
      exact ⟨mv, fun s us ws X l1 l2 => BindsTo.of_looks fun M => KwChain.looks X hks (h D doc pm an cdv ct us mv ws l1 hl l2), fun r1 r2 => hrel r1 rk r2⟩
  · exact absurd rfl e
end
section
variable {X : Cx} {CX : CXT} {k : Nat} {f : Addr} {fd : FuncData} {ps ks : List Str} {sp : Sp} {E : XK} {x : Str} {p pos : Pos} {kws : List Keyword} {tk : TA} {g : List Value → List Value → List Value} {gV : List V → List V → List V}
theorem pe_callN0 (F : FnOk X.prog X.w X.K X.mg X.base CX k f fd ps sp) (hr : Room k X.A) (hg : Gl X x) (hm : X.mg x = some (.ref f)) (hk : PySem.W.keepIn X.K (.ref f) = true) (hb : KBn X.K fd ps 0 ks g gV) (hx : Passes CX X E) (hkw : PK X kws tk)
    (hall : (backToKw pos (keywordEach kws X.env)).all (·.1.isSome) = true := by rfl) (hks : (backToKw pos (keywordEach kws X.env)).filterMap (·.1) = ks := by rfl) (hdb : (x == ("__debug__" : Str)) = false := by decide)
    (hpl : ((backTo pos (starEach [] X.env)).any (·.1) || (backToKw pos (keywordEach kws X.env)).any (·.1.isNone)) = false := by rfl) : PE X (.Call (.Name x p) [] kws pos) (tCallN 0 ks.length sp gV E tNil tk) := ⟨fun pins s σ H Q I h => by
  refine wpAny_Call_Name_kw (ld_glob I hg hm (PySem.W.callWith_KW0 (h₀ := X.base) I.ok.mod.kin hk hall ?_ hpl) hdb)
  refine thn (hkw.run pos pins s σ H _ I h) fun ws s2 hz => ?_
  obtain ⟨zs, H2, I2, rz, l1, l2, q2⟩ := hz
  refine ⟨I2.kIn, ?_⟩
  rw [hks]
  exact run_fnN (us := []) (vs := []) F hr hb hx I2 .nil rz rfl l2 q2⟩
end
/-! ### tests -/
section
variable {A B : Prop}
theorem ifT {b : Bool} (h : b = true) (a : A) : if b = true then A else B := by rw [if_pos h]; exact a
theorem ifF {b : Bool} (h : b = false) (a : B) : if b = true then A else B := by rw [h, if_neg Bool.false_ne_true]; exact a
theorem ifB {b : Bool} (h1 : b = true → A) (h2 : b = false → B) : if b = true then A else B := by
  cases b
  · exact ifF rfl (h2 rfl)
  · exact ifT rfl (h1 rfl)
theorem ifNB {b : Bool} (h1 : b = false → A) (h2 : b = true → B) : if (!b) = true then A else B := by
  cases b
  · exact ifT rfl (h1 rfl)
  · exact ifF rfl (h2 rfl)
theorem ifD {p : Prop} [Decidable p] (h1 : p → A) (h2 : ¬ p → B) : if decide p = true then A else B := by
  by_cases h : p
  · exact ifT (decide_eq_true h) (h1 h)
  · exact ifF (decide_eq_false h) (h2 h)
theorem ifN {p : Prop} [Decidable p] (h1 : ¬ p → A) (h2 : p → B) : if (!decide p) = true then A else B := by
  by_cases h : p
  · exact ifF (by rw [decide_eq_true h]; rfl) (h2 h)
  · exact ifT (by rw [decide_eq_false h]; rfl) (h1 h)
theorem ifQ {b : Bool} {p : Prop} [Decidable p] (h : b = decide p) (h1 : p → A) (h2 : ¬ p → B) : if b = true then A else B := by
  rw [h]
  exact ifD h1 h2
theorem ifVI {i j : Int} (h1 : i = j → A) (h2 : i ≠ j → B) : if decide (V.int i = V.int j) = true then A else B := ifD (fun h => h1 (V.int.inj h)) fun h => h2 fun e => h (by rw [e])
theorem ifVIn {i j : Int} (h1 : i ≠ j → A) (h2 : i = j → B) : if (!decide (V.int i = V.int j)) = true then A else B := ifN (fun h => h1 fun e => h (by rw [e])) fun h => h2 (V.int.inj h)
theorem ifVS {i j : Str} (h1 : i = j → A) (h2 : i ≠ j → B) : if decide (V.str i = V.str j) = true then A else B := ifD (fun h => h1 (V.str.inj h)) fun h => h2 fun e => h (by rw [e])
theorem ifVSn {i j : Str} (h1 : i ≠ j → A) (h2 : i = j → B) : if (!decide (V.str i = V.str j)) = true then A else B := ifN (fun h => h1 fun e => h (by rw [e])) fun h => h2 (V.str.inj h)
end
/-! ### isinstance -/
theorem isi {K : PySem.W.Frag} {H : Hp} {Q : VK} {x : V} {t c : String} {b : Bool} (ty : TyX K H x (.type t)) (k : kitB t c = some b) (q : Q (.bl b) H) : rIsi K [x, .ty c] H Q := ⟨x, .ty c, .type t, .type c, b, rfl, .ty c, ty, kit_ty k, q⟩
theorem call_isiK {X : Cx} {K : PySem.W.Frag} (h : X.K = K) : CallR X (.builtin "isinstance") (rIsi K) := h ▸ call_isi
theorem ki_int_str : kitB "int" "str" = some false := by decide +kernel
theorem ki_int_int : kitB "int" "int" = some true := by decide +kernel
theorem ki_int_bool : kitB "int" "bool" = some false := by decide +kernel
theorem ki_int_list : kitB "int" "list" = some false := by decide +kernel
theorem ki_int_tuple : kitB "int" "tuple" = some false := by decide +kernel
theorem ki_int_dict : kitB "int" "dict" = some false := by decide +kernel
theorem ki_str_str : kitB "str" "str" = some true := by decide +kernel
theorem ki_str_int : kitB "str" "int" = some false := by decide +kernel
theorem ki_str_bool : kitB "str" "bool" = some false := by decide +kernel
theorem ki_str_list : kitB "str" "list" = some false := by decide +kernel
theorem ki_str_tuple : kitB "str" "tuple" = some false := by decide +kernel
theorem ki_str_dict : kitB "str" "dict" = some false := by decide +kernel
theorem ki_bl_str : kitB "bool" "str" = some false := by decide +kernel
theorem ki_bl_int : kitB "bool" "int" = some true := by decide +kernel
theorem ki_bl_bool : kitB "bool" "bool" = some true := by decide +kernel
theorem ki_bl_list : kitB "bool" "list" = some false := by decide +kernel
theorem ki_bl_tuple : kitB "bool" "tuple" = some false := by decide +kernel
theorem ki_bl_dict : kitB "bool" "dict" = some false := by decide +kernel
theorem ki_non_str : kitB "NoneType" "str" = some false := by decide +kernel
theorem ki_non_int : kitB "NoneType" "int" = some false := by decide +kernel
theorem ki_non_bool : kitB "NoneType" "bool" = some false := by decide +kernel
theorem ki_non_list : kitB "NoneType" "list" = some false := by decide +kernel
theorem ki_non_tuple : kitB "NoneType" "tuple" = some false := by decide +kernel
theorem ki_non_dict : kitB "NoneType" "dict" = some false := by decide +kernel
theorem ki_lst_str : kitB "list" "str" = some false := by decide +kernel
theorem ki_lst_int : kitB "list" "int" = some false := by decide +kernel
theorem ki_lst_bool : kitB "list" "bool" = some false := by decide +kernel
theorem ki_lst_list : kitB "list" "list" = some true := by decide +kernel
theorem ki_lst_tuple : kitB "list" "tuple" = some false := by decide +kernel
theorem ki_lst_dict : kitB "list" "dict" = some false := by decide +kernel
theorem ki_tup_str : kitB "tuple" "str" = some false := by decide +kernel
theorem ki_tup_int : kitB "tuple" "int" = some false := by decide +kernel
theorem ki_tup_bool : kitB "tuple" "bool" = some false := by decide +kernel
theorem ki_tup_list : kitB "tuple" "list" = some false := by decide +kernel
theorem ki_tup_tuple : kitB "tuple" "tuple" = some true := by decide +kernel
theorem ki_tup_dict : kitB "tuple" "dict" = some false := by decide +kernel
theorem ki_dK_str : kitB "dict" "str" = some false := by decide +kernel
theorem ki_dK_int : kitB "dict" "int" = some false := by decide +kernel
theorem ki_dK_bool : kitB "dict" "bool" = some false := by decide +kernel
theorem ki_dK_list : kitB "dict" "list" = some false := by decide +kernel
theorem ki_dK_tuple : kitB "dict" "tuple" = some false := by decide +kernel
theorem ki_dK_dict : kitB "dict" "dict" = some true := by decide +kernel
/-- the generator of a law's numbers: at b a list of three numbers, the last at most n -/
def bagO (x y z : Int) : HO := .lst [.int x, .int y, .int z]
structure BagOk (n : Nat) (x y z : Int) : Prop where
  x0 : 0 ≤ x
  y0 : 0 ≤ y
  y1 : y < 2147483648
  z0 : 0 ≤ z
  z1 : z ≤ (n : Int)
theorem BagOk.mono {n m : Nat} {x y z : Int} (h : BagOk n x y z) (e : n ≤ m) : BagOk m x y z := ⟨h.x0, h.y0, h.y1, h.z0, by have := h.z1; omega⟩
/-- take(bag, k): a number below k; the bag is changed, by one count at the most -/
def spTake : Sp := fun vs H Q _ => ∃ (b : Addr) (k : Int) (n : Nat) (x y z : Int), vs = [.ref b, .int k] ∧ H b = some (bagO x y z) ∧ BagOk n x y z ∧ n < 1000000 ∧ 0 < k ∧ k < 1073741824 ∧
  ∀ (d x' y' z' : Int) (H' : Hp), 0 ≤ d → d < k → BagOk (n + 1) x' y' z' → Keep [b] H H' → H' b = some (bagO x' y' z') → Q (.int d) H'
theorem atI_in {α : Type} {xs : List α} {d : Int} (h0 : 0 ≤ d) (h1 : d < (xs.length : Int)) : ∃ v, atI xs d = some v ∧ v ∈ xs := by
  obtain ⟨k, rfl⟩ := Int.eq_ofNat_of_zero_le h0
  have hk : k < xs.length := by omega
  exact ⟨xs[k], atI_nat (List.getElem?_eq_getElem hk), List.getElem_mem hk⟩
theorem size_ok {n : Nat} (h : n ≤ 1000000) : n < sizeLine := Nat.lt_of_le_of_lt h (by decide)
theorem size_le {n : Nat} (h : n ≤ 1000000) : n ≤ sizeLine := Nat.le_of_lt (size_ok h)
/-! ### texts by their codes -/
theorem len_app (x y : Str) : (x ++ y).length = x.length + y.length := by rw [len_tl, len_tl, len_tl, tl_append, List.length_append]
theorem joinL_nil : ∀ ps : List (List Nat), joinL [] ps = ps.flatten
  | [] => rfl
  | [p] => by simp [joinL]
  | p :: q :: r => by
    have ih := joinL_nil (q :: r)
    show p ++ ([] ++ joinL [] (q :: r)) = _
    rw [ih]
    simp
theorem tl_joinE (ss : List Str) : tl (Txt.join (Str.ofString "") ss) = (ss.map tl).flatten := by
  rw [join_eq, tl_join, show tl (Str.ofString "") = [] by decide +kernel, joinL_nil]
theorem sum_one : ∀ {ss : List Str}, (∀ s ∈ ss, s.length = 1) → (ss.map (·.length)).sum = ss.length
  | [], _ => rfl
  | s :: r, h => by
    rw [List.map_cons, List.sum_cons, sum_one fun t ht => h t (List.mem_cons_of_mem _ ht), h s List.mem_cons_self, List.length_cons]
    omega
theorem flat_one : ∀ {ss : List Str}, (∀ s ∈ ss, s.length = 1) → (ss.map tl).flatten.length = ss.length
  | [], _ => rfl
  | s :: r, h => by
    have h1 := h s List.mem_cons_self
    rw [len_tl] at h1
    rw [List.map_cons, List.flatten_cons, List.length_append, flat_one fun t ht => h t (List.mem_cons_of_mem _ ht), List.length_cons, h1]
    omega
theorem join_one {ss : List Str} (h : ∀ s ∈ ss, s.length = 1) : (Txt.join (Str.ofString "") ss).length = ss.length := by rw [len_tl, tl_joinE, flat_one h]
theorem tl_cutS (z : Str) (lo hi : Option Int) : tl (cutS z lo hi) = ((tl z).drop (HT.sIx z.length 0 lo)).take (HT.sIx z.length z.length hi - HT.sIx z.length 0 lo) := rfl
theorem cutS_len (z : Str) (lo hi : Option Int) : (cutS z lo hi).length ≤ z.length := by
  rw [len_tl, tl_cutS, List.length_take, List.length_drop, len_tl z]
  omega
theorem starts_one (x : Str) (c : Nat) : Txt.startswith x ⟨#[c]⟩ = true ↔ (tl x)[0]? = some c := by
  unfold Txt.startswith
  rw [Bool.and_eq_true, decide_eq_true_eq]
  exact PySem.StrLaws.subAt_one x c 0
/-! ### texts of plain signs -/
def Asc (s : Str) : Prop := ∀ c ∈ tl s, c < 128
theorem Asc.app {x y : Str} (a : Asc x) (b : Asc y) : Asc (x ++ y) := fun c hc => by
  rw [tl_append] at hc
  rcases List.mem_append.mp hc with h | h
  · exact a c h
  · exact b c h
theorem Asc.cut {x : Str} (a : Asc x) (lo hi : Option Int) : Asc (cutS x lo hi) := fun c hc => a c (List.mem_of_mem_drop (List.mem_of_mem_take (by rw [tl_cutS] at hc; exact hc)))
theorem Asc.one {c : Nat} (h : c < 128) : Asc ⟨#[c]⟩ := fun d hd => by
  have : d = c := by simpa using hd
  omega
theorem Asc.of {x : Str} (h : (tl x).all (fun c => decide (c < 128)) = true) : Asc x := fun c hc => by simpa using List.all_eq_true.mp h c hc
theorem Asc.joined {S : List Nat} : ∀ {ps : List (List Nat)}, (∀ c ∈ S, c < 128) → (∀ p ∈ ps, ∀ c ∈ p, c < 128) → ∀ c ∈ joinL S ps, c < 128
  | [], _, _, c, h => by simp [joinL] at h
  | [p], _, hp, c, h => hp p List.mem_cons_self c h
  | p :: q :: r, hS, hp, c, h => by
    rcases List.mem_append.mp (show c ∈ p ++ (S ++ joinL S (q :: r)) from h) with h | h
    · exact hp p List.mem_cons_self c h
    · rcases List.mem_append.mp h with h | h
      · exact hS c h
      · exact Asc.joined hS (fun t ht => hp t (List.mem_cons_of_mem _ ht)) c h
theorem Asc.join {y : Str} {ss : List Str} (a : Asc y) (h : ∀ s ∈ ss, Asc s) : Asc (Txt.join y ss) := by
  unfold Asc
  rw [join_eq, tl_join]
  refine Asc.joined a fun p hp => ?_
  obtain ⟨s, hs, rfl⟩ := List.mem_map.mp hp
  exact h s hs
theorem joinL_len (S : List Nat) : ∀ (ps : List (List Nat)), (joinL S ps).length ≤ (ps.map (·.length)).sum + ps.length * S.length
  | [] => by simp [joinL]
  | [p] => by simp [joinL]
  | p :: q :: r => by
    have ih := joinL_len S (q :: r)
    show (p ++ (S ++ joinL S (q :: r))).length ≤ _
    rw [List.length_append, List.length_append, List.map_cons, List.sum_cons, List.length_cons, Nat.add_one_mul]
    omega
theorem join_len (y : Str) (ss : List Str) : (Txt.join y ss).length ≤ (ss.map (·.length)).sum + ss.length * y.length := by
  have h := joinL_len (tl y) (ss.map tl)
  rw [join_eq, len_tl, tl_join, len_tl y]
  rw [List.length_map, List.map_map] at h
  rw [show ss.map (fun x => x.length) = ss.map ((fun x => x.length) ∘ tl) from List.map_congr_left fun s _ => len_tl s]
  exact h
theorem sum_le {ss : List Str} {k : Nat} (h : ∀ s ∈ ss, s.length ≤ k) : (ss.map (·.length)).sum ≤ ss.length * k := by
  induction ss with
  | nil => simp
  | cons s r ih =>
    rw [List.map_cons, List.sum_cons, List.length_cons, Nat.add_one_mul]
    have h1 := h s List.mem_cons_self
    have h2 := ih fun t ht => h t (List.mem_cons_of_mem _ ht)
    omega
theorem str_ok {s : Str} (a : Asc s) : PyData.strOk s = true := by
  unfold PyData.strOk
  rw [show s.cps.all (fun x => decide (x < 0x110000)) = (tl s).all (fun x => decide (x < 0x110000)) by simp]
  exact List.all_eq_true.mpr fun c hc => decide_eq_true (Nat.lt_trans (a c hc) (by decide))
def dStrs (ws : List Str) : PyData := .list (ws.map .str)
theorem lay_strs : ∀ {ws : List Str}, (∀ s ∈ ws, Asc s) → PyData.canLayAll0 (ws.map .str) = true
  | [], _ => rfl
  | s :: r, h => by
    rw [List.map_cons, PyData.canLayAll0, PyData.canLay0, str_ok (h s List.mem_cons_self), lay_strs fun t ht => h t (List.mem_cons_of_mem _ ht)]
    rfl
theorem depth_strs : ∀ ws : List Str, PyData.depthAll (ws.map .str) = 0
  | [] => rfl
  | s :: r => by rw [List.map_cons, PyData.depthAll, PyData.depth, depth_strs r]; rfl
theorem shaped_strs {ws : List Str} (h : ∀ s ∈ ws, Asc s) : SeqAt.shaped (dStrs ws) = true := by
  unfold SeqAt.shaped dStrs
  rw [PyData.canLay0, lay_strs h, PyData.depth, depth_strs]
  rfl
theorem dpAll_strs {K : PySem.W.Frag} {H : Hp} : ∀ ws : List Str, DpAll K H (ws.map V.str) (ws.map .str)
  | [] => .nil
  | s :: r => .cons (.str s) (dpAll_strs r)
theorem dp_strs {K : PySem.W.Frag} {H : Hp} {a : Addr} {ws : List Str} (h : SqL K H a (ws.map V.str)) : Dp K H (.ref a) (dStrs ws) := .lst h (dpAll_strs ws)
theorem eqv_strs : ∀ ws : List Str, PyData.eqvAll (ws.map .str) (ws.map .str) = true
  | [] => rfl
  | s :: r => by rw [List.map_cons, PyData.eqvAll, eqv_strs r, PyData.eqv]; simp
theorem eqv_dstrs (ws : List Str) : PyData.eqv (dStrs ws) (dStrs ws) = true := by
  unfold dStrs
  rw [PyData.eqv, eqv_strs]
theorem in_strs (x : Str) : ∀ ws : List Str, inV (.str x) (ws.map V.str) = decide (x ∈ ws)
  | [] => rfl
  | s :: r => by
    have ih := in_strs x r
    unfold inV at ih ⊢
    rw [List.map_cons, List.any_cons, ih]
    show ((s == x) || decide (x ∈ r)) = _
    by_cases h : s = x
    · subst h; simp
    · simp [h, Ne.symm h]
theorem flat_strs (ws : List Str) : (ws.map V.str).all flatV = true := by
  rw [List.all_map]
  exact List.all_eq_true.mpr fun _ _ => rfl
/-- keywords at a call of a def without defaults -/
theorem kbF {K : PySem.W.Frag} {x qual : Str} {st : Stmt} {f : Addr} {fd : FuncData} {ps : List Str} (F : Fun K x qual st f fd) (n : Nat) (ks : List Str) (g : {α : Type} → List α → List α → List α)
    (hrel : ∀ {vs zs : List V} {us ws : List Value}, Vals vs us → Vals zs ws → Vals (g vs zs) (g us ws))
    (h : ∀ (kV doc pm : Value) (an : Option Addr) (cdv ct : Value) (us ws : List Value), us.length = n → ws.length = ks.length →
      bindArgs (PySem.W.fnOf x qual (defArgs st) (defBody st) (defScope st) .none kV doc pm an cdv ct) ⟨us, ks.zip ws⟩ = pure (ps.zip (g us ws))) : KBn K fd ps n ks (fun us ws => g us ws) (fun vs zs => g vs zs) := by
  obtain ⟨oc, od, kV, doc, pm, an, cdv, ct, osl, rfl, lk, hcd⟩ := F.ex
  exact ⟨fun s us ws X l1 l2 => .of_eq (h kV doc pm an cdv ct us ws l1 l2), fun r1 r2 => hrel r1 r2⟩
/-- isinstance(x, (a, b)) -/
theorem kit2 {K : PySem.W.Frag} {t a b : String} {r1 r2 : Bool} (h1 : kitB t a = some r1) (h2 : kitB t b = some r2) : PySem.W.kitAny K (.type t) [.type a, .type b] = some (r1 || r2) := by
  refine kitAny_cons (kit_ty h1) (fun e => ?_) (fun e => by rw [e]; rfl)
  subst e
  refine kitAny_cons (kit_ty h2) (fun e => by rw [e]; rfl) (fun e => by rw [e]; rfl)
theorem eqv_nil : ∀ ws : List Str, PyData.eqv (dStrs ws) (dStrs []) = decide (ws = [])
  | [] => rfl
  | s :: r => rfl
/-! ### signs as texts -/
def sg (l : List Nat) : List Str := l.map fun d => ⟨#[d]⟩
theorem sg_one {l : List Nat} : ∀ s ∈ sg l, s.length = 1 := fun s hs => by
  obtain ⟨d, _, rfl⟩ := List.mem_map.mp hs
  rfl
theorem sg_len (l : List Nat) : (sg l).length = l.length := List.length_map _
theorem sg_asc {l : List Nat} (h : ∀ c ∈ l, c < 128) : ∀ s ∈ sg l, Asc s := fun s hs => by
  obtain ⟨d, hd, rfl⟩ := List.mem_map.mp hs
  exact Asc.one (h d hd)
theorem tl_join_sg : ∀ l : List Nat, ((sg l).map tl).flatten = l
  | [] => rfl
  | c :: r => by
    have ih := tl_join_sg r
    show ([c] ++ ((sg r).map tl).flatten) = c :: r
    rw [ih]
    rfl
theorem sg_app (l : List Nat) (c : Nat) : (sg (l ++ [c])).map V.str = (sg l).map V.str ++ [.str ⟨#[c]⟩] := by
  unfold sg
  rw [List.map_append, List.map_append]
  rfl
theorem chr_inj {c d : Nat} (h : (⟨#[c]⟩ : Str) = ⟨#[d]⟩) : c = d := by
  have := congrArg tl h
  simpa using this
theorem ifC {A B : Prop} {c d : Nat} (h1 : c = d → A) (h2 : c ≠ d → B) : if decide (V.str ⟨#[c]⟩ = V.str ⟨#[d]⟩) = true then A else B := ifVS (fun h => h1 (chr_inj h)) fun h => h2 fun e => h (by rw [e])
theorem ifCn {A B : Prop} {c d : Nat} (h1 : c ≠ d → A) (h2 : c = d → B) : if (!decide (V.str ⟨#[c]⟩ = V.str ⟨#[d]⟩)) = true then A else B := ifVSn (fun h => h1 fun e => h (by rw [e])) fun h => h2 (chr_inj h)
theorem filt_in {pre : List Nat} {c d : Nat} (h : d ≠ c) : (pre ++ [d]).filter (fun x => decide (x ≠ c)) = pre.filter (fun x => decide (x ≠ c)) ++ [d] := by
  rw [List.filter_append, List.filter_cons, if_pos (by simpa using h)]
  rfl
theorem filt_out {pre : List Nat} {c d : Nat} (h : d = c) : (pre ++ [d]).filter (fun x => decide (x ≠ c)) = pre.filter (fun x => decide (x ≠ c)) := by
  rw [List.filter_append, List.filter_cons, if_neg (by simpa using h)]
  simp
theorem filt_asc {l : List Nat} {p : Nat → Bool} (h : ∀ c ∈ l, c < 128) : ∀ c ∈ l.filter p, c < 128 := fun c hc => h c (List.mem_filter.mp hc).1
theorem tl_joined_sg (l : List Nat) : tl (Txt.join (Str.ofString "") (sg l)) = l := by rw [tl_joinE, tl_join_sg]
/-! ### a text split at a sign -/
theorem split_tl (s : Str) {c : Nat} (h : c < 256) : (Txt.split s ⟨#[c]⟩).map tl = spl [c] 0 [] (tl s) := split_spl s ⟨#[c]⟩ (by simp) (kind_ok (by simpa using h))
theorem spl_asc : ∀ (l acc : List Nat) (c : Nat), (∀ d ∈ l, d < 128) → (∀ d ∈ acc, d < 128) → ∀ p ∈ spl [c] 0 acc l, ∀ d ∈ p, d < 128
  | [], acc, c, _, ha, p, hp, d, hd => by
    rw [spl_nil] at hp
    rw [List.mem_singleton.mp hp] at hd
    exact ha d hd
  | x :: r, acc, c, hl, ha, p, hp, d, hd => by
    have hr : ∀ d ∈ r, d < 128 := fun d h => hl d (List.mem_cons_of_mem _ h)
    by_cases e : pre [c] (x :: r) = true
    · rw [spl_hit e] at hp
      rcases List.mem_cons.mp hp with rfl | hp
      · exact ha d hd
      · exact spl_asc r [] c hr (fun _ h => by simp at h) p hp d hd
    · rw [spl_miss (by simpa using e)] at hp
      refine spl_asc r (acc ++ [x]) c hr (fun d h => ?_) p hp d hd
      rcases List.mem_append.mp h with h | h
      · exact ha d h
      · rw [List.mem_singleton.mp h]; exact hl x List.mem_cons_self
theorem split_asc {s : Str} {c : Nat} (h : c < 256) (a : Asc s) : ∀ w ∈ Txt.split s ⟨#[c]⟩, Asc w := fun w hw => by
  have : tl w ∈ (Txt.split s ⟨#[c]⟩).map tl := List.mem_map_of_mem hw
  rw [split_tl s h] at this
  exact spl_asc (tl s) [] c a (fun _ h => by simp at h) _ this
theorem spl_len : ∀ (l acc : List Nat) (c : Nat), (spl [c] 0 acc l).length ≤ l.length + 1
  | [], acc, c => by rw [spl_nil]; simp
  | x :: r, acc, c => by
    by_cases e : pre [c] (x :: r) = true
    · rw [spl_hit e, List.length_cons, List.length_cons]
      have := spl_len r [] c
      exact Nat.succ_le_succ this
    · rw [spl_miss (by simpa using e), List.length_cons]
      have := spl_len r (acc ++ [x]) c
      omega
theorem split_len {s : Str} {c : Nat} (h : c < 256) : (Txt.split s ⟨#[c]⟩).length ≤ s.length + 1 := by
  have := spl_len (tl s) [] c
  rw [← split_tl s h, List.length_map] at this
  rw [len_tl]
  exact this
theorem pre_one {c x : Nat} {r : List Nat} : pre [c] (x :: r) = decide (x = c) := by
  unfold pre
  by_cases h : x = c <;> simp [h]
/-! ### text * number -/
theorem op_mul_str {X : Cx} : OpR X (binaryOp .Mult) (fun x y H Q => ∃ i j, x = .str i ∧ y = .int j ∧ (0 ≤ j ∧ j ≤ 10000 ∧ i.length ≤ 1000) ∧ Q (.str (Txt.mul i j)) H) := fun pins s σ H x y v u Q I rx ry h => by
  obtain ⟨i, j, rfl, rfl, ⟨h0, h1, h2⟩, q⟩ := h
  obtain ⟨t, rfl⟩ := rx
  obtain ⟨t', rfl⟩ := ry
  refine SB.mul ⟨?_, fun h3 h4 => ?_, fun h3 h4 => ?_⟩ fun t' k => ⟨.str (Txt.mul i j), H, I.tok _, ⟨_, rfl⟩, q⟩
  · simp
    omega
  · have h5 : (i.length : Int) * j ≤ 1000 * 10000 := Int.mul_le_mul (by omega) h1 h0 (by decide)
    have h6 : (i.length : Int) ≤ (2 ^ 63 - 1) / j := Int.le_ediv_of_mul_le (by omega) (by omega)
    omega
  · have h5 : i.length * j.toNat ≤ 1000 * 10000 := Nat.mul_le_mul h2 (by omega)
    have h6 : i.length * j.toNat ≤ sizeLine := Nat.le_trans h5 (by decide)
    unfold Builtin.Str.tooLong
    exact decide_eq_false (by omega)
theorem fold_cps (a : Array Nat) : ∀ (k : Nat) (acc : Array Nat), ((List.replicate k a).foldl (fun x y => x ++ y) acc).toList = acc.toList ++ (List.replicate k a.toList).flatten
  | 0, acc => by simp
  | k + 1, acc => by
    rw [List.replicate_succ, List.foldl_cons, fold_cps a k, List.replicate_succ, List.flatten_cons, Array.toList_append, List.append_assoc]
theorem flat_nil : ∀ k : Nat, (List.replicate k ([] : List Nat)).flatten = []
  | 0 => rfl
  | k + 1 => by rw [List.replicate_succ, List.flatten_cons, flat_nil k]; rfl
theorem tl_mul (x : Str) (n : Int) : tl (Txt.mul x n) = (List.replicate n.toNat (tl x)).flatten := by
  unfold Txt.mul
  split
  · rename_i h
    rw [show n.toNat = 0 by omega]
    rfl
  · split
    · rename_i h1 h2
      rcases Bool.or_eq_true_iff.mp h2 with h | h
      · have : n = 1 := by simpa using h
        subst this
        simp
      · have h3 : x.length = 0 := by simpa using h
        rw [len_tl] at h3
        rw [List.length_eq_zero_iff.mp h3, flat_nil]
    · show ((List.replicate n.toNat x.cps).foldl (fun x y => x ++ y) #[]).toList = _
      rw [fold_cps]
      rfl
theorem mul_len (x : Str) (n : Int) : (Txt.mul x n).length = x.length * n.toNat := by
  rw [len_tl, tl_mul, List.length_flatten, List.map_replicate, List.sum_replicate_nat, len_tl, Nat.mul_comm]
theorem Asc.mul {x : Str} (a : Asc x) (n : Int) : Asc (Txt.mul x n) := fun c hc => by
  rw [tl_mul] at hc
  obtain ⟨l, hl, hc⟩ := List.mem_flatten.mp hc
  rw [List.eq_of_mem_replicate hl] at hc
  exact a c hc
/-! ### loops by what is behind -/
section
variable {g : TG} {tb : TS} {D : Ends} {σ : L2.St} {H : Hp}
theorem for_str {s : Str} (Pv : List Nat → L2.St → Hp → Prop) (h0 : Pv [] σ H)
    (hs : ∀ pre c post σ H, tl s = pre ++ c :: post → Pv pre σ H → g (.str ⟨#[c]⟩) σ H fun σ2 H2 => tb { D with nx := Pv (pre ++ [c]), ct := Pv (pre ++ [c]), bk := D.nx } σ2 H2) (hd : ∀ σ H, Pv (tl s) σ H → D.nx σ H) :
    ∃ W : Nat → Nat → L2.St → Hp → Prop, (∃ m, W 0 m σ H) ∧ ∀ i m σ H, W i m σ H →
      ((Its s).stop i H ∧ D.nx σ H) ∨ ((Its s).go i H ∧ ∃ N : L2.St → Hp → Prop, (∀ σ' H', N σ' H' → ∃ m', m' < m ∧ W (i + 1) m' σ' H') ∧ ∀ x H', (Its s).yld i H x H' → g x σ H' fun σ2 H2 => tb { D with nx := N, ct := N, bk := D.nx } σ2 H2) := by
  have hsz : s.cps.size = (tl s).length := by simp
  refine for_it walk_str (fun i σ H => Pv ((tl s).take i) σ H) (by simpa using h0) (fun _ _ _ _ _ => True.intro) ?_ (fun σ H p => hd σ H (by rw [hsz, List.take_length] at p; exact p))
  rintro i x σ H H' hi p ⟨rfl, c, hc, rfl⟩
  have hc' : (tl s)[i]? = some c := by simpa using hc
  have hl : i < (tl s).length := by omega
  have e : tl s = (tl s).take i ++ c :: (tl s).drop (i + 1) := by
    have h2 : (tl s)[i] = c := by rw [List.getElem?_eq_getElem hl] at hc'; exact Option.some.inj hc'
    rw [← h2, ← List.drop_eq_getElem_cons hl, List.take_append_drop]
  have e2 : (tl s).take (i + 1) = (tl s).take i ++ [c] := by rw [List.take_add_one, hc']; rfl
  rw [e2]
  exact hs _ c _ σ _ e p
theorem for_rg {lo : Int} {n : Nat} (Pv : Nat → L2.St → Hp → Prop) (h0 : Pv 0 σ H)
    (hs : ∀ i σ H, i < n → Pv i σ H → g (.int (lo + i)) σ H fun σ2 H2 => tb { D with nx := Pv (i + 1), ct := Pv (i + 1), bk := D.nx } σ2 H2) (hd : ∀ σ H, Pv n σ H → D.nx σ H) :
    ∃ W : Nat → Nat → L2.St → Hp → Prop, (∃ m, W 0 m σ H) ∧ ∀ i m σ H, W i m σ H →
      ((Itr lo n).stop i H ∧ D.nx σ H) ∨ ((Itr lo n).go i H ∧ ∃ N : L2.St → Hp → Prop, (∀ σ' H', N σ' H' → ∃ m', m' < m ∧ W (i + 1) m' σ' H') ∧ ∀ x H', (Itr lo n).yld i H x H' → g x σ H' fun σ2 H2 => tb { D with nx := N, ct := N, bk := D.nx } σ2 H2) := for_range Pv h0 hs hd
theorem for_li {K : PySem.W.Frag} {a : Addr} {xs : List V} (Pv : List V → L2.St → Hp → Prop) (h0 : Pv [] σ H) (hl : ∀ pre post σ H, xs = pre ++ post → Pv pre σ H → SqL K H a xs)
    (hs : ∀ pre x post σ H, xs = pre ++ x :: post → Pv pre σ H → g x σ H fun σ2 H2 => tb { D with nx := Pv (pre ++ [x]), ct := Pv (pre ++ [x]), bk := D.nx } σ2 H2) (hd : ∀ σ H, Pv xs σ H → D.nx σ H) :
    ∃ W : Nat → Nat → L2.St → Hp → Prop, (∃ m, W 0 m σ H) ∧ ∀ i m σ H, W i m σ H →
      ((Itl K a).stop i H ∧ D.nx σ H) ∨ ((Itl K a).go i H ∧ ∃ N : L2.St → Hp → Prop, (∀ σ' H', N σ' H' → ∃ m', m' < m ∧ W (i + 1) m' σ' H') ∧ ∀ x H', (Itl K a).yld i H x H' → g x σ H' fun σ2 H2 => tb { D with nx := N, ct := N, bk := D.nx } σ2 H2) := by
  refine for_it (walk_list (xs := xs)) (fun i σ H => Pv (xs.take i) σ H) (by simpa using h0) (fun i σ H _ p => hl (xs.take i) (xs.drop i) σ H (List.take_append_drop i xs).symm p) ?_ (fun σ H p => hd σ H (by rw [List.take_length] at p; exact p))
  rintro i x σ H H' hi p ⟨rfl, hc⟩
  have e : xs = xs.take i ++ x :: xs.drop (i + 1) := by
    have h2 : xs[i] = x := by rw [List.getElem?_eq_getElem hi] at hc; exact Option.some.inj hc
    rw [← h2, ← List.drop_eq_getElem_cons hi, List.take_append_drop]
  have e2 : xs.take (i + 1) = xs.take i ++ [x] := by rw [List.take_add_one, hc]; rfl
  rw [e2]
  exact hs _ x _ σ _ e p
end
section
variable {g : TG} {tt : TT} {te : TE} {vs : List Nat} {σ : L2.St} {H1 : Hp} {D : Addr} {Qd : Hp → Prop}
theorem lc_rg {lo : Int} {n : Nat} (Pv : Nat → Hp → Prop) (h0 : Pv 0 (upd H1 D (.lst [])))
    (hs : ∀ i H, i < n → Pv i H → g (.int (lo + i)) (wipe σ vs) H fun σ2 H2 => wipe σ2 vs = wipe σ vs ∧ tt σ2 H2 fun b H3 =>
      if b = true then te σ2 H3 fun y H4 => ∃ acc, H4 D = some (.lst acc) ∧ acc.length < sizeLine ∧ Pv (i + 1) (upd H4 D (.lst (acc ++ [y]))) else Pv (i + 1) H3) (hd : ∀ H, Pv n H → Qd H) :
    ∃ W : Nat → Nat → Hp → Prop, (∃ m, W 0 m (upd H1 D (.lst []))) ∧ ∀ i m H, W i m H →
      ((Itr lo n).stop i H ∧ Qd H) ∨ ((Itr lo n).go i H ∧ ∃ Nx : Hp → Prop, (∀ H', Nx H' → ∃ m', m' < m ∧ W (i + 1) m' H') ∧ ∀ x H', (Itr lo n).yld i H x H' → g x (wipe σ vs) H' fun σ2 H2 => wipe σ2 vs = wipe σ vs ∧ tt σ2 H2 fun b H3 =>
        if b = true then te σ2 H3 fun y H4 => ∃ acc, H4 D = some (.lst acc) ∧ acc.length < sizeLine ∧ Nx (upd H4 D (.lst (acc ++ [y]))) else Nx H3) := lc_range Pv h0 hs hd
theorem lc_str {s : Str} (Pv : List Nat → Hp → Prop) (h0 : Pv [] (upd H1 D (.lst [])))
    (hs : ∀ pre c post H, tl s = pre ++ c :: post → Pv pre H → g (.str ⟨#[c]⟩) (wipe σ vs) H fun σ2 H2 => wipe σ2 vs = wipe σ vs ∧ tt σ2 H2 fun b H3 =>
      if b = true then te σ2 H3 fun y H4 => ∃ acc, H4 D = some (.lst acc) ∧ acc.length < sizeLine ∧ Pv (pre ++ [c]) (upd H4 D (.lst (acc ++ [y]))) else Pv (pre ++ [c]) H3) (hd : ∀ H, Pv (tl s) H → Qd H) :
    ∃ W : Nat → Nat → Hp → Prop, (∃ m, W 0 m (upd H1 D (.lst []))) ∧ ∀ i m H, W i m H →
      ((Its s).stop i H ∧ Qd H) ∨ ((Its s).go i H ∧ ∃ Nx : Hp → Prop, (∀ H', Nx H' → ∃ m', m' < m ∧ W (i + 1) m' H') ∧ ∀ x H', (Its s).yld i H x H' → g x (wipe σ vs) H' fun σ2 H2 => wipe σ2 vs = wipe σ vs ∧ tt σ2 H2 fun b H3 =>
        if b = true then te σ2 H3 fun y H4 => ∃ acc, H4 D = some (.lst acc) ∧ acc.length < sizeLine ∧ Nx (upd H4 D (.lst (acc ++ [y]))) else Nx H3) := by
  have hsz : s.cps.size = (tl s).length := by simp
  refine lc_it walk_str (fun i H => Pv ((tl s).take i) H) (by simpa using h0) (fun _ _ _ _ => True.intro) ?_ (fun H p => hd H (by rw [hsz, List.take_length] at p; exact p))
  rintro i x H H' hi p ⟨rfl, c, hc, rfl⟩
  have hc' : (tl s)[i]? = some c := by simpa using hc
  have hl : i < (tl s).length := by omega
  have e : tl s = (tl s).take i ++ c :: (tl s).drop (i + 1) := by
    have h2 : (tl s)[i] = c := by rw [List.getElem?_eq_getElem hl] at hc'; exact Option.some.inj hc'
    rw [← h2, ← List.drop_eq_getElem_cons hl, List.take_append_drop]
  have e2 : (tl s).take (i + 1) = (tl s).take i ++ [c] := by rw [List.take_add_one, hc']; rfl
  rw [e2]
  exact hs _ c _ _ e p
theorem lc_li {K : PySem.W.Frag} {a : Addr} {xs : List V} (Pv : List V → Hp → Prop) (h0 : Pv [] (upd H1 D (.lst []))) (hl : ∀ pre post H, xs = pre ++ post → Pv pre H → SqL K H a xs)
    (hs : ∀ pre x post H, xs = pre ++ x :: post → Pv pre H → g x (wipe σ vs) H fun σ2 H2 => wipe σ2 vs = wipe σ vs ∧ tt σ2 H2 fun b H3 =>
      if b = true then te σ2 H3 fun y H4 => ∃ acc, H4 D = some (.lst acc) ∧ acc.length < sizeLine ∧ Pv (pre ++ [x]) (upd H4 D (.lst (acc ++ [y]))) else Pv (pre ++ [x]) H3) (hd : ∀ H, Pv xs H → Qd H) :
    ∃ W : Nat → Nat → Hp → Prop, (∃ m, W 0 m (upd H1 D (.lst []))) ∧ ∀ i m H, W i m H →
      ((Itl K a).stop i H ∧ Qd H) ∨ ((Itl K a).go i H ∧ ∃ Nx : Hp → Prop, (∀ H', Nx H' → ∃ m', m' < m ∧ W (i + 1) m' H') ∧ ∀ x H', (Itl K a).yld i H x H' → g x (wipe σ vs) H' fun σ2 H2 => wipe σ2 vs = wipe σ vs ∧ tt σ2 H2 fun b H3 =>
        if b = true then te σ2 H3 fun y H4 => ∃ acc, H4 D = some (.lst acc) ∧ acc.length < sizeLine ∧ Nx (upd H4 D (.lst (acc ++ [y]))) else Nx H3) := by
  refine lc_it (walk_list (xs := xs)) (fun i H => Pv (xs.take i) H) (by simpa using h0) (fun i H _ p => hl (xs.take i) (xs.drop i) H (List.take_append_drop i xs).symm p) ?_ (fun H p => hd H (by rw [List.take_length] at p; exact p))
  rintro i x H H' hi p ⟨rfl, hc⟩
  have e : xs = xs.take i ++ x :: xs.drop (i + 1) := by
    have h2 : xs[i] = x := by rw [List.getElem?_eq_getElem hi] at hc; exact Option.some.inj hc
    rw [← h2, ← List.drop_eq_getElem_cons hi, List.take_append_drop]
  have e2 : xs.take (i + 1) = xs.take i ++ [x] := by rw [List.take_add_one, hc]; rfl
  rw [e2]
  exact hs _ x _ _ e p
end
end FR
set_option Elab.async false
set_option linter.all false
set_option maxRecDepth 100000
/-! names and paths; defs with a star parameter -/
namespace FR
open PySem PySem.Spec PyProof.Rows L2 TL
theorem Keep.trans {M : List Addr} {H H1 H2 : Hp} (a : Keep M H H1) (b : Keep M H1 H2) : Keep M H H2 := fun p o e hp => b p o (a p o e hp) hp
theorem Keep.nil {M : List Addr} {H H1 : Hp} (a : Keep [] H H1) : Keep M H H1 := fun p o e _ => a p o e (by simp)
theorem Ow.sel {H0 H : Hp} {M : List Addr} {L L' : List (Addr × HO)} (W : Ow H0 M H L) (h : L'.Sublist L) : Ow H0 M H L' := ⟨W.keep, fun p hp => W.has p (h.subset hp), (h.map _).nodup W.nd, fun p hp => W.fr p (h.subset hp)⟩
theorem Ow.fresh {H0 H : Hp} {M : List Addr} {L : List (Addr × HO)} {p : Addr} {o : HO} (W : Ow H0 M H ((p, o) :: L)) (h : ∀ x ∈ M, x ∈ L.map (·.1)) : H0 p = none := by
  rcases W.fr _ List.mem_cons_self with r | r
  · exact r
  · exact absurd (h _ r) (List.nodup_cons.mp W.nd).1
theorem Ow.anyN {H0 H H' : Hp} {M : List Addr} {L : List (Addr × HO)} {a p : Addr} {o o' o2 : HO} (W : Ow H0 M H L) (i : Nat) (e : L[i]? = some (a, o)) (k : Keep [a] H H') (h : H' a = some o') (hp : H p = none) (h2 : H' p = some o2) : Ow H0 M H' ((p, o2) :: L.set i (a, o')) where
  keep := (W.any1 i e k h).keep
  has := fun q hq => by
    rcases List.mem_cons.mp hq with rfl | hq
    · exact h2
    · exact (W.any1 i e k h).has q hq
  nd := by
    rw [List.map_cons, List.nodup_cons, map_set_fst e]
    refine ⟨fun hm => ?_, W.nd⟩
    obtain ⟨q, hq, e⟩ := List.mem_map.mp hm
    have := W.has q hq
    rw [show q.1 = p from e, hp] at this
    cases this
  fr := fun q hq => by
    rcases List.mem_cons.mp hq with rfl | hq
    · by_cases hm : p ∈ M
      · exact .inr hm
      · cases e0 : H0 p with
        | none => exact .inl rfl
        | some u =>
          have := W.keep p u e0 hm
          rw [hp] at this
          cases this
    · exact (W.any1 i e k h).fr q hq
/-- a small letter -/
def lc (c : Nat) : Bool := decide (97 ≤ c ∧ c ≤ 122)
theorem lc_alpha : ∀ c : Fin 128, lc c.1 = true → Unicode.isAlpha c.1 = true ∧ Unicode.isLower c.1 = true ∧ (Unicode.isUpper c.1 || Unicode.isTitle c.1) = false := by decide +kernel
theorem all_tl (s : Str) (p : Nat → Bool) : s.cps.all p = (tl s).all p := by simp
theorem any_tl (s : Str) (p : Nat → Bool) : s.cps.any p = (tl s).any p := by simp
theorem isascii_asc {s : Str} (a : Asc s) : Txt.isascii s = true := by
  show s.cps.all (· < 128) = true
  rw [all_tl]
  exact List.all_eq_true.mpr fun c hc => decide_eq_true (a c hc)
/-- a name -/
structure Nm (s : Str) : Prop where
  l0 : 1 ≤ s.length
  l1 : s.length ≤ 8
  lo : ∀ c ∈ tl s, lc c = true
theorem Nm.lt {s : Str} (h : Nm s) {c : Nat} (hc : c ∈ tl s) : 97 ≤ c ∧ c ≤ 122 := of_decide_eq_true (h.lo c hc)
theorem Nm.asc {s : Str} (h : Nm s) : Asc s := fun c hc => by have := h.lt hc; omega
theorem Nm.alpha {s : Str} (h : Nm s) : Txt.isalpha s = true := by
  show (decide (s.length > 0) && s.cps.all Unicode.isAlpha) = true
  rw [all_tl, Bool.and_eq_true, decide_eq_true_eq, List.all_eq_true]
  exact ⟨h.l0, fun c hc => (lc_alpha ⟨c, h.asc c hc⟩ (h.lo c hc)).1⟩
theorem Nm.lower {s : Str} (h : Nm s) : Txt.islower s = true := by
  show (s.cps.any Unicode.isLower && !s.cps.any fun c => Unicode.isUpper c || Unicode.isTitle c) = true
  rw [any_tl, any_tl, Bool.and_eq_true, List.any_eq_true, Bool.not_eq_true', List.any_eq_false]
  refine ⟨?_, fun c hc => by have := (lc_alpha ⟨c, h.asc c hc⟩ (h.lo c hc)).2.2; simpa using this⟩
  have h0 := h.l0
  rw [len_tl] at h0
  obtain ⟨c, hc⟩ := List.exists_mem_of_length_pos h0
  exact ⟨c, hc, (lc_alpha ⟨c, h.asc c hc⟩ (h.lo c hc)).2.1⟩
theorem slash : Str.ofString "/" = ⟨#[47]⟩ := by decide +kernel
theorem tl_slash : tl (Str.ofString "/") = [47] := by decide +kernel
theorem tl_emp : tl (Str.ofString "") = [] := by decide +kernel
/-- names behind slashes -/
def flat (ns : List Str) : List Nat := (ns.map fun s => 47 :: tl s).flatten
def cat (ns : List Str) : Str := ns.foldl (fun a n => (a ++ Str.ofString "/") ++ n) (Str.ofString "")
theorem cat_app (ns : List Str) (n : Str) : cat (ns ++ [n]) = (cat ns ++ Str.ofString "/") ++ n := by
  unfold cat
  rw [List.foldl_append]
  rfl
theorem tl_catF : ∀ (ns : List Str) (a : Str), tl (ns.foldl (fun a n => (a ++ Str.ofString "/") ++ n) a) = tl a ++ flat ns
  | [], a => by simp [flat]
  | n :: r, a => by
    rw [List.foldl_cons, tl_catF r, tl_append, tl_append, tl_slash]
    simp [flat]
theorem tl_cat (ns : List Str) : tl (cat ns) = flat ns := by
  unfold cat
  rw [tl_catF, tl_emp]
  rfl
def Nms (ns : List Str) : Prop := ∀ s ∈ ns, Nm s
theorem Nms.app {a b : List Str} (ha : Nms a) (hb : Nms b) : Nms (a ++ b) := fun s h => (List.mem_append.mp h).elim (ha s) (hb s)
theorem Nms.sub {a b : List Str} (h : Nms b) (s : ∀ x ∈ a, x ∈ b) : Nms a := fun x hx => h x (s x hx)
theorem Nms.take {a : List Str} (h : Nms a) (k : Nat) : Nms (a.take k) := h.sub fun _ => List.mem_of_mem_take
theorem Nms.drop {a : List Str} (h : Nms a) (k : Nat) : Nms (a.drop k) := h.sub fun _ => List.mem_of_mem_drop
theorem Nms.dropLast {a : List Str} (h : Nms a) : Nms a.dropLast := h.sub fun _ hx => (List.dropLast_subset _) hx
theorem Nms.asc {a : List Str} (h : Nms a) : ∀ s ∈ a, Asc s := fun s hs => (h s hs).asc
theorem flat_len : ∀ {ns : List Str}, Nms ns → (flat ns).length ≤ 9 * ns.length
  | [], _ => by simp [flat]
  | n :: r, h => by
    have ih := flat_len (ns := r) fun s hs => h s (List.mem_cons_of_mem _ hs)
    have h1 := (h n List.mem_cons_self).l1
    rw [len_tl] at h1
    show ((47 :: tl n) ++ flat r).length ≤ _
    rw [List.length_append, List.length_cons, List.length_cons]
    omega
theorem cat_len {ns : List Str} (h : Nms ns) : (cat ns).length ≤ 9 * ns.length := by
  rw [len_tl, tl_cat]
  exact flat_len h
def pathOf (ns : List Str) : Str := if ns = [] then Str.ofString "/" else cat ns
theorem pathOf_nil : pathOf [] = Str.ofString "/" := rfl
theorem pathOf_ne {ns : List Str} (h : ns ≠ []) : pathOf ns = cat ns := if_neg h
theorem path_len {ns : List Str} (h : Nms ns) : (pathOf ns).length ≤ 9 * ns.length + 1 := by
  by_cases e : ns = []
  · subst e
    decide +kernel
  · rw [pathOf_ne e]
    exact Nat.le_trans (cat_len h) (by omega)
theorem flat_cons (n : Str) (r : List Str) : flat (n :: r) = 47 :: (tl n ++ flat r) := by simp [flat]
theorem path_starts (ns : List Str) : Txt.startswith (pathOf ns) (Str.ofString "/") = true := by
  rw [slash, starts_one]
  cases ns with
  | nil => decide +kernel
  | cons n r => rw [pathOf_ne (by simp), tl_cat, flat_cons]; rfl
theorem path_slash {ns : List Str} (h : Nms ns) (e : ns ≠ []) : pathOf ns ≠ Str.ofString "/" := fun he => by
  have := congrArg tl he
  rw [pathOf_ne e, tl_cat, tl_slash] at this
  cases ns with
  | nil => exact e rfl
  | cons n r =>
    rw [flat_cons] at this
    have h0 := (h n List.mem_cons_self).l0
    rw [len_tl] at h0
    have h2 := congrArg List.length this
    simp at h2
    simp [h2.1] at h0
theorem cat_emp {ns : List Str} : cat ns = Str.ofString "" ↔ ns = [] := by
  constructor
  · intro h
    cases ns with
    | nil => rfl
    | cons n r =>
      have := congrArg tl h
      rw [tl_cat, flat_cons, tl_emp] at this
      cases this
  · rintro rfl
    rfl
theorem spl_word : ∀ (l acc r : List Nat), (∀ c ∈ l, c ≠ 47) → spl [47] 0 acc (l ++ r) = spl [47] 0 (acc ++ l) r
  | [], acc, r, _ => by simp
  | c :: l, acc, r, h => by
    rw [List.cons_append, spl_miss (by rw [pre_one]; exact decide_eq_false (h c List.mem_cons_self)), spl_word l _ r fun d hd => h d (List.mem_cons_of_mem _ hd)]
    simp
theorem spl_flat : ∀ (ns : List Str) (acc : List Nat), Nms ns → spl [47] 0 acc (flat ns) = acc :: ns.map tl
  | [], acc, _ => by
    show spl [47] 0 acc [] = _
    rw [spl_nil]
    rfl
  | n :: r, acc, h => by
    have hn := h n List.mem_cons_self
    rw [flat_cons, spl_hit (by rw [pre_one]; rfl), List.map_cons]
    show acc :: spl [47] 0 [] (tl n ++ flat r) = _
    rw [spl_word _ _ _ fun c hc => by have := hn.lt hc; omega, spl_flat r _ fun s hs => h s (List.mem_cons_of_mem _ hs)]
    rfl
theorem split_path {ns : List Str} (h : Nms ns) (e : ns ≠ []) : Txt.split (pathOf ns) (Str.ofString "/") = Str.ofString "" :: ns := by
  refine map_tl_inj ?_
  rw [slash, split_tl _ (by decide), pathOf_ne e, tl_cat, spl_flat _ _ h, List.map_cons, tl_emp]
theorem flat_join : ∀ {ns : List Str}, ns ≠ [] → 47 :: joinL [47] (ns.map tl) = flat ns
  | [], h => absurd rfl h
  | [s], _ => by
    rw [flat_cons]
    show 47 :: tl s = 47 :: (tl s ++ [])
    rw [List.append_nil]
  | s :: t :: r, _ => by
    have ih := flat_join (ns := t :: r) (by simp)
    rw [flat_cons, ← ih]
    rfl
theorem join_path (ns : List Str) : Str.ofString "/" ++ Txt.join (Str.ofString "/") ns = pathOf ns := by
  refine ext_tl ?_
  rw [tl_append, join_eq, tl_join, tl_slash]
  cases ns with
  | nil => decide +kernel
  | cons n r =>
    rw [pathOf_ne (by simp), tl_cat]
    exact flat_join (by simp)
theorem names_sum {ns : List Str} (h : Nms ns) : (ns.map (·.length)).sum ≤ ns.length * 8 := sum_le fun s hs => (h s hs).l1
theorem ix_listK {X : Cx} {K : PySem.W.Frag} (h : X.K = K) : IxR X (rIxL K) := h ▸ ix_list
/-! slices -/
theorem cutV_to (xs : List V) (k : Nat) : cutV xs none (some (k : Int)) = xs.take k := by
  show (xs.drop 0).take (HT.sIx xs.length xs.length (some (k : Int)) - 0) = _
  rw [HT.sIx_nat, List.drop_zero, Nat.sub_zero]
  by_cases h : k ≤ xs.length
  · rw [Nat.min_eq_left h]
  · rw [Nat.min_eq_right (by omega), List.take_of_length_le (Nat.le_refl _), List.take_of_length_le (by omega)]
theorem cutV_from (xs : List V) (k : Nat) : cutV xs (some (k : Int)) none = xs.drop k := by
  show (xs.drop (HT.sIx xs.length 0 (some (k : Int)))).take (xs.length - HT.sIx xs.length 0 (some (k : Int))) = _
  rw [HT.sIx_nat]
  by_cases h : k ≤ xs.length
  · rw [Nat.min_eq_left h, List.take_of_length_le (by rw [List.length_drop]; exact Nat.le_refl _)]
  · rw [Nat.min_eq_right (by omega), Nat.sub_self, List.take_zero, List.drop_of_length_le (by omega)]
theorem cutV_last (xs : List V) : cutV xs none (some (-1)) = xs.dropLast := by
  show (xs.drop 0).take (((-1 : Int) + (xs.length : Int)).toNat - 0) = _
  rw [List.drop_zero, Nat.sub_zero, List.dropLast_eq_take, show ((-1 : Int) + (xs.length : Int)).toNat = xs.length - 1 by omega]
theorem tl_cutTo (s : Str) (k : Nat) : tl (cutS s none (some (k : Int))) = (tl s).take k := by
  rw [tl_cutS]
  show ((tl s).drop 0).take (HT.sIx s.length s.length (some (k : Int)) - 0) = _
  rw [HT.sIx_nat, len_tl, List.drop_zero, Nat.sub_zero]
  by_cases h : k ≤ (tl s).length
  · rw [Nat.min_eq_left h]
  · rw [Nat.min_eq_right (by omega), List.take_of_length_le (Nat.le_refl _), List.take_of_length_le (by omega)]
theorem eqv_strs2 : ∀ a b : List Str, PyData.eqvAll (a.map .str) (b.map .str) = decide (a = b)
  | [], [] => rfl
  | [], _ :: _ => rfl
  | _ :: _, [] => rfl
  | x :: a, y :: b => by
    rw [List.map_cons, List.map_cons, PyData.eqvAll, eqv_strs2 a b, PyData.eqv]
    by_cases h : x = y
    · subst h
      simp
    · simp [h]
theorem eqv_lists (a b : List Str) : PyData.eqv (dStrs a) (dStrs b) = decide (a = b) := by
  unfold dStrs
  rw [PyData.eqv, eqv_strs2]
theorem shaped_names {ns : List Str} (h : Nms ns) : SeqAt.shaped (dStrs ns) = true := shaped_strs h.asc
/-! ### a walk over a tuple by what is behind -/
section
variable {g : TG} {tb : TS} {D : Ends} {σ : L2.St} {H : Hp}
theorem for_tu {K : PySem.W.Frag} {a : Addr} {xs : List V} (Pv : List V → L2.St → Hp → Prop) (h0 : Pv [] σ H) (hl : ∀ pre post σ H, xs = pre ++ post → Pv pre σ H → SqT K H a xs)
    (hs : ∀ pre x post σ H, xs = pre ++ x :: post → Pv pre σ H → g x σ H fun σ2 H2 => tb { D with nx := Pv (pre ++ [x]), ct := Pv (pre ++ [x]), bk := D.nx } σ2 H2) (hd : ∀ σ H, Pv xs σ H → D.nx σ H) :
    ∃ W : Nat → Nat → L2.St → Hp → Prop, (∃ m, W 0 m σ H) ∧ ∀ i m σ H, W i m σ H →
      ((Itt K a).stop i H ∧ D.nx σ H) ∨ ((Itt K a).go i H ∧ ∃ N : L2.St → Hp → Prop, (∀ σ' H', N σ' H' → ∃ m', m' < m ∧ W (i + 1) m' σ' H') ∧ ∀ x H', (Itt K a).yld i H x H' → g x σ H' fun σ2 H2 => tb { D with nx := N, ct := N, bk := D.nx } σ2 H2) := by
  refine for_it (walk_tup (xs := xs)) (fun i σ H => Pv (xs.take i) σ H) (by simpa using h0) (fun i σ H _ p => hl (xs.take i) (xs.drop i) σ H (List.take_append_drop i xs).symm p) ?_ (fun σ H p => hd σ H (by rw [List.take_length] at p; exact p))
  rintro i x σ H H' hi p ⟨rfl, hc⟩
  have e : xs = xs.take i ++ x :: xs.drop (i + 1) := by
    have h2 : xs[i] = x := by rw [List.getElem?_eq_getElem hi] at hc; exact Option.some.inj hc
    rw [← h2, ← List.drop_eq_getElem_cons hi, List.take_append_drop]
  have e2 : xs.take (i + 1) = xs.take i ++ [x] := by rw [List.take_add_one, hc]; rfl
  rw [e2]
  exact hs _ x _ σ _ e p
end
/-! ### defs with a star parameter, and their calls -/
theorem okStar {P : Program} {w : World} {K : PySem.W.Frag} {mg : Str → Option Value} {base : Heap} {x qual pv : Str} {st : Stmt} {f : Addr} {fd : FuncData} {N ps : List Str} {k : Nat} {sp : Sp} (F : L2.Fun K x qual st f fd) (S : FnScope N (ps ++ [pv]) (defScope st))
    (hb : ∀ (kV doc pm : Value) (an : Option Addr) (cdv ct : Value) (us rest : List Value), us.length = ps.length → bindArgs (PySem.W.fnOf x qual (defArgs st) (defBody st) (defScope st) .none kV doc pm an cdv ct) ⟨us ++ rest, []⟩ = (newTuple rest >>= fun t => pure (ps.zip us ++ [(pv, t)])))
    (hbody : ∀ (cdv : Value) (A : Around) (outer : List Env) (s : Shared) (H : Hp) (vs : List V) (Q : VK) (E : XK), Room k (A.deeper (envOfC qual (defScope st) s.heap.objs.size f cdv)) → sp vs H Q E →
      ∃ t, PSs (cxOf CX0 P w K mg base N qual (defScope st) f cdv A outer s H E).nox (defBody st) t ∧ t { nx := fun _ H' => Q .non H', rt := Q } (start N vs) H) :
    FnR P w K mg base CX0 (k + 1) f (fun vs H Q E => ∃ ws rest, vs = ws ++ rest ∧ ws.length = ps.length ∧ rest.length ≤ sizeLine ∧ ∀ p, H p = Option.none → sp (ws ++ [V.ref p]) (upd H p (.tup rest)) Q E) := by
  obtain ⟨oc, od, kV, doc, pm, an, cdv, ct, osl, rfl, lk, hcd⟩ := F.ex
  refine StX.fn_star lk hcd S StX.cxUp_none (hb kV doc pm an cdv ct) fun A outer s H vs Q E hr hsp => ?_
  obtain ⟨t, h, q⟩ := hbody cdv A outer s H vs Q E hr hsp
  exact ⟨t, h.nox, q⟩
section
variable {X : Cx} {CX : CXT} {k : Nat} {f : Addr} {sp : Sp} {E : XK} {x : Str} {e : Expr} {es : List Expr} {t : TA} {p pos : Pos}
theorem pe_callRN (F : FnR X.prog X.w X.K X.mg X.base CX k f sp) (hr : Room k X.A) (hk : PySem.W.keepIn X.K (.ref f) = true) (hg : Gl X x) (hm : X.mg x = some (.ref f)) (hx : Passes CX X E) (ha : PA X (e :: es) t) (hd : (x == ("__debug__" : Str)) = false := by decide)
    (he : starEach (e :: es) X.env = (false, eval e X.env) :: starEach es X.env := by rfl) (hpl : (backTo pos (starEach es X.env)).any (·.1) = false := by rfl) :
    PE X (.Call (.Name x p) (e :: es) [] pos) (fun σ H Q => t σ H fun vs H1 => sp vs H1 Q E) := by
  refine ⟨fun pins s σ H Q I h => ?_⟩
  refine wpAny_Call_Name_kw (ld_glob I hg hm ?_ hd)
  refine PySem.W.callWith_K (h₀ := X.base) I.ok.mod.kin hk (thn (ha.run pos pins s σ H _ I h) fun us s1 ⟨vs, H1, I1, r, q⟩ => ⟨I1.kIn, ?_⟩) he hpl
  exact wpAny_call (run_fnR F hr hx I1 r q)
end

end FR
set_option Elab.async false
set_option linter.all false
set_option maxRecDepth 100000
namespace FR
open PySem PySem.Spec PyProof.Rows L2 TL
theorem pe_joinK {X : Cx} {K : PySem.W.Frag} {o e : Expr} {to te : TE} {apos pos : Pos} (h : X.K = K) (ho : PE X o to) (he : PE X e te) (hs : starEach [e] X.env = [(false, eval e X.env)] := by rfl) (hbase : attributeBase o "join" X.env (eval o X.env) = eval o X.env := by rfl) (hline : (apos.endLine == pos.line) = true := by rfl) :
    PE X (.Call (.Attribute o "join" apos) [e] [] pos) (tM1 (fun x xs H Q => ∃ a p, ∃ ys : List Str, x = .str a ∧ xs = [.ref p] ∧ (SqL K H p (ys.map V.str) ∨ SqT K H p (ys.map V.str)) ∧
      (ys.map (·.length)).sum + ys.length * a.length ≤ 16777216 ∧ Q (.str (Txt.join a ys)) H) to te) := h ▸ pe_join ho he hs hbase hline
end FR
set_option Elab.async false
set_option linter.all false
set_option maxRecDepth 100000
/-! promises that also know that no repr is under way; repr of data -/
namespace FR
open PySem PySem.Spec PyProof.Rows L2 TL
def FnG (P : Program) (w : World) (K : PySem.W.Frag) (mg : Str → Option Value) (base : Heap) (CX : CXT) (k : Nat) (f : Addr) (sp : Sp) : Prop :=
  ∀ (A : Around) (outer : List Env) (s : Shared) (H : Hp) (us : List Value) (vs : List V) (Q : VK) (E : XK), A.guards = some [] → Room k A → Env0 P w K mg base A outer s H → Vals vs us → sp vs H Q E → codeAny (model P w) A (.call (.ref f) ⟨us, []⟩) (CR CX outer P w H s Q E) s
section
variable {P : Program} {w : World} {K : PySem.W.Frag} {mg : Str → Option Value} {base : Heap} {CX : CXT} {k : Nat} {f : Addr} {sp : Sp}
theorem FnG.of (F : FnR P w K mg base CX k f sp) : FnG P w K mg base CX k f sp := fun A outer s H us vs Q E _ hr e0 r hs => F A outer s H us vs Q E hr e0 r hs
theorem okG {x qual : Str} {st : Stmt} {fd : FuncData} {N ps : List Str} (F : L2.Fun K x qual st f fd) (S : FnScope N ps (defScope st)) (B : Binds K fd ps []) (hlen : ∀ vs H Q E, sp vs H Q E → vs.length = ps.length)
    (hbody : ∀ (cdv : Value) (A : Around) (outer : List Env) (s : Shared) (H : Hp) (vs : List V) (Q : VK) (E : XK), A.guards = some [] → Room k (A.deeper (envOfC qual (defScope st) s.heap.objs.size f cdv)) → sp vs H Q E →
      ∃ t, PSs (cxOf CX P w K mg base N qual (defScope st) f cdv A outer s H E) (defBody st) t ∧ t { nx := fun _ H' => Q .non H', rt := Q } (start N vs) H) : FnG P w K mg base CX (k + 1) f sp := by
  intro A outer s H us vs Q E hg hr e0 r hsp
  obtain ⟨oc, od, kV, doc, pm, an, cdv, ct, osl, rfl, lk, hcd⟩ := F.ex
  have hv : vs.length = ps.length := hlen _ _ _ _ hsp
  have hu : us.length = ps.length := by rw [← r.length]; exact hv
  have KI : K.In s.heap := e0.mod.kin.keeps fun b o e => (e0.bs b o e).1
  have b0 := B s us KI (by rw [List.append_nil]; exact hu)
  rw [List.append_nil] at b0
  refine StX.run_bnd lk hcd S hr e0 (G := fun xs H2 => xs = vs ∧ H2 = H) (fun A' Ex Q' h => ?_) fun s2 H2 xs ⟨ex, eH⟩ hr' => ?_
  · exact b0 _ _ _ _ (h s H vs us e0 Un.refl rfl (fun _ _ z => z) r hv ⟨rfl, rfl⟩)
  · subst ex eH
    exact hbody cdv A outer s2 _ _ Q E hg hr' hsp
end
section
variable {X : Cx} {CX : CXT} {k : Nat} {f : Addr} {sp : Sp} {E : XK} {x : Str} {e : Expr} {es : List Expr} {t : TA} {p pos : Pos}
theorem pe_callG (F : FnG X.prog X.w X.K X.mg X.base CX k f sp) (hgd : X.A.guards = some []) (hr : Room k X.A) (hk : PySem.W.keepIn X.K (.ref f) = true) (hg : Gl X x) (hm : X.mg x = some (.ref f)) (hx : Passes CX X E) (ha : PA X (e :: es) t) (hd : (x == ("__debug__" : Str)) = false := by decide)
    (he : starEach (e :: es) X.env = (false, eval e X.env) :: starEach es X.env := by rfl) (hpl : (backTo pos (starEach es X.env)).any (·.1) = false := by rfl) :
    PE X (.Call (.Name x p) (e :: es) [] pos) (fun σ H Q => t σ H fun vs H1 => sp vs H1 Q E) := ⟨fun pins s σ H Q I h => by
  refine wpAny_Call_Name_kw (ld_glob I hg hm (PySem.W.callWith_K (h₀ := X.base) I.ok.mod.kin hk (thn (ha.run pos pins s σ H _ I h) fun us s1 hz => ?_) he hpl) hd)
  obtain ⟨vs, H1, I1, r, q⟩ := hz
  refine ⟨I1.kIn, wpAny_call (codeAny_mono (F X.A X.stack s1 H1 us vs Q E hgd hr I1.env0 r q) fun rr s' hq => ?_)⟩
  match rr, hq with
  | .error ee, hq => exact hx pins σ H1 s1 ee s' I1 hq
  | .ok (.ret u), hq => exact I1.after hq
  | .ok .next, hq => exact hq.elim
  | .ok .brk, hq => exact hq.elim
  | .ok .cont, hq => exact hq.elim⟩
/-- repr of data without dicts -/
def rReprD (K : PySem.W.Frag) : List V → Hp → VK → Prop := fun xs H Q => ∃ (p : Addr) (d : PyData), xs = [.ref p] ∧ Dp K H (.ref p) d ∧ d.showable = true ∧ d.hasDict = false ∧ d.depth ≤ 50 ∧ d.shown.length ≤ sizeLine ∧ Q (.str d.shown) H
theorem call_reprD (hgd : X.A.guards = some []) (hu : X.A.units + 65 < cLine) : CallR X (.builtin "repr") (rReprD X.K) := fun pins s σ H xs us Q I r h => by
  obtain ⟨p, d, rfl, hd, hs, hnd, hdp, hz, q⟩ := h
  obtain ⟨u, rfl, ru⟩ : ∃ u, us = [u] ∧ RelV (.ref p) u := by
    cases r with
    | cons a b => cases b; exact ⟨_, rfl, a⟩
  cases (show u = Value.ref p from ru)
  obtain ⟨as, rd⟩ := Dp.reads I d _ _ hd ru
  exact repr_of_reads' rd hs (fun e => by rw [hnd] at e; cases e) hgd (by omega) (fun _ _ e => e) (fun h' u tk hk => ⟨.str d.shown, H, I.kept hk, ⟨_, rfl⟩, q⟩) hz
end
/-! ### the end of a row, for such a promise -/
theorem law_callG {P : Program} {w : World} {K : PySem.W.Frag} {mg mb : Str → Option Value} {k : Nat} {fa a : Addr} {sp : Sp} {s1 : Shared} {vs : List Value} {ns : List Int}
    (KX : K.In s1.heap) (hns : s1.heap.Ns mainGlobals mg) (hb : s1.heap.Ns builtinsNs mb) (hbb : ∀ x : Str, x ≠ "__name__" → mb x = bootBuiltins x) (hlim : s1.heap.NoLimit) (hg : s1.gens = #[])
    (ha : s1.heap.get? a = some { cls := .type "list", data := .seq vs.toArray }) (hi : IntsAre vs ns) (hl : ns.length ≤ sizeLine) (hr : Room k callerA)
    (F : ∀ base : Heap, K.In base → base.Ns mainGlobals mg → FnG P w K mg base CX0 k fa sp)
    (hsp : ∀ H : Hp, Only H → SqL K H a (ns.map V.int) → sp [.ref a] H (fun v _ => v = .bl true) fun _ _ _ => False) :
    codeAny (model P w) callerA (.call (.ref fa) ⟨[.ref a], []⟩) (fun r s' => r = .ok (.ret (.bool true)) ∧ OldK s1.heap s'.heap ∧ s'.os = s1.os ∧ AllBare s'.gens) s1 := by
  have rv := vals_ints hi
  have lv := hi.length
  have main : ∀ H : Hp, Only H → SqL K H a (ns.map V.int) → HOk P w H s1.heap → (∀ b, H b ≠ none → b = a) → (H a ≠ none → K.lookup a = none) →
      codeAny (model P w) callerA (.call (.ref fa) ⟨[.ref a], []⟩) (fun r s' => r = .ok (.ret (.bool true)) ∧ OldK s1.heap s'.heap ∧ s'.os = s1.os ∧ AllBare s'.gens) s1 := by
    intro H hO hS hok hA hK
    have free : ∀ {b : Addr} {o : Obj} {es : Array DictEntry} {ep : Nat}, s1.heap.get? b = some o → o.data = .dict es ep → H b = none := by
      intro b o es ep e d
      refine Classical.byContradiction fun q => ?_
      cases hA b q
      cases ha.symm.trans e
      cases d
    have nsT : ∀ {b : Addr} {m : Str → Option Value}, s1.heap.Ns b m → (hidT s1.heap H).Ns b m := by
      intro b m ⟨o, es, ep, e, d, r⟩
      exact ⟨o, es, ep, hidT_get e (free e d), d, r⟩
    have KT : K.In (hidT s1.heap H) := by
      intro b o e
      refine hidT_get (KX b o e) (Classical.byContradiction fun q => ?_)
      cases hA b q
      cases (hK q).symm.trans e
    have md : Mod K mg (hidT s1.heap H) := ⟨KT, nsT hns, ⟨mb, nsT hb, hbb⟩, hlim.elim fun mc hc => ⟨mc, nsT hc.1, hc.2⟩⟩
    have en : Env0 P w K mg (hidT s1.heap H) callerA [] s1 H := ⟨rfl, md, fun _ _ e => of_hidT e, Nat.le_of_eq (hidT_size ..), True.intro, fun _ hb => (List.not_mem_nil hb).elim, hok, AllBare.of_eq hg⟩
    refine codeAny_mono (F _ KT (nsT hns) callerA [] s1 H [.ref a] [.ref a] _ _ rfl hr en (.cons rfl .nil) (hsp H hO hS)) fun r s' h => ?_
    match r, h with
    | .error e, h => exact h.elim
    | .ok .next, h => exact h.elim
    | .ok .brk, h => exact h.elim
    | .ok .cont, h => exact h.elim
    | .ok (.ret u), h =>
      obtain ⟨v, H', os, bare, un, hok', rr, q⟩ := h
      cases (show v = .bl true from q)
      cases (show u = Value.bool true from rr)
      refine ⟨rfl, OldK.of_keep fun b o e => ?_, os, bare⟩
      rcases hO b with z | ⟨ob, xs, z⟩
      · exact un.keep b o e z (fun y => (List.not_mem_nil y).elim) (List.not_mem_nil)
      · have t1 := (hok b _ z).1
        have t2 := (hok' b _ (un.frzs b ob _ z)).1
        rw [e] at t1
        cases t1
        exact t2
  cases hk : K.lookup a with
  | some o =>
    cases ha.symm.trans (KX a o hk)
    exact main (fun _ => none) (fun _ => Or.inl rfl) (Or.inr ⟨_, vs.toArray, _, hk, rfl, rfl, rfl, by rw [List.size_toArray, lv]; exact hl, by simpa using rv⟩) (fun b u z => nomatch (show (none : Option HO) = some u from z)) (fun b z => (z rfl).elim) (fun z => (z rfl).elim)
  | none =>
    have hs : ∀ b : Addr, b = a → (if b = a then some (HO.frz { cls := .type "list", data := .seq vs.toArray } (.lst (ns.map V.int))) else none) = some (HO.frz { cls := .type "list", data := .seq vs.toArray } (.lst (ns.map V.int))) := fun b e => if_pos e
    have hn : ∀ b : Addr, b ≠ a → (if b = a then some (HO.frz { cls := .type "list", data := .seq vs.toArray } (.lst (ns.map V.int))) else none) = none := fun b e => if_neg e
    refine main (fun b => if b = a then some (HO.frz { cls := .type "list", data := .seq vs.toArray } (.lst (ns.map V.int))) else none) (fun b => ?_) (Or.inl (Or.inr ⟨_, hs a rfl⟩)) (fun b u z => ?_) (fun b z => Classical.byContradiction fun e => z (hn b e)) (fun _ => hk)
    · by_cases e : b = a
      · exact Or.inr ⟨_, _, hs b e⟩
      · exact Or.inl (hn b e)
    · by_cases e : b = a
      · cases (hs b e).symm.trans z
        subst e
        exact ⟨ha, by rw [List.length_map]; exact hl, vs, _, rv, ha⟩
      · cases (hn b e).symm.trans z
theorem walk_ofG {l : PySem.W.OpenLaw} {n k : Nat} {q : Program} {loose : List Str} {XP : (Str → Option Value) → Heap → Prop} {YP : World → Heap → Prop} {d : DefRec} {K : Params → PySem.W.Frag} {sp : World → Sp}
    (hn : l.most = some n) (hn2 : n ≤ sizeLine) (hdf : d.params.defaults = []) (hr : Room k callerA) (hY : ∀ (w : World) (h : Heap), YP w h → (K w.params).In h)
    (F : ∀ (w : World) (mg : Str → Option Value) (fa : Addr) (h : Heap), (K w.params).In h → h.Ns mainGlobals mg → mg d.name = some (.ref fa) →
      ∀ base : Heap, (K w.params).In base → base.Ns mainGlobals mg → FnG l.prog w (K w.params) mg base CX0 k fa (sp w))
    (hsp : ∀ (w : World) (H : Hp) (a : Addr) (ns : List Int), ns.length ≤ n → Only H → SqL (K w.params) H a (ns.map V.int) → sp w [.ref a] H (fun v _ => v = .bl true) fun _ _ _ => False) :
    PySem.W.WalkO q loose XP YP l.row.toRowW d [] (fun f vs => PySem.call f vs) := by
  refine Att.attach_call hn hdf fun w s0 s1 mg mb fa o pm cd doc a vs ns G Y ho hd hcd hmg hobj hints hlen hg => ?_
  have KX := hY w _ Y
  exact law_callG KX G.T.g G.T.b G.T.builtins G.T.nolimit hg hobj hints (Nat.le_trans hlen hn2) hr (F w mg fa _ KX G.T.g hmg) fun H hO hS => hsp w H a ns hlen hO hS
end FR
set_option Elab.async false
set_option linter.all false
set_option maxRecDepth 100000
/-! repr of data with dicts -/
namespace FR
open PySem PySem.Spec PyProof.Rows L2 TL
def kD : Key → PyData
  | .inl i => .int i
  | .inr x => .str x
mutual
/-- x stands for the datum d, lists, tuples and dicts of this run all the way -/
inductive Dq (H : Hp) : V → PyData → Prop
  | non : Dq H .non .none
  | bl (b : Bool) : Dq H (.bl b) (.bool b)
  | int (i : Int) : Dq H (.int i) (.int i)
  | str (x : Str) : Dq H (.str x) (.str x)
  | lst {a : Addr} {xs : List V} {ds : List PyData} : H a = some (.lst xs) → sysModules < a → DqAll H xs ds → Dq H (.ref a) (.list ds)
  | tup {a : Addr} {xs : List V} {ds : List PyData} : H a = some (.tup xs) → DqAll H xs ds → Dq H (.ref a) (.tuple ds)
  | dct {a : Addr} {kvs : List (Key × V)} {ds : List (PyData × PyData)} : H a = some (.dK kvs) → DqKv H kvs ds → Dq H (.ref a) (.dict ds)
inductive DqAll (H : Hp) : List V → List PyData → Prop
  | nil : DqAll H [] []
  | cons {v : V} {vs : List V} {d : PyData} {ds : List PyData} : Dq H v d → DqAll H vs ds → DqAll H (v :: vs) (d :: ds)
inductive DqKv (H : Hp) : List (Key × V) → List (PyData × PyData) → Prop
  | nil : DqKv H [] []
  | cons {k : Key} {v : V} {vs : List (Key × V)} {d : PyData} {ds : List (PyData × PyData)} : Dq H v d → DqKv H vs ds → DqKv H ((k, v) :: vs) ((kD k, d) :: ds)
end
section
variable {X : Cx} {pins : List (Addr × Obj)} {σ : L2.St} {H : Hp} {s : Shared}
theorem kD_reads (k : Key) {u : Value} (h : keyIs k u = true) : Reads s.heap u (kD k) [] := by
  rcases keyIs_shape h with ⟨i, t, rfl, rfl⟩ | ⟨x, t, rfl, rfl⟩
  · exact .int i t
  · exact .str x t
mutual
theorem Dq.reads (I : Inv X pins σ H s) : ∀ (d : PyData) (v : V) (u : Value), Dq H v d → RelV v u → ∃ as, Reads s.heap u d as ∧ sysModules ∉ as
  | .none, _, _, h, r => by
    cases h
    cases r
    exact ⟨_, Reads.none, by simp⟩
  | .bool b, _, _, h, r => by
    cases h
    cases r
    exact ⟨_, Reads.bool b, by simp⟩
  | .int i, _, _, h, r => by
    cases h
    obtain ⟨t, rfl⟩ := r
    exact ⟨_, Reads.int i t, by simp⟩
  | .str x, _, _, h, r => by
    cases h
    obtain ⟨t, rfl⟩ := r
    exact ⟨_, Reads.str x t, by simp⟩
  | .list ds, _, _, h, r => by
    cases h with
    | lst hs hb ha =>
      cases r
      obtain ⟨_, its, n, rv, e⟩ := (show ObjOk X.prog X.w H s.heap _ (.lst _) from I.hok _ _ hs)
      obtain ⟨as, q, z⟩ := Dq.readsAll I ds _ _ ha rv
      exact ⟨_, Reads.list e rfl rfl q, fun h => (List.mem_cons.mp h).elim (fun e => by rw [← e] at hb; exact absurd hb (Nat.lt_irrefl _)) z⟩
  | .tuple ds, _, _, h, r => by
    cases h with
    | tup hs ha =>
      cases r
      obtain ⟨_, its, rv, o, e, hc, n, hd⟩ := (show ObjOk X.prog X.w H s.heap _ (.tup _) from I.hok _ _ hs)
      obtain ⟨as, q, z⟩ := Dq.readsAll I ds _ _ ha rv
      exact ⟨_, Reads.tuple e hc hd q, z⟩
  | .dict ds, _, _, h, r => by
    cases h with
    | dct hs ha =>
      cases r
      obtain ⟨_, ns, vs, kv, o, es, ep, e, hx, hd, _, hp, _⟩ := (show ObjOk X.prog X.w H s.heap _ (.dK _) from I.hok _ _ hs)
      obtain ⟨bs, q1, q2, z⟩ := Dq.readsKv I ds _ _ es.toList ha kv hp
      exact ⟨_, Reads.dict e hx.1 hd q1 q2, fun h => (List.mem_append.mp h).elim (fun h => (List.mem_cons.mp h).elim (fun e => by rw [← e] at ns; simp at ns) (fun h => by simp at h)) z⟩
theorem Dq.readsAll (I : Inv X pins σ H s) : ∀ (ds : List PyData) (vs : List V) (us : List Value), DqAll H vs ds → Vals vs us → ∃ as, ReadsAll s.heap us ds as ∧ sysModules ∉ as
  | [], _, _, h, r => by
    cases h
    cases r
    exact ⟨_, ReadsAll.nil, by simp⟩
  | d :: ds, _, _, h, r => by
    cases h with
    | cons h1 h2 =>
      cases r with
      | cons r1 r2 =>
        obtain ⟨as, q1, z1⟩ := Dq.reads I d _ _ h1 r1
        obtain ⟨bs, q2, z2⟩ := Dq.readsAll I ds _ _ h2 r2
        exact ⟨_, ReadsAll.cons q1 q2, fun h => (List.mem_append.mp h).elim z1 z2⟩
theorem Dq.readsKv (I : Inv X pins σ H s) : ∀ (ds : List (PyData × PyData)) (kvs : List (Key × V)) (vs : List (Key × Value)) (es : List DictEntry), DqKv H kvs ds → KV kvs vs → Pairs (mixKind X.prog X.w) es vs →
    ∃ bs, ReadsAll s.heap (es.map (·.key)) (ds.map (·.1)) [] ∧ ReadsAll s.heap (es.map (·.val)) (ds.map (·.2)) bs ∧ sysModules ∉ bs
  | [], _, _, _, h, r, p => by
    cases h
    cases r
    cases p
    exact ⟨_, ReadsAll.nil, ReadsAll.nil, by simp⟩
  | d :: ds, _, _, _, h, r, p => by
    cases h with
    | cons h1 h2 =>
      cases r with
      | cons r1 r2 =>
        cases p with
        | cons p1 p2 p3 =>
          obtain ⟨as, q1, z1⟩ := Dq.reads I _ _ _ h1 r1.2
          obtain ⟨bs, q2, q3, z2⟩ := Dq.readsKv I ds _ _ _ h2 r2 p3
          have p1' := p1
          rw [← r1.1] at p1'
          refine ⟨_, ?_, ?_, fun h => (List.mem_append.mp h).elim z1 z2⟩
          · exact ReadsAll.cons (as := []) (bs := []) (kD_reads _ (show keyIs _ _ = true from p1')) q2
          · rw [List.map_cons, List.map_cons, p2]
            exact ReadsAll.cons q1 q3
end
end
/-! lists at an address behind sysModules -/
structure NewS (o : HO) (Q : VK) (H : Hp) : Prop where
  to : ∀ (p : Addr) (H' : Hp), H p = none → sysModules < p → Keep [] H H' → H' p = some o → Q (.ref p) H'
section
variable {X : Cx} {es : List Expr} {t : TA} {pos : Pos}
def tLstS (t : TA) : TE := fun σ H Q => t σ H fun xs H1 => xs.length ≤ sizeLine ∧ NewS (.lst xs) Q H1
theorem pe_lstS (h : PA X es t) : PE X (.List es pos) (tLstS t) := by
  refine ⟨fun pins s σ H Q I hq => wpAny_List_spliced (thn (h.run _ pins s σ H _ I hq) fun us s1 hh => ?_)⟩
  obtain ⟨xs, H1, I1, r, z, q⟩ := hh
  refine ⟨by rw [← r.length]; exact z, .ref s1.heap.objs.size, upd H1 s1.heap.objs.size (.lst xs), I1.laid (t' := s1.toks) (fun _ _ e => Heap.get?_push_of_some _ e) (Nat.le_refl _) ⟨z, us, 0, r, Heap.get?_push_size _ rfl⟩, rfl, ?_⟩
  exact q.to _ _ (I1.hok.fresh (Nat.le_refl _)) I1.big (keep_new (I1.hok.fresh (Nat.le_refl _))) upd_same
end
section
variable {X : Cx}
def rReprQ : List V → Hp → VK → Prop := fun xs H Q => ∃ (p : Addr) (d : PyData), xs = [.ref p] ∧ Dq H (.ref p) d ∧ d.showable = true ∧ d.depth ≤ 50 ∧ d.shown.length ≤ sizeLine ∧ Q (.str d.shown) H
theorem call_reprQ (hgd : X.A.guards = some []) (hu : X.A.units + 65 < cLine) : CallR X (.builtin "repr") rReprQ := fun pins s σ H xs us Q I r h => by
  obtain ⟨p, d, rfl, hd, hs, hdp, hz, q⟩ := h
  obtain ⟨u, rfl, ru⟩ : ∃ u, us = [u] ∧ RelV (.ref p) u := by
    cases r with
    | cons a b => cases b; exact ⟨_, rfl, a⟩
  cases (show u = Value.ref p from ru)
  obtain ⟨as, rd, hsm⟩ := Dq.reads I d _ _ hd ru
  exact repr_of_reads' rd hs (fun _ => hsm) hgd (by omega) (fun _ _ e => e) (fun h' u tk hk => ⟨.str d.shown, H, I.kept hk, ⟨_, rfl⟩, q⟩) hz
end
end FR
set_option Elab.async false
set_option linter.all false
set_option maxRecDepth 100000
set_option maxHeartbeats 2000000
/-! exceptions of the program with one field, value -/
namespace PySem
namespace ExV
open PySem.W PySem.Calls PyProof.Rows PySem.HandSPX
/-! ### the text of __init__ -/
def iA (p1 p2 : Pos) : Arguments := { posonlyargs := [], args := [{ arg := "self", annotation := none, pos := p1 }, { arg := "value", annotation := none, pos := p2 }], vararg := none, kwonlyargs := [], kw_defaults := [], kwarg := none, defaults := [] }
def iB (q1 q2 q3 q4 : Pos) : List Stmt := [.Assign [.Attribute (.Name "self" q1) "value" q2] (.Name "value" q3) q4]
def iS : Scope := { kind := .function, names := [(PySem.Str.ofString "self", .local), (PySem.Str.ofString "value", .local)], isGenerator := false, isCoroutine := false, more := [] }
/-- what the written part says of Low, at C, and of its __init__, at fI -/
structure LowTxt (K : Frag) (mg : Str → Option Value) (cn qn : Str) (C fI : Addr) : Prop where
  gC : mg cn = some (.ref C)
  cls : ∃ nm q N bs bm sn sub ab col dd k0 k1 k2 k3 k5, K.lookup C = some (excClassObj nm q C N bs bm true sn sub ab col dd k0 k1 k2 k3 k5 "ValueError.__new__") ∧ refsVE bm = true
  sa : findIn K (.ref C) "__setattr__" = some (some (.builtin "object.__setattr__"))
  ga : findIn K (.ref C) "__getattribute__" = some (some (.builtin "BaseException.__getattribute__"))
  gg : findIn K (.ref C) "__getattr__" = some none
  noN : findIn K (.ref C) "value" = some none
  iC : findIn K (.ref C) "__init__" = some (some (.ref fI))
  tC : typeIn K (.ref fI) = some (.type "function")
  kC : keepIn K (.ref C) = true
  exC : subIn K (.ref C) (.type "BaseException") = some true
  tyC : typeIn K (.ref C) = some (.type "type")
  hdC : hasDictIn K C = true
  te : exmOne K (.ref C) (.ref C) = some true
  fn : ∃ (oc : Value) (od : Option Addr) (doc pm : Value) (an : Option Addr) (cdv ct : Value) (osl : Array (Option Value)) (p1 p2 q1 q2 q3 q4 : Pos),
    K.lookup fI = some ⟨oc, od, .func (fnOf "__init__" qn (iA p1 p2) (iB q1 q2 q3 q4) iS .none .none doc pm an cdv ct), osl⟩ ∧ codeIn K cdv qn = true
theorem one_size (v : Value) : [v].length ≤ sizeLine := by
  rw [sizeLine_eq]
  exact (by decide : 1 ≤ 16777216)
theorem kept_but {K : Frag} {h h' : Heap} {x : Addr} (X : K.In h) (hx : K.lookup x = none) (k : ∀ b o, b ≠ x → h.get? b = some o → h'.get? b = some o) : K.In h' := fun a o e =>
  k a o (fun z => by rw [z, hx] at e; cases e) (X a o e)
theorem ldC {M : Model} {s : Shared} {name : Str} {scope : Scope} {L a : Addr} {cd : Value} {m : Str → Option Value} {x : Str} {pos : Pos} {v : Value} {Q : Value → Shared → Prop} {A : Around} {E : Value → Shared → Prop} (hn : s.heap.Ns L m) (hv : m x = some v) (h : Q v s)
    (hk : scope.kind = .function := by rfl) (hl : (envOfC name scope L a cd).kindOf x = some .local := by rfl) (hd : (x == ("__debug__" : Str)) = false := by decide) :
    wpAny M A (eval (.Name x pos) (envOfC name scope L a cd)) Q E s := wpAny_Name (wpAny_loadName_local hk hl hn hv h) hd
/-- what __init__ leaves of a fresh exception at x -/
structure InitEnd (h h' : Heap) (x C dx t1 : Addr) (v : Value) : Prop where
  keep : ∀ b o, b ≠ x → h.get? b = some o → h'.get? b = some o
  obj : h'.get? x = some { cls := .ref C, dict := some dx, data := .fields #[.ref t1, .none, .none, .none, .bool false, .none] }
  dbig : h.objs.size ≤ dx
  dne : dx ≠ x
  ns : h'.Ns1 dx (fun y => if y = "value" then some v else none)
/-- a made Low -/
structure OwnMade (h h' : Heap) (e C d : Addr) (v : Value) : Prop where
  keep : ∀ b o, h.get? b = some o → h'.get? b = some o
  new : h.objs.size ≤ e
  obj : ∃ oe vs, h'.get? e = some oe ∧ oe.cls = .ref C ∧ oe.dict = some d ∧ oe.data = .fields vs ∧ vs[1]? = some .none
  dbig : h.objs.size ≤ d
  dne : d ≠ e
  ns : h'.Ns1 d (fun y => if y = "value" then some v else none)
section
variable {prog : Program} {w : World} {A : Around} {E : Value → Shared → Prop} {R : Result → Shared → Prop} {s : Shared} {K : Frag} {mg : Str → Option Value} {C fI : Addr} {cn qn : Str}
theorem low_init (T : LowTxt K mg cn qn C fI) {x t0 : Addr} {v : Value} (X : K.In s.heap) (hlim : s.heap.NoLimit) (hx : s.heap.get? x = some (excO C t0)) (hnx : K.lookup x = none) (hroom : A.depth < recursionLimit)
    (hq : ∀ h' tk dx, InitEnd s.heap h' x C dx t0 v → R (.ok (.ret .none)) { s with heap := h', toks := tk }) :
    codeAny (model prog w) A (.call (.ref fI) ⟨[.ref x, v], []⟩) R s := by
  obtain ⟨oc, od, doc, pm, an, cdv, ct, osl, p1, p2, q1, q2, q3, q4, ho, hcd⟩ := T.fn
  obtain ⟨nm, q, N, bs, bm, sn, sub, ab, col, dd, k0, k1, k2, k3, k5, hC, hbm⟩ := T.cls
  have hcl : clsIn K C = some { name := nm, bases := bs, mro := .ref C :: bm, ns := N, qualname := q, hasDict := true, slotNames := sn, subclasses := sub, abstract := ab, collection := col, hasDel := false } := by unfold clsIn; rw [hC] <;> rfl
  refine Att.call_fn (binds := [("self", .ref x), ("value", v)]) X hlim ho hcd hroom (BindsTo.of_eq (by first | rfl | with_unfolding_all rfl)) (by first | rfl | decide | with_unfolding_all rfl) (fun s₁ IC => ?_) rfl rfl rfl
  obtain ⟨h₁, tk₁, rfl⟩ := IC.toInCall.same
  have k : ∀ b o, s.heap.get? b = some o → h₁.get? b = some o := IC.toInCall.keep
  have hn := IC.toInCall.ns
  have hxL : s.heap.objs.size ≠ x := Nat.ne_of_gt (Heap.lt_size hx)
  have X₁ : K.In h₁ := X.keeps k
  have hx₁ := k _ _ hx
  -- self.by = by
  show wpAny _ _ (execs _ _) _ _ _
  refine wpAny_execs_cons (plainObj_wpAny_Assign_Attribute ?_)
  refine ldC (v := v) hn (by first | rfl | with_unfolding_all rfl | kernel_rfl) (ldC (v := .ref x) hn (by first | rfl | with_unfolding_all rfl | kernel_rfl) ?_)
  refine set_plain X₁ (ox := excO C t0) (od := none) ⟨hx₁, rfl, rfl, trivial⟩ T.sa ?_
  refine exc_osa X₁ hx₁ hcl (show refsVE (.ref C :: bm) = true from hbm) rfl T.noN (fun h₃ tk₃ dx k₃ dn dne hx₃ hn₃ => ?_)
  show wpAny _ _ (execs _ _) _ _ _
  have z : s.heap.objs.size < h₁.objs.size := hn.lt
  exact wpAny_execs_nil (hq h₃ tk₃ dx ⟨fun b o hb e => k₃ b o hb (k b o e), hx₃, Nat.le_of_lt (Nat.lt_of_lt_of_le z dn), dne, hn₃⟩)
theorem low_made (T : LowTxt K mg cn qn C fI) {v : Value} (X : K.In s.heap) (hlim : s.heap.NoLimit) (hroom : A.depth + 1 < recursionLimit)
    (hq : ∀ h' tk e d, OwnMade s.heap h' e C d v → R (.ok (.ret (.ref e))) { s with heap := h', toks := tk }) :
    codeAny (model prog w) A (.call (.ref C) ⟨[v], []⟩) R s := by
  obtain ⟨nm, q, N, bs, bm, sn, sub, ab, col, dd, k0, k1, k2, k3, k5, hC, hbm⟩ := T.cls
  obtain ⟨hp, g, dr, tk, os⟩ := s
  have k : ∀ b o, hp.get? b = some o → ((hp.push (kdv_tup [v])).push (excO C hp.objs.size)).get? b = some o := fun b o e => Heap.get?_push_of_some _ (Heap.get?_push_of_some _ e)
  have hget : ((hp.push (kdv_tup [v])).push (excO C hp.objs.size)).get? (hp.objs.size + 1) = some (excO C hp.objs.size) := by heap_get
  have hnx : K.lookup (hp.objs.size + 1) = none := by
    cases e : K.lookup (hp.objs.size + 1) with
    | none => rfl
    | some o =>
      have z : hp.get? (hp.objs.size + 1) = some o := X _ _ e
      exact absurd (Nat.lt_of_succ_lt (Heap.lt_size z)) (Nat.lt_irrefl _)
  refine call_own F.excBase_ValueError (fun X => refsVE_contains X bm hbm) (X _ _ hC) (looks_findIn X T.iC) (fun self => bind_fn X self T.tC) (one_size v) ?_
  refine low_init (s := ⟨(hp.push (kdv_tup [v])).push (excO C hp.objs.size), g, dr, tk, os⟩) T (X.keeps k) (hlim.keeps k) hget hnx ?_ fun h' tk' dx ⟨k', hx, dn, dne, hns⟩ => ?_
  · show A.depth + 1 < recursionLimit
    exact hroom
  · have old : ∀ b o, hp.get? b = some o → h'.get? b = some o := fun b o e => k' b o (Nat.ne_of_lt (Nat.lt_succ_of_lt (Heap.lt_size e))) (k b o e)
    have z : hp.objs.size + 1 + 1 ≤ dx := by
      first
        | (simpa only [Heap.size_push] using dn)
        | exact dn
        | (have q := dn; rw [Heap.size_push, Heap.size_push] at q; exact q)
    exact ⟨rfl, hq h' tk' (hp.objs.size + 1) dx ⟨old, Nat.le_succ _, ⟨_, _, hx, rfl, rfl, rfl, rfl⟩, Nat.le_trans (Nat.le_trans (Nat.le_succ _) (Nat.le_succ _)) z, dne, hns⟩⟩
end
end ExV
end PySem
namespace L2
open PySem PySem.Spec PyProof.Rows
theorem relO_low {v : V} {v' : Value} (r : RelV v v') (f : Str) : RelO (List.lookup f [(("value" : Str), v)]) (if f = "value" then some v' else none) := by
  by_cases hw : f = "value"
  · subst hw
    rw [if_pos rfl]
    have q : List.lookup ("value" : Str) [(("value" : Str), v)] = some v := by simp [List.lookup]
    rw [q]
    exact r
  · rw [if_neg hw]
    have qw : (f == ("value" : Str)) = false := by simpa using hw
    have q2 : List.lookup f [(("value" : Str), v)] = none := by simp [List.lookup, qw]
    rw [q2]
    trivial
section
variable {X : Cx} {C fI : Addr} {cn qn : Str}
/-- Low(e) -/
def tMkLow (C : Addr) (ta : TA) : St → Hp → XK → Prop := fun σ H Q => ta σ H fun vs H1 => ∃ v, vs = [v] ∧ ∀ d, H1 d = none → Q (.ref C) (some d) (upd H1 d (.xd [(("value" : Str), v)]))
theorem pmk_low {a : Expr} {ta : TA} {p pos : Pos} {k : Nat} (T : PySem.ExV.LowTxt X.K X.mg cn qn C fI) (hr : Room k X.A) (ha : PA X [a] ta) (hdb : (cn == ("__debug__" : Str)) = false := by decide) (hg : Gl X cn := by rfl)
    (he : starEach (a :: []) X.env = (false, eval a X.env) :: starEach [] X.env := by rfl) (hpl : (backTo pos (starEach [] X.env)).any (·.1) = false := by rfl) :
    PMk X (.Call (.Name cn p) [a] [] pos) (tMkLow C ta) := by
  intro pins s σ H Q I h
  refine wpAny_Call_Name_kw (ld_glob I hg T.gC ?_ hdb)
  refine PySem.W.callWith_K (h₀ := X.base) I.ok.mod.kin T.kC (thn (ha.run pos pins s σ H _ I h) fun us s1 hh => ?_) he hpl
  obtain ⟨vs, H1, I1, r1, v, ev, q1⟩ := hh
  subst ev
  refine ⟨I1.kIn, ?_⟩
  cases r1 with
  | cons rv rn =>
    rename_i v' us'
    cases rn
    show wpAny _ _ (call (.ref C) [v']) _ _ _
    have hlim := I1.nolimit
    obtain ⟨hp, g, dr, tk, os⟩ := s1
    refine wpAny_call (PySem.ExV.low_made T I1.kIn hlim (by have := hr.dp; omega) fun h' tk' e d M => ?_)
    show MkP X pins σ Q (.ref e) ⟨h', g, dr, tk', os⟩
    obtain ⟨oe, fv, hoe, hc, hd, hdat, h1⟩ := M.obj
    have hns := M.ns
    obtain ⟨G', g1, g2⟩ := restrict h' fun b => decide (b ≠ e)
    have gk : ∀ b, b ≠ e → G'.get? b = h'.get? b := fun b hb => g1 b (decide_eq_true hb)
    have ge : G'.get? e = none := g2 e (by simp)
    have old : ∀ b o, hp.get? b = some o → G'.get? b = some o := fun b o q => (gk b (Nat.ne_of_lt (Nat.lt_of_lt_of_le (Heap.lt_size q) M.new))).trans (M.keep b o q)
    have ob : ObjOk X.prog X.w (upd H1 d (.xd [(("value" : Str), v)])) G' d (.xd [(("value" : Str), v)]) :=
      ⟨_, hns.at (fun o q => (gk d M.dne).trans q), fun f => relO_low rv f⟩
    have J : Inv X pins σ (upd H1 d (.xd [(("value" : Str), v)])) ⟨G', g, dr, tk', os⟩ := I1.laid (t' := tk') old M.dbig ob
    refine ⟨e, oe, fv, ⟨G', g, dr, tk', os⟩, _, .ref C, some d, rfl, J, fun b o q => ?_, ge, hoe, ⟨hc, hd⟩, hdat, h1, ?_, rfl, I1.bare, raises_own T.exC T.tyC, q1 d (I1.hok.fresh M.dbig)⟩
    · by_cases hb : b = e
      · have q' : G'.get? b = some o := q
        rw [hb, ge] at q'; cases q'
      · exact (gk b hb).symm.trans q
    · rw [upd_ne (Ne.symm M.dne)]
      exact I1.hok.fresh M.new
/-- raise Low(e) -/
def tRaiseLow (C : Addr) (W : WX) (ta : TA) : TS := fun _ σ H => tMkLow C ta σ H fun cls d H' => W cls d σ H'
theorem ps_raiseLow {a : Expr} {ta : TA} {W : WX} {p pos pos2 : Pos} {k : Nat} (hc : X.calm = true) (T : PySem.ExV.LowTxt X.K X.mg cn qn C fI) (hr : Room k X.A) (tk : Takes X W) (ha : PA X [a] ta) (hdb : (cn == ("__debug__" : Str)) = false := by decide) (hg : Gl X cn := by rfl)
    (he : starEach (a :: []) X.env = (false, eval a X.env) :: starEach [] X.env := by rfl) (hpl : (backTo pos (starEach [] X.env)).any (·.1) = false := by rfl) :
    PS X (.Raise (some (.Call (.Name cn p) [a] [] pos)) none pos2) (tRaiseLow C W ta) := ps_raise hc tk (pmk_low T hr ha hdb hg he hpl)
/-- low.by, low the exception that the suite holds (at a; its class cls, its dict d) -/
def tByLow (C : Addr) (a : Addr) (cls : Value) (d : Option Addr) (te : TE) : TE := fun σ H Q => te σ H fun x H1 => x = .ref a ∧ cls = .ref C ∧ ∃ (dd : Addr) (v : V), d = some dd ∧ H1 dd = some (.xd [(("value" : Str), v)]) ∧ Q v H1
theorem pe_byLow {a : Addr} {oe : Obj} {cls : Value} {d : Option Addr} {pn : List (Addr × Obj)} {e : Expr} {te : TE} {pos : Pos} (T : PySem.ExV.LowTxt X.K X.mg cn qn C fI) (hz : Zc cls d oe) (hf : ∃ vs, oe.data = .fields vs) (he : PE (X.suite a ((a, oe) :: pn)) e te)
    (hb : attributeBase e "value" X.env (eval e X.env) = eval e X.env := by rfl) :
    PE (X.suite a ((a, oe) :: pn)) (.Attribute e "value" pos) (tByLow C a cls d te) := by
  refine ⟨fun pins s σ H Q I h => ?_⟩
  refine attr_of hb (thn (he.run pins s σ H _ I h) fun u s1 hh => ?_)
  obtain ⟨x, H1, I1, rx, ex, ec, dd, v, ed, ea, q⟩ := hh
  subst ex
  obtain rfl : u = Value.ref a := rx
  subst ec
  subst ed
  obtain ⟨ha, _⟩ := I1.pin (a, oe) (List.mem_append_left _ List.mem_cons_self)
  obtain ⟨vs, hd⟩ := hf
  have hx : ObjOk X.prog X.w H1 s1.heap dd (.xd [(("value" : Str), v)]) := I1.hok dd _ ea
  obtain ⟨mA, hns, hr⟩ := hx
  obtain ⟨od, ho, hl⟩ := lookIn_ns hns
  have l : List.lookup ("value" : Str) [(("value" : Str), v)] = some v := by simp [List.lookup]
  obtain ⟨u, hu, ru⟩ := RelO.some_of (v := v) (o := mA "value") (by rw [← l]; exact hr "value")
  have J : PySem.W.InstAt s1.heap a oe C (some od) := ⟨ha, hz.1, by unfold PySem.W.notCls; rw [hd] <;> rfl, by rw [hz.2]; exact ho⟩
  exact HandSPX.exc_get I1.kIn J T.ga T.gg T.exC (PySem.W.findObj_own T.hdC T.noN rfl (by rw [hl, hu])) (handed_of ru) ⟨v, H1, I1.tok _, ru, q⟩
end
end L2
set_option Elab.async false
set_option linter.all false
set_option maxRecDepth 100000
set_option maxHeartbeats 2000000
/-! try with several clauses «except C as n» of one name; what no clause takes does not come -/
namespace FR
open PySem PySem.Spec PyProof.Rows L2 TL
/-- behind a suite the clause's name is gone -/
def gone (i : Nat) (D : Ends) : Ends := { nx := fun σ H => D.nx (σ.set i none) H, rt := D.rt, bk := fun σ H => D.bk (σ.set i none) H, ct := fun σ H => D.ct (σ.set i none) H }
def wAsM (K : PySem.W.Frag) (i : Nat) (D : Ends) : List (Value × (Addr → Value → Option Addr → TS)) → WX
  | [] => fun _ _ _ _ => False
  | (c, ts) :: r => fun cls d σ H => ∃ b, PySem.W.exmOne K cls c = some b ∧ (b = true → ∀ a, H a = none → ts a cls d (gone i D) (σ.set i (some (.ref a))) H) ∧ (b = false → wAsM K i D r cls d σ H)
inductive ClausesOk (X : Cx) (n : Str) : List ExceptHandler → List (Value × (Addr → Value → Option Addr → TS)) → Prop
  | nil {hds : List ExceptHandler} : ClausesOk X n hds []
  | cons {x : Str} {c : Value} {ts : Addr → Value → Option Addr → TS} {st : Stmt} {sts : List Stmt} {p1 p2 : Pos} {hds : List ExceptHandler} {l : List (Value × (Addr → Value → Option Addr → TS))} (hc : Names X x c)
      (hsu : ∀ (a : Addr) (oe : Obj) (cls : Value) (d : Option Addr) (pn : List (Addr × Obj)), Zc cls d oe → (∃ vs, oe.data = .fields vs) → PSs (X.suite a ((a, oe) :: pn)) (st :: sts) (ts a cls d)) (r : ClausesOk X n hds l) :
      ClausesOk X n (.ExceptHandler (some (.Name x p1)) (some n) (st :: sts) p2 :: hds) ((c, ts) :: l)
section
variable {X : Cx} {n : Str} {i : Nat} {body : List Stmt} {hd0 : ExceptHandler} {hds : List ExceptHandler} {l : List (Value × (Addr → Value → Option Addr → TS))} {pos : Pos} {tb : WX → TS}
theorem ps_try_asM (hs : X.stack = X.env :: X.outer) (hf : X.env.frame = some X.env.locals) (hN : X.N.Nodup) (hi : X.N[i]? = some n) (hln : X.env.kindOf n = some .local)
    (hb : ∀ (W : WX) (pn : List (Addr × Obj)) (xe : Value → Shared → Prop), Takes (X.tr pn xe) W → PassesOwn (model X.prog X.w) X.A X.env xe → PSs (X.tr pn xe) body (tb W))
    (hh : ClausesOk X n (hd0 :: hds) l) : PS X (.Try body (hd0 :: hds) [] [] pos) (fun D σ H => tb (wAsM X.K i D l) D σ H) := by
  refine ⟨fun pins s σ H D I h => wpAny_Try_except ?_⟩
  have okX := I.ok
  have fr : X.A.frames = some (X.env :: X.outer) := by rw [okX.frames, hs]
  let land : Value → Shared → Prop := fun e s1 => wpAny (model X.prog X.w) X.A (noteFrame e X.env) (fun _ s2 => wpAny (model X.prog X.w) X.A (setFlight e none) (fun _ s3 => wpAny (model X.prog X.w) X.A (handleBy e X.env (hd0 :: hds)) (SP X pins D) X.xe s3) X.xe s2) X.xe s1
  have caught : ∀ (u : Value) (s1 : Shared), XE (X.tr (X.pn ++ pins) land) (wAsM X.K i D l) u s1 → land u s1 := by
    intro u s1 xx
    obtain ⟨a, B, sI, _, σ1, H1, cls, d, rfl, J0, nb, up, sky, na, os, ag, w⟩ := xx
    have J : Inv X pins σ1 H1 sI := J0.ofTry okX
    show wpAny (model X.prog X.w) X.A (noteFrame (.ref a) X.env) _ _ _
    refine Sky.land Zc.steady fr hf (by rw [← hs]; exact sky) fun g1 fl1 up1 => ?_
    have K1 : Inv X pins σ1 H1 { s1 with heap := g1 } := J.landed nb fl1.1 (up.trans up1) os ag
    obtain ⟨ob, fv, e1, z1, d1⟩ := fl1.there
    have out : a ∉ frs (X.env :: X.outer) := fun m => by
      obtain ⟨_, o2, e2, q⟩ := fl1.2.2.1.mem m
      cases e1.symm.trans e2
      exact q _ d1
    have n1 : a ≠ X.env.locals := fun z => out (List.mem_filterMap.mpr ⟨_, List.mem_cons_self, by rw [hf, z]⟩)
    have n2 : a ∉ X.fs := fun m => by
      obtain ⟨e2, m2, q⟩ := List.mem_filterMap.mp m
      exact out (List.mem_filterMap.mpr ⟨e2, List.mem_cons_of_mem _ m2, q⟩)
    have S1 := K1.suite e1 d1 na n1 n2
    have each : ∀ {cs : List ExceptHandler} {ws : List (Value × (Addr → Value → Option Addr → TS))}, ClausesOk X n cs ws → wAsM X.K i D ws cls d σ1 H1 → wpAny (model X.prog X.w) X.A (handleBy (.ref a) X.env cs) (SP X pins D) X.xe { s1 with heap := g1 } := by
      intro cs ws ck
      induction ck with
      | nil => exact fun z => z.elim
      | @cons x c ts st sts p1 p2 more wmore hc hsu _ ih =>
        rintro ⟨b, hm, yes, no⟩
        refine wpAny_handleBy_cons (codeAny_handlers_test ?_) (fun q => by cases q)
        have ty : PySem.W.Looks (model X.prog X.w) g1 (typeOf (.ref a)) cls := fun _ _ _ _ k q => wpAny_typeOf_ref (k _ _ e1) (by rw [z1.1]; exact q)
        have one := PySem.W.exm_one (M := model X.prog X.w) K1.kIn ty hm
        have named : ∀ {Q E : Value → Shared → Prop}, Q c { s1 with heap := g1 } → wpAny (model X.prog X.w) (X.A.mark (some (.ref a))) (eval (.Name x p1) X.env) Q E { s1 with heap := g1 } := by
          intro Q E q
          obtain ⟨y1, y2, y3 | ⟨y3, y4, y5⟩⟩ := hc
          · exact ld_glob (X := X.suite a ((a, ob) :: (X.pn ++ pins))) S1 y1 y3 q y2
          · exact ld_blt (X := X.suite a ((a, ob) :: (X.pn ++ pins))) S1 y1 y3 y4 q y5 y2
        refine named (one.here ?_)
        cases b with
        | false => exact ih (no rfl)
        | true =>
          refine codeAny_handlers_suite_as (HandSPX.lands_againZ fl1 fun g2 fl2 up2 => ?_)
          obtain ⟨oc, fw, e2, z2, d2⟩ := fl2.there
          have K2 : Inv X pins σ1 H1 { s1 with heap := g2 } := J.landed nb fl2.1 ((up.trans up1).trans up2) os ag
          have S2 := K2.suite e2 d2 na n1 n2
          refine store_ok (X := X.suite a ((a, oc) :: (X.pn ++ pins))) (v := .ref a) S2 hN hi (.inl hln) rfl (fun s5 S5 => ?_) (.inr hln)
          refine wpAny_mono ((hsu a oc cls d (X.pn ++ pins) z2 ⟨_, d2⟩).run [] s5 _ H1 _ S5 (yes rfl a na)) (fun f s6 hz => ?_) (fun _ _ z => z.elim)
          have ends : ∀ {σ6 : L2.St} {H6 : Hp} {Q : Shared → Prop}, Inv (X.suite a ((a, oc) :: (X.pn ++ pins))) [] σ6 H6 s6 → (∀ s7, Inv X pins (σ6.set i none) H6 s7 → Q s7) → wpAny (model X.prog X.w) X.A (do bindName X.env n .none; unbindBehindTheSuite X.env n p2) (fun _ s7 => Q s7) X.xe s6 :=
            fun S6 hq => gone_ok (S6.unsuite okX) hN hi hln hq
          match f, hz with
          | .next, ⟨_, _, S6, q6⟩ => exact ends S6 fun _ J7 => ⟨_, _, J7, q6⟩
          | .brk, ⟨_, _, S6, q6⟩ => exact ends S6 fun _ J7 => ⟨_, _, J7, q6⟩
          | .cont, ⟨_, _, S6, q6⟩ => exact ends S6 fun _ J7 => ⟨_, _, J7, q6⟩
          | .ret _, ⟨_, _, _, S6, r6, q6⟩ => exact ends S6 fun _ J7 => ⟨_, _, _, J7, r6, q6⟩
    exact each hh w
  refine wpAny_mono ((hb _ _ land caught PassesOwn.looking).run [] s σ H D (I.toTry _) h) (fun f s1 hz => ?_) (fun _ _ z => z)
  match f, hz with
  | .next, ⟨_, _, J, q⟩ => exact wpAny_execs_nil ⟨_, _, J.ofTry okX, q⟩
  | .brk, ⟨_, _, J, q⟩ => exact ⟨_, _, J.ofTry okX, q⟩
  | .cont, ⟨_, _, J, q⟩ => exact ⟨_, _, J.ofTry okX, q⟩
  | .ret _, ⟨_, _, _, J, r, q⟩ => exact ⟨_, _, _, J.ofTry okX, r, q⟩
end
end FR
set_option Elab.async false
set_option linter.all false
set_option maxRecDepth 100000
/-! isinstance of the exception that a suite holds, one with fields -/
namespace FR
open PySem PySem.Spec PyProof.Rows L2 TL
/-- the exception that the suite holds is one of the class D, with its own dict -/
def HeldE (K : PySem.W.Frag) (cls : Value) (d : Option Addr) (H : Hp) (D : Addr) : Prop := cls = .ref D ∧ ExcC K D ∧ ∃ (dd : Addr) (fs : List (Str × V)), d = some dd ∧ H dd = some (.xd fs)
section
variable {X : Cx} {a : Addr} {oe : Obj} {pn : List (Addr × Obj)} {cls : Value} {d : Option Addr} {pins : List (Addr × Obj)} {σ : L2.St} {H : Hp} {s : Shared} {D : Addr}
theorem kit_held (hz : Zc cls d oe) (hf : ∃ vs, oe.data = .fields vs) (I : Inv (X.suite a ((a, oe) :: pn)) pins σ H s) (h : HeldE X.K cls d H D) : ∃ od, PySem.W.KitX X.K (.ref a) (.ref D) (fun g => PySem.W.InstAt g a oe D (some od)) ∧ PySem.W.InstAt s.heap a oe D (some od) := by
  obtain ⟨rfl, C, dd, fs, rfl, hx⟩ := h
  obtain ⟨hget, _⟩ := I.pin (a, oe) (List.mem_append_left _ List.mem_cons_self)
  obtain ⟨vs, hv⟩ := hf
  obtain ⟨mA, hns, _⟩ := (show ObjOk X.prog X.w H s.heap dd (.xd fs) from I.hok dd _ hx)
  obtain ⟨od, ho, _⟩ := lookIn_ns hns
  obtain ⟨cd, hc, _⟩ := PySem.W.any_some C.hd
  refine ⟨od, PySem.W.kitx_exc (by rw [hc]; rfl) C.hg C.hk C.hs C.ha C.hn C.ht C.hm, hget, hz.1, ?_, ?_⟩
  · unfold PySem.W.notCls
    rw [hv] <;> rfl
  · rw [hz.2]
    exact ho
def rIsH (K : PySem.W.Frag) (a : Addr) (cls : Value) (d : Option Addr) : List V → Hp → VK → Prop := fun xs H Q => ∃ (D : Addr) (c : V) (cv : Value) (b : Bool), HeldE K cls d H D ∧ xs = [.ref a, c] ∧ ClsV c cv ∧ PySem.W.kitOne K (.ref D) cv = some b ∧ Q (.bl b) H
theorem call_isH (hz : Zc cls d oe) (hf : ∃ vs, oe.data = .fields vs) : CallR (X.suite a ((a, oe) :: pn)) (.builtin "isinstance") (rIsH X.K a cls d) := by
  intro pins s σ H xs us Q I r h
  obtain ⟨D, c, cv, b, hh, rfl, hc, e, q⟩ := h
  cases r with
  | cons rx rr =>
    cases rr with
    | cons rt rr =>
      cases rr
      cases (show _ = Value.ref a from rx)
      cases hc.eq rt
      obtain ⟨od, Z, J⟩ := kit_held hz hf I hh
      exact PySem.W.kia_one Z I.kIn J e (fun z => nomatch z) fun tk => ⟨.bl b, H, I.tok tk, rfl, q⟩
def rIsHT (K : PySem.W.Frag) (a : Addr) (cls : Value) (d : Option Addr) : List V → Hp → VK → Prop := fun xs H Q => ∃ (D tp : Addr) (cs : List V) (cvs : List Value) (b : Bool), HeldE K cls d H D ∧ xs = [.ref a, .ref tp] ∧ H tp = some (.tup cs) ∧ Paired ClsV cs cvs ∧ PySem.W.kitAny K (.ref D) cvs = some b ∧ Q (.bl b) H
theorem call_isHT (hz : Zc cls d oe) (hf : ∃ vs, oe.data = .fields vs) : CallR (X.suite a ((a, oe) :: pn)) (.builtin "isinstance") (rIsHT X.K a cls d) := by
  intro pins s σ H xs us Q I r h
  obtain ⟨D, tp, cs, cvs, b, hh, rfl, ht, hc, e, q⟩ := h
  cases r with
  | cons rx rr =>
    cases rr with
    | cons rt rr =>
      cases rr
      cases (show _ = Value.ref a from rx)
      cases (show _ = Value.ref tp from rt)
      obtain ⟨od, Z, J⟩ := kit_held hz hf I hh
      obtain ⟨_, its, rv, ⟨oc, od2, dt, sl⟩, h1, h2, n, h3⟩ := (show ObjOk X.prog X.w H s.heap tp (.tup cs) from I.hok tp _ ht)
      have e3 := ClsV.all hc rv
      subst e3
      simp only at h2 h3
      subst h2 h3
      exact PySem.W.kia_tup Z I.kIn J h1 e (fun z => nomatch z) fun tk => ⟨.bl b, H, I.tok tk, rfl, q⟩
end
end FR
set_option Elab.async false
set_option linter.all false
set_option maxRecDepth 100000
/-! a text beside a dict; «x not in texts» for anything -/
namespace FR
open PySem PySem.Spec PyProof.Rows L2 TL PySem.SeqAt
theorem str_eq_dict (b : Str) (u : Tok) (l : Addr) (c : Value) (es : Array DictEntry) (n : Nat) (dd : Option Addr) (sl : Array (Option Value)) :
    Meets (Builtin.«str.__eq__» ⟨[.str b u, .ref l], []⟩) (fun _ R s => s.heap.get? l = some { cls := c, dict := dd, data := .dict es n, slots := sl } ∧ R (.ok (.ret .notImplemented)) s) :=
  .of_wp fun prog w A R s h => by
    obtain ⟨hp, g, d, tk, os⟩ := s
    obtain ⟨hl, h⟩ := h
    wp_walk using wpAny_loadPart' hl, wpAny_load hl
    exact ⟨_, rfl, h⟩
theorem dict_eq_str (b : Str) (u : Tok) (l : Addr) (c : Value) (es : Array DictEntry) (n : Nat) (dd : Option Addr) (sl : Array (Option Value)) :
    Meets (Builtin.«dict.__eq__» ⟨[.ref l, .str b u], []⟩) (fun _ R s => s.heap.get? l = some { cls := c, dict := dd, data := .dict es n, slots := sl } ∧ R (.ok (.ret .notImplemented)) s) :=
  .of_wp fun prog w A R s h => by
    obtain ⟨hp, g, d, tk, os⟩ := s
    obtain ⟨hl, h⟩ := h
    have f1 := F.sub_str_dict
    wp_walk using wpAny_loadPart' hl, wpAny_load hl
    exact ⟨_, rfl, h⟩
theorem eqAt_str_dict {A : Around} {s : Shared} {l : Addr} {o : Obj} {es : Array DictEntry} {n : Nat} (b : Str) (u : Tok) (ho : s.heap.get? l = some o) (hx : o.cls = .type "dict") (hd : o.data = .dict es n) (hu : A.units < cLine) : EqAt A s (.str b u) (.ref l) false := fun prog w E Q h => by
  unfold eqBool
  refine wpAny_holding (wpAny_ite_split (fun hab => absurd (eq_of_beq hab) nofun) (fun _ => wpAny_bind ?_))
  obtain ⟨cls, dd, data, sl⟩ := o
  simp only at hx hd
  subst hx hd
  exact rc_eq_decline_or (k := false) (typeIs_str s b u) ⟨_, ho, rfl⟩ (by decide) F.sub_dict_str F.slot_str_eq F.slot_dict_eq_refl
    (fun _ hq => call_meets F.slot_str_eq (typeIs_str s b u) F.entry_str_eq (F.args_str_eq_2 _ _) (str_eq_dict b u l (.type "dict") es n dd sl) ⟨ho, hq⟩)
    (fun _ hq => call_meets F.slot_dict_eq_refl ⟨_, ho, rfl⟩ F.entry_dict_eq (F.args_dict_eq_2 _ _) (dict_eq_str b u l _ es n dd sl) ⟨ho, hq⟩)
    (fun _ hq => wpAny_of_eq (rfl : isSame (.str b u) (.ref l) = pure false) hq) (.inr hu) (wpAny_truthy_bool h)
section
variable {X : Cx}
theorem vals_strs : ∀ {ws : List Str} {us : List Value}, Vals (ws.map V.str) us → ∀ u ∈ us, ∃ x t, u = Value.str x t
  | [], _, h, u, hu => by
    cases h
    simp at hu
  | w :: r, _, .cons a b, u, hu => by
    rcases List.mem_cons.mp hu with rfl | hu
    · obtain ⟨t, rfl⟩ := a
      exact ⟨_, t, rfl⟩
    · exact vals_strs b u hu
/-- what «v not in the texts ws» gives -/
def NInW (K : PySem.W.Frag) (H : Hp) (v : V) (ws : List Str) (r : Bool) : Prop := (flatV v = true ∧ (!inV v (ws.map V.str)) = r) ∨ (∃ d, Dp K H v d ∧ SeqAt.shaped d = true ∧ SeqAt.shaped (.list (ws.map .str)) = true ∧ (!(ws.map PyData.str).any fun z => PyData.eqv z d) = r) ∨
  ∃ (a : Addr) (kvs : List (Key × V)), v = .ref a ∧ H a = some (.dK kvs) ∧ true = r
def rNotInW (K : PySem.W.Frag) : R2 := fun x y H Q => ∃ (p : Addr) (ws : List Str) (r : Bool), y = .ref p ∧ SqL K H p (ws.map V.str) ∧ NInW K H x ws r ∧ Q (.bl r) H
theorem op_notInW (hu : X.A.units + 65 < cLine) : OpR X (compareOp .NotIn) (rNotInW X.K) := by
  intro pins s σ H x y v u Q I rx ry h
  obtain ⟨p, ws, r, rfl, hp, ⟨hf, rfl⟩ | ⟨d, hd, s1, s2, rfl⟩ | ⟨a, kvs, rfl, ha, rfl⟩, q⟩ := h
  · exact op_notIn_seq pins s σ H x _ v u Q I rx ry ⟨p, _, rfl, .inl hp, hf, flat_strs ws, q⟩
  · exact op_notInD hu pins s σ H x _ v u Q I rx ry ⟨d, _, hd, .lst hp (dpAll_strs ws), s1, s2, q⟩
  · cases (show v = Value.ref a from rx)
    cases (show u = Value.ref p from ry)
    obtain ⟨_, _, vs, kv, o, es, ep, e, hx, hd, _, _, _⟩ := (show ObjOk X.prog X.w H s.heap a (.dK _) from I.hok _ _ ha)
    obtain ⟨its, rv, hl, _⟩ := I.list hp
    refine notIn_listAt (fun _ => false) hl.isList (fun z hz => ?_) ⟨.bl true, H, I, ?_, q⟩
    · obtain ⟨x, t, rfl⟩ := vals_strs rv z (by simpa using hz)
      exact eqAt_str_dict x t e hx.1 hd (by show X.A.units + 1 < cLine; omega)
    · show Value.bool _ = Value.bool true
      simp
theorem op_notInWK {X : Cx} {K : PySem.W.Frag} (h : X.K = K) (hu : X.A.units + 65 < cLine) : OpR X (compareOp .NotIn) (rNotInW K) := h ▸ op_notInW hu
end
end FR
set_option Elab.async false
set_option linter.all false
set_option maxRecDepth 100000
/-! raising defs with a star parameter, called -/
namespace FR
open PySem PySem.Spec PyProof.Rows L2 TL
theorem okStarX {P : Program} {w : World} {K : PySem.W.Frag} {mg : Str → Option Value} {base : Heap} {x qual pv : Str} {st : Stmt} {f : Addr} {fd : FuncData} {N ps : List Str} {k : Nat} {sp : Sp} (F : L2.Fun K x qual st f fd) (S : FnScope N (ps ++ [pv]) (defScope st))
    (hb : ∀ (kV doc pm : Value) (an : Option Addr) (cdv ct : Value) (us rest : List Value), us.length = ps.length → bindArgs (PySem.W.fnOf x qual (defArgs st) (defBody st) (defScope st) .none kV doc pm an cdv ct) ⟨us ++ rest, []⟩ = (newTuple rest >>= fun t => pure (ps.zip us ++ [(pv, t)])))
    (hbody : ∀ (cdv : Value) (A : Around) (outer : List Env) (s : Shared) (H : Hp) (vs : List V) (Q : VK) (E : XK), Room k (A.deeper (envOfC qual (defScope st) s.heap.objs.size f cdv)) → sp vs H Q E →
      ∃ t, PSs (cxOf (L2.CX P w) P w K mg base N qual (defScope st) f cdv A outer s H E) (defBody st) t ∧ t { nx := fun _ H' => Q .non H', rt := Q } (start N vs) H) :
    FnR P w K mg base (L2.CX P w) (k + 1) f (fun vs H Q E => ∃ ws rest, vs = ws ++ rest ∧ ws.length = ps.length ∧ rest.length ≤ sizeLine ∧ ∀ p, H p = Option.none → sp (ws ++ [V.ref p]) (upd H p (.tup rest)) Q E) := by
  obtain ⟨oc, od, kV, doc, pm, an, cdv, ct, osl, rfl, lk, hcd⟩ := F.ex
  exact StX.fn_star lk hcd S StX.cxUp (hb kV doc pm an cdv ct) fun A outer s H vs Q E hr hsp => hbody cdv A outer s H vs Q E hr hsp
section
variable {X : Cx} {CX : CXT} {k : Nat} {f : Addr} {sp : Sp} {E : L2.St → XK} {x : Str} {e : Expr} {es : List Expr} {t : TA} {p pos : Pos}
theorem pe_callRX (F : FnR X.prog X.w X.K X.mg X.base CX k f sp) (hr : Room k X.A) (hk : PySem.W.keepIn X.K (.ref f) = true) (hg : Gl X x) (hm : X.mg x = some (.ref f)) (hx : ∀ σ, PassesAt CX X σ (E σ)) (ha : PA X (e :: es) t) (hd : (x == ("__debug__" : Str)) = false := by decide)
    (he : starEach (e :: es) X.env = (false, eval e X.env) :: starEach es X.env := by rfl) (hpl : (backTo pos (starEach es X.env)).any (·.1) = false := by rfl) :
    PE X (.Call (.Name x p) (e :: es) [] pos) (fun σ H Q => t σ H fun vs H1 => sp vs H1 Q (E σ)) := ⟨fun pins s σ H Q I h => by
  refine wpAny_Call_Name_kw (ld_glob I hg hm (PySem.W.callWith_K (h₀ := X.base) I.ok.mod.kin hk (thn (ha.run pos pins s σ H _ I h) fun us s1 hz => ?_) he hpl) hd)
  obtain ⟨vs, H1, I1, r, q⟩ := hz
  refine ⟨I1.kIn, wpAny_call (codeAny_mono (F X.A X.stack s1 H1 us vs Q (E σ) hr I1.env0 r q) fun rr s' hq => ?_)⟩
  match rr, hq with
  | .error ee, hq => exact hx σ pins H1 s1 ee s' I1 hq
  | .ok (.ret u), hq => exact I1.after hq
  | .ok .next, hq => exact hq.elim
  | .ok .brk, hq => exact hq.elim
  | .ok .cont, hq => exact hq.elim⟩
end
end FR
set_option Elab.async false
set_option linter.all false
set_option maxRecDepth 100000
/-! how long a shown list is; facts that hang on some addresses alone -/
namespace FR
open PySem PySem.Spec PyProof.Rows L2 TL
theorem len_sep : (Str.ofString ", ").length = 2 := by decide +kernel
theorem len_open : (Str.ofString "[").length = 1 := by decide +kernel
theorem len_close : (Str.ofString "]").length = 1 := by decide +kernel
theorem len_none : (Str.ofString "").length = 0 := by decide +kernel
theorem shown3 (a b c : PyData) : (PyData.list [a, b, c]).shown.length = a.shown.length + b.shown.length + c.shown.length + 6 := by
  show (listText [a.shown, b.shown, c.shown]).length = _
  unfold listText
  rw [len_app, len_close]
  show ((((((Str.ofString "[" ++ Str.ofString "") ++ a.shown) ++ Str.ofString ", ") ++ b.shown) ++ Str.ofString ", ") ++ c.shown).length + 1 = _
  rw [len_app, len_app, len_app, len_app, len_app, len_app, len_open, len_none, len_sep]
  omega
theorem shown2 (a b : PyData) : (PyData.list [a, b]).shown.length = a.shown.length + b.shown.length + 4 := by
  show (listText [a.shown, b.shown]).length = _
  unfold listText
  rw [len_app, len_close]
  show ((((Str.ofString "[" ++ Str.ofString "") ++ a.shown) ++ Str.ofString ", ") ++ b.shown).length + 1 = _
  rw [len_app, len_app, len_app, len_app, len_open, len_none, len_sep]
  omega
theorem Keep.trans0 {H H1 : Hp} {D : Addr} {o : HO} (k : Keep [] H H1) (hD : H D = none) : Keep [] H (upd H1 D o) := fun b u e hb => by
  rw [upd_ne (ne_of_none e hD)]
  exact k b u e hb
def Held (S : List Addr) (H : Hp) (F : Hp → Prop) : Prop := (∀ a ∈ S, H a ≠ none) ∧ ∀ H', (∀ a ∈ S, H' a = H a) → F H'
section
variable {S T M : List Addr} {H H' : Hp} {F G : Hp → Prop}
theorem Held.at (h : Held S H F) : F H := h.2 H fun _ _ => rfl
theorem Held.mono (h : Held S H F) (k : Keep M H H') (d : ∀ a ∈ S, a ∉ M) : Held S H' F := by
  have e : ∀ a ∈ S, H' a = H a := fun a ha => by
    cases e : H a with
    | none => exact absurd e (h.1 a ha)
    | some o => exact k a o e (d a ha)
  exact ⟨fun a ha => by rw [e a ha]; exact h.1 a ha, fun H2 e2 => h.2 H2 fun a ha => (e2 a ha).trans (e a ha)⟩
theorem Held.mono0 (h : Held S H F) (k : Keep [] H H') : Held S H' F := h.mono k (by simp)
theorem Held.and (h : Held S H F) (g : Held T H G) : Held (S ++ T) H (fun H => F H ∧ G H) :=
  ⟨fun a ha => (List.mem_append.mp ha).elim (h.1 a) (g.1 a), fun H2 e => ⟨h.2 H2 fun a ha => e a (List.mem_append_left _ ha), g.2 H2 fun a ha => e a (List.mem_append_right _ ha)⟩⟩
theorem Held.imp (h : Held S H F) (i : ∀ H, F H → G H) : Held S H G := ⟨h.1, fun H2 e => i _ (h.2 H2 e)⟩
theorem Held.none (h : ∀ H, F H) : Held [] H F := ⟨by simp, fun H2 _ => h H2⟩
theorem Held.one {a : Addr} {o : HO} (h : H a = some o) (i : ∀ H2 : Hp, H2 a = some o → F H2) : Held [a] H F := ⟨fun x hx => by rw [List.mem_singleton.mp hx, h]; simp, fun H2 e => i H2 ((e a (by simp)).trans h)⟩
theorem Held.fresh (h : Held S H F) {p : Addr} (np : H p = Option.none) : p ∉ S := fun hp => h.1 p hp np
end
theorem Dq.mono {H H' : Hp} (k : Keep [] H H') {v : V} {d : PyData} (h : Dq H v d) : Dq H' v d := by
  refine Dq.rec (motive_1 := fun v d _ => Dq H' v d) (motive_2 := fun vs ds _ => DqAll H' vs ds) (motive_3 := fun vs ds _ => DqKv H' vs ds) .non .bl .int .str ?_ ?_ ?_ .nil (fun _ _ a b => .cons a b) .nil (fun _ _ a b => .cons a b) h
  · intro a xs ds hx hb _ ih
    exact .lst (k _ _ hx (by simp)) hb ih
  · intro a xs ds hx _ ih
    exact .tup (k _ _ hx (by simp)) ih
  · intro a kvs ds hx _ ih
    exact .dct (k _ _ hx (by simp)) ih
theorem u65 {k : Nat} {A : Around} (r : Room k A) : A.units + 65 < cLine := by have := r.un; omega
theorem okG0 {P : Program} {w : World} {K : PySem.W.Frag} {mg : Str → Option Value} {base : Heap} {k : Nat} {f : Addr} {sp : Sp} {x qual : Str} {st : Stmt} {fd : FuncData} {N ps : List Str} (F : L2.Fun K x qual st f fd) (S : FnScope N ps (defScope st)) (B : Binds K fd ps []) (hlen : ∀ vs H Q E, sp vs H Q E → vs.length = ps.length)
    (hbody : ∀ (cdv : Value) (A : Around) (outer : List Env) (s : Shared) (H : Hp) (vs : List V) (Q : VK) (E : XK), A.guards = some [] → Room k (A.deeper (envOfC qual (defScope st) s.heap.objs.size f cdv)) → sp vs H Q E →
      ∃ t, PSs (cxOf CX0 P w K mg base N qual (defScope st) f cdv A outer s H E).nox (defBody st) t ∧ t { nx := fun _ H' => Q .non H', rt := Q } (start N vs) H) : FnG P w K mg base CX0 (k + 1) f sp :=
  okG F S B hlen fun cdv A outer s H vs Q E hg hr hs => (hbody cdv A outer s H vs Q E hg hr hs).elim fun t h => ⟨t, h.1.nox, h.2⟩
end FR
set_option Elab.async false
set_option linter.all false
set_option maxRecDepth 100000
/-! what `except` and isinstance say of two classes of the text -/
namespace FR
open PySem PySem.Spec PyProof.Rows L2
/-- an error of the class at S is what «except T» names, or not -/
theorem exm_of {K : PySem.W.Frag} {t S : Addr} {b : Bool} (h1 : PySem.W.subIn K (.ref S) (.type "BaseException") = some true) (h2 : PySem.W.isClsIn K S = true) (h3 : PySem.W.typeIn K (.ref S) = some (.type "type")) (h4 : PySem.W.subIn K (.ref t) (.ref S) = some b) :
    PySem.W.exmOne K (.ref t) (.ref S) = some b := by
  have e1 : (PySem.W.subIn K (.ref S) (.type "BaseException") == some true) = true := by rw [h1] <;> rfl
  have e2 : ((PySem.W.clsIn K S).isSome && PySem.W.typeIn K (.ref S) == some (.type "type")) = true := by
    rw [show (PySem.W.clsIn K S).isSome = true from h2, h3] <;> rfl
  unfold PySem.W.exmOne
  rw [if_pos e1]
  show (if ((PySem.W.clsIn K S).isSome && PySem.W.typeIn K (.ref S) == some (.type "type")) = true then PySem.W.subIn K (.ref t) (.ref S) else none) = some b
  rw [if_pos e2]
  exact h4
theorem kit_of {K : PySem.W.Frag} {t S : Addr} {b : Bool} (hs : PySem.W.subIn K (.ref t) (.ref t) = some true) (h2 : PySem.W.isClsIn K S = true) (h3 : PySem.W.typeIn K (.ref S) = some (.type "type")) (h4 : PySem.W.subIn K (.ref t) (.ref S) = some b) :
    PySem.W.kitOne K (.ref t) (.ref S) = some b := by
  have e2 : ((PySem.W.clsIn K S).isSome && PySem.W.typeIn K (.ref S) == some (.type "type")) = true := by
    rw [show (PySem.W.clsIn K S).isSome = true from h2, h3] <;> rfl
  unfold PySem.W.kitOne
  by_cases e : ((Value.ref t : Value) == .ref S) = true
  · rw [if_pos e]
    have e' : t = S := by simpa using e
    subst e'
    exact hs.symm.trans h4
  · rw [if_neg e]
    show (if ((PySem.W.clsIn K S).isSome && PySem.W.typeIn K (.ref S) == some (.type "type")) = true then PySem.W.subIn K (.ref t) (.ref S) else none) = some b
    rw [if_pos e2]
    exact h4

end FR
set_option Elab.async false
set_option linter.all false
set_option maxRecDepth 100000
/-! operators, `in`, len, bool, str and == of own classes whose instances have a dict -/
namespace FR
open PySem PySem.Spec PyProof.Rows L2 TL
open SlX (cmpback run_at)
section
variable {X : Cx} {pins : List (Addr × Obj)} {σ : L2.St} {H : Hp} {s : Shared} {C g : Addr} {n : Nat} {sp : Sp} {E : XK} {CX : CXT}
theorem ins_inst {a dx : Addr} {fs : List (Str × V)} (I : Inv X pins σ H s) (e : H a = some (.ins C dx fs)) : ∃ od, PySem.W.InstAt s.heap a (PySem.W.instObj C dx) C (some od) := by
  obtain ⟨mA, O, _⟩ := ins_get I.hok e
  obtain ⟨od, J, _⟩ := O.look
  exact ⟨od, J⟩
/-- x op y, both of the class at C, its def for op at g -/
def rBinI (C : Addr) (sp : Sp) (E : XK) : R2 := fun x y H Q => ∃ a dx fs b dy gs, x = .ref a ∧ y = .ref b ∧ H a = some (.ins C dx fs) ∧ H b = some (.ins C dy gs) ∧ sp [x, y] H Q E
theorem op_binI {op : Operator} (hc : PySem.W.selfFirst X.K C = true) (hs : PySem.W.findIn X.K (.ref C) (PySem.dunder op.info.2) = some (some (.ref g))) (hf : PySem.W.isFn X.K (.ref g) = true) (F : FnR X.prog X.w X.K X.mg X.base CX n g sp)
    (hr : Room n X.A) (hx : Passes CX X E) : OpR X (binaryOp op) (rBinI C sp E) := by
  intro pins s σ H x y v u Q I rx ry h
  obtain ⟨a, dx, fs, b, dy, gs, rfl, rfl, ha, hb, q⟩ := h
  cases (show v = Value.ref a from rx)
  cases (show u = Value.ref b from ry)
  obtain ⟨od, J⟩ := ins_inst I ha
  obtain ⟨od', J'⟩ := ins_inst I hb
  obtain ⟨m, hF⟩ := I.fr
  refine PySem.W.binop_K (op := op) hF I.ok.mod.kin J J'.type hc hs hf ?_
  refine wpAny_mono (wpAny_call (run_fnR (us := [.ref a, .ref b]) (vs := [.ref a, .ref b]) F hr hx I (.cons rfl (.cons rfl .nil)) q)) (fun w s' z => ?_) fun _ _ x => x
  obtain ⟨z', H', I', rz, qz⟩ := z
  exact cmpback rz ⟨z', H', I', rz, qz⟩
/-- ~x -/
def rInvI (C : Addr) (sp : Sp) (E : XK) : V → Hp → VK → Prop := fun x H Q => ∃ a dx fs, x = .ref a ∧ H a = some (.ins C dx fs) ∧ sp [x] H Q E
theorem un_invI (hs : PySem.W.findIn X.K (.ref C) "__invert__" = some (some (.ref g))) (hf : PySem.W.isFn X.K (.ref g) = true) (F : FnR X.prog X.w X.K X.mg X.base CX n g sp)
    (hr : Room n X.A) (hx : Passes CX X E) : UnR X (unaryOp .Invert) (rInvI C sp E) := by
  intro pins s σ H x v Q I rx h
  obtain ⟨a, dx, fs, rfl, ha, q⟩ := h
  cases (show v = Value.ref a from rx)
  obtain ⟨od, J⟩ := ins_inst I ha
  obtain ⟨m, hF⟩ := I.fr
  exact PySem.W.ksp_inv hF I.ok.mod.kin J hs hf (wpAny_call (run_fnR (us := [.ref a]) (vs := [.ref a]) F hr hx I (.cons rfl .nil) q))
/-- x op y (a comparison), x of the class at C whose def for it is at g, y an instance of it too -/
def rCmpI (C : Addr) (sp : Sp) (E : XK) : R2 := fun x y H Q => ∃ a dx fs b dy gs, x = .ref a ∧ y = .ref b ∧ H a = some (.ins C dx fs) ∧ H b = some (.ins C dy gs) ∧ sp [x, y] H Q E
theorem op_cmpI {op : CmpOp} (hop : ∀ a b, compareOp op a b = richCompare op a b) (hs : PySem.W.findIn X.K (.ref C) (cmpInfo op).2.1 = some (some (.ref g))) (hf : PySem.W.isFn X.K (.ref g) = true) (F : FnR X.prog X.w X.K X.mg X.base CX n g sp)
    (hr : Room n X.A) (hx : Passes CX X E) : OpR X (compareOp op) (rCmpI C sp E) := by
  intro pins s σ H x y v u Q I rx ry h
  obtain ⟨a, dx, fs, b, dy, gs, rfl, rfl, ha, hb, q⟩ := h
  cases (show v = Value.ref a from rx)
  cases (show u = Value.ref b from ry)
  obtain ⟨od, J⟩ := ins_inst I ha
  obtain ⟨od', J'⟩ := ins_inst I hb
  obtain ⟨m, hF⟩ := I.fr
  rw [hop]
  refine PySem.W.cmp_K (op := op) (tb := .ref C) hr.units0 hF I.ok.mod.kin J J'.type (by unfold PySem.W.notFirst; simp) hs hf ?_
  refine wpAny_mono (wpAny_call (run_fnR (us := [.ref a, .ref b]) (vs := [.ref a, .ref b]) F hr hx I (.cons rfl (.cons rfl .nil)) q)) (fun w s' z => ?_) fun _ _ x => x
  obtain ⟨z', H', I', rz, qz⟩ := z
  exact cmpback rz ⟨z', H', I', rz, qz⟩
/-- v in x, x of the class at C; the answer of its def is a boolean -/
def rInI (C : Addr) (sp : Sp) (E : XK) : R2 := fun v x H Q => ∃ a dx fs, x = .ref a ∧ H a = some (.ins C dx fs) ∧ sp [x, v] H (fun z H' => ∃ b, z = .bl b ∧ Q (.bl b) H') E
theorem op_inI (hs : PySem.W.findIn X.K (.ref C) "__contains__" = some (some (.ref g))) (hf : PySem.W.isFn X.K (.ref g) = true) (F : FnR X.prog X.w X.K X.mg X.base CX n g sp)
    (hr : Room n X.A) (hx : Passes CX X E) : OpR X (compareOp .In) (rInI C sp E) := by
  intro pins s σ H x y v u Q I rx ry h
  obtain ⟨a, dx, fs, rfl, ha, q⟩ := h
  cases (show u = Value.ref a from ry)
  obtain ⟨od, J⟩ := ins_inst I ha
  obtain ⟨m, hF⟩ := I.fr
  refine PySem.W.in_K hF I.ok.mod.kin J hs hf (wpAny_mono (wpAny_call (run_fnR (us := [.ref a, v]) (vs := [.ref a, x]) F hr hx I (.cons rfl (.cons rx .nil)) q)) (fun w s' z => ?_) fun _ _ x => x)
  obtain ⟨z', H', I', rz, b, eb, qz⟩ := z
  subst eb
  cases (show w = Value.bool b from rz)
  exact wpAny_truthy_bool ⟨.bl b, H', I', rfl, qz⟩
/-- the truth of x, of the class at C with an own __bool__ -/
def rTruI (C : Addr) (sp : Sp) (E : XK) : V → Hp → (Bool → Hp → Prop) → Prop := fun x H Q => ∃ a dx fs, x = .ref a ∧ H a = some (.ins C dx fs) ∧ sp [x] H (fun z H' => ∃ b, z = .bl b ∧ Q b H') E
theorem tru_I (hs : PySem.W.findIn X.K (.ref C) "__bool__" = some (some (.ref g))) (hf : PySem.W.isFn X.K (.ref g) = true) (F : FnR X.prog X.w X.K X.mg X.base CX n g sp)
    (hr : Room n X.A) (hx : Passes CX X E) : TruR X (rTruI C sp E) := by
  intro pins s σ H x v Q I rx h
  obtain ⟨a, dx, fs, rfl, ha, q⟩ := h
  cases (show v = Value.ref a from rx)
  obtain ⟨od, J⟩ := ins_inst I ha
  obtain ⟨m, hF⟩ := I.fr
  refine PySem.W.truthy_K hF I.ok.mod.kin J hs hf (wpAny_mono (wpAny_call (run_fnR (us := [.ref a]) (vs := [.ref a]) F hr hx I (.cons rfl .nil) q)) (fun w s' z => ?_) fun _ _ x => x)
  obtain ⟨z', H', I', rz, b, eb, qz⟩ := z
  subst eb
  cases (show w = Value.bool b from rz)
  exact ⟨H', I', qz⟩
/-- len(x), x of the class at C with an own __len__ -/
def rLenI (C : Addr) (sp : Sp) (E : XK) : List V → Hp → VK → Prop := fun xs H Q => ∃ a dx fs, xs = [.ref a] ∧ H a = some (.ins C dx fs) ∧ sp xs H (fun z H' => ∃ i, z = .int i ∧ 0 ≤ i ∧ i < 2 ^ 63 ∧ Q (.int i) H') E
theorem call_lenI (hs : PySem.W.findIn X.K (.ref C) "__len__" = some (some (.ref g))) (hf : PySem.W.isFn X.K (.ref g) = true) (F : FnR X.prog X.w X.K X.mg X.base CX n g sp)
    (hr : Room (n + 1) X.A) (hx : Passes CX X E) : CallR X (.builtin "len") (rLenI C sp E) := by
  intro pins s σ H xs us Q I r h
  obtain ⟨a, dx, fs, rfl, ha, q⟩ := h
  obtain ⟨u, rfl, ru⟩ := r.one
  cases (show u = Value.ref a from ru)
  obtain ⟨od, J⟩ := ins_inst I ha
  obtain ⟨m, hF⟩ := I.fr
  refine PySem.W.len_K hF I.ok.mod.kin J hs hf (wpAny_mono (wpAny_call (run_at (us := [.ref a]) (ws := [.ref a]) F hr.in1 I.env0.in1 hx I (.cons rfl .nil) q)) (fun w s' z => ?_) fun _ _ x => x)
  obtain ⟨z', H', I', rz, i, ei, h0, h1, qz⟩ := z
  subst ei
  obtain ⟨t, e⟩ := (show ∃ t, w = Value.int i t from rz)
  cases e
  exact ⟨⟨h0, h1⟩, .int i, H', I'.tok _, ⟨_, rfl⟩, qz⟩
/-- str(x), x of the class at C with an own __str__ -/
def rStrI (C : Addr) (sp : Sp) (E : XK) : List V → Hp → VK → Prop := fun xs H Q => ∃ a dx fs, xs = [.ref a] ∧ H a = some (.ins C dx fs) ∧ sp xs H (fun z H' => ∃ t, z = .str t ∧ Q (.str t) H') E
theorem call_strI (hs : PySem.W.findIn X.K (.ref C) "__str__" = some (some (.ref g))) (hf : PySem.W.isFn X.K (.ref g) = true) (F : FnR X.prog X.w X.K X.mg X.base CX n g sp)
    (hr : Room (n + 2) X.A) (hx : Passes CX X E) : CallR X (.type "str") (rStrI C sp E) := by
  intro pins s σ H xs us Q I r h
  obtain ⟨a, dx, fs, rfl, ha, q⟩ := h
  obtain ⟨u, rfl, ru⟩ := r.one
  cases (show u = Value.ref a from ru)
  obtain ⟨od, J⟩ := ins_inst I ha
  have hr2 : Room n X.A.in1.in1 := (show Room (n + 1) X.A.in1 from Room.in1 hr).in1
  refine PySem.W.kso_call hr2.units0 I.kIn J hs hf (wpAny_mono (wpAny_call (run_at (us := [.ref a]) (ws := [.ref a]) F hr2 I.env0.in1.in1 hx I (.cons rfl .nil) q)) (fun w s' z => ?_) fun _ _ x => x)
  obtain ⟨z', H', I', rz, t, et, qz⟩ := z
  subst et
  obtain ⟨t', e⟩ := (show ∃ t', w = Value.str t t' from rz)
  cases e
  exact ⟨.str t, H', I', ⟨_, rfl⟩, qz⟩
end
end FR
set_option Elab.async false
set_option linter.all false
set_option maxRecDepth 100000
/-! x op= y of own classes without a def of their own for op= -/
namespace FR
open PySem PySem.W PySem.Calls PyProof.Rows
section
variable {prog : Program} {w : World} {M : Model} {A : Around} {E : Value → Shared → Prop} {s : Shared} {K : Frag} {x C L f : Addr} {h₀ : Heap} {m : Str → Option Value} {ox : Obj} {od : Option Obj} {nm : String} {cd : ClassData}
theorem inplace_no {h : Heap} {add : Bool} (X : K.In h) (hc : clsIn K C = some cd) (hm : cd.mro = [.ref C, .type "object"]) (h1 : findIn K (.ref C) (dunderI nm) = some none) (h2 : findIn K (.type "object") (dunderI nm) = some none) :
    Looks M h (fillsInplaceSlot (.ref C) nm add) false := by
  intro A Q E s k q
  have Lm : Looks M h (mroOf (.ref C)) cd.mro := (looks_clsIn X hc).andThen (f := fun cd => pure cd.mro) .now
  have Lm' := Lm.keeps k
  obtain ⟨hh, g, d, tk, os⟩ := s
  have X' : K.In hh := X.keeps k
  have L1 : Looks M hh (typeLookup (.ref C) (dunderI nm)) none := looks_findIn X' h1
  have L2 : Looks M hh (typeLookup (.type "object") (dunderI nm)) none := looks_findIn X' h2
  unfold fillsInplaceSlot
  refine wpAny_bind (Lm'.at ?_)
  rw [hm, List.anyM_cons]
  refine wpAny_bind ?_
  repeat lk
  exact q
theorem bin1_own {b : Value} {Q : Value → Shared → Prop} (X : K.In s.heap) (I : InstAt s.heap x ox C od) (hb : Looks M s.heap (typeOf b) (.ref C)) (hc : clsIn K C = some cd) (hm : cd.mro = [.ref C, .type "object"])
    (hs : findIn K (.ref C) (PySem.dunder nm) = some (some (.ref f))) (hf : isFn K (.ref f) = true)
    (h : wpAny M A (call (.ref f) [.ref x, b]) (PySem.W.CmpBack Q) E s) : wpAny M A (binaryOp1 nm (.ref x) b) (fun r s' => ∃ v, r = some v ∧ Q v s') E s := by
  have one := ksp_try X I hs hf h
  obtain ⟨hh, g, d, tk, os⟩ := s
  have L1 : Looks M hh (typeOf (.ref x)) (.ref C) := I.type
  have L2 : Looks M hh (typeOf b) (.ref C) := hb
  have L3 : Looks M hh (fillsNumberSlot (.ref C) nm) true := fills_K X hc hm hs
  unfold binaryOp1
  refine wpAny_bind (L1.at (wpAny_bind (L2.at (wpAny_bind (L3.at ?_)))))
  simp only [beq_self_eq_true, if_true]
  ksp_lk
  refine wpAny_mono one (fun r s' hr' => ?_) fun _ _ e => e
  obtain ⟨v, rfl, hq⟩ := hr'
  ksp_lk
  exact ⟨_, rfl, hq⟩
theorem inplace_own {op : Operator} {b : Value} {Q : Value → Shared → Prop} (X : K.In s.heap) (I : InstAt s.heap x ox C od) (hb : Looks M s.heap (typeOf b) (.ref C)) (hc : clsIn K C = some cd) (hm : cd.mro = [.ref C, .type "object"])
    (h1 : findIn K (.ref C) (dunderI op.info.2) = some none) (h2 : findIn K (.type "object") (dunderI op.info.2) = some none)
    (hs : findIn K (.ref C) (PySem.dunder op.info.2) = some (some (.ref f))) (hf : isFn K (.ref f) = true)
    (h : wpAny M A (call (.ref f) [.ref x, b]) (PySem.W.CmpBack Q) E s) : wpAny M A (inplaceOp op (.ref x) b) Q E s := by
  have one := bin1_own X I hb hc hm hs hf h
  obtain ⟨hh, g, d, tk, os⟩ := s
  have L1 : Looks M hh (typeOf (.ref x)) (.ref C) := I.type
  have L2 : Looks M hh (fillsInplaceSlot (.ref C) op.info.2 (op == .Add)) false := inplace_no X hc hm h1 h2
  unfold inplaceOp
  refine wpAny_holding ?_
  refine wpAny_bind (L1.at (wpAny_bind (L2.at ?_)))
  simp only [Bool.false_eq_true, if_false]
  refine wpAny_bind (wpAny_mono one (fun r s' hr' => ?_) fun _ _ e => e)
  obtain ⟨v, rfl, hq⟩ := hr'
  exact wpAny_pure hq
theorem ifBound_slot {name : Str} {id : String} {args : List Value} {Q : Option Value → Shared → Prop} (X : K.In s.heap) (I : InstAt s.heap x ox C od) (hs : findIn K (.ref C) name = some (some (.builtin id)))
    (hb : ∀ self, bindSpecial (.builtin id) self = pure (.builtin id, [self])) (h : wpAny M A (call (.builtin id) (.ref x :: args)) (fun v => Q (some v)) E s) : wpAny M A (callSpecialIfBound? (.ref x) name args) Q E s := by
  simp only [callSpecialIfBound?, bindSpecialIfBound?]
  refine wpAny_holding (wpAny_bind (wpAny_bind (wpAny_bind (I.type.here ((looks_findIn X hs).here ?_)))))
  simp only [hb]
  refine wpAny_bind (wpAny_askSetting (wpAny_ite ?_))
  have fin : wpAny M A (call (.builtin id) ([.ref x] ++ args) >>= fun v => pure (some v)) Q E s := wpAny_bind (wpAny_mono h (fun v s' h' => wpAny_pure h') fun _ _ h' => h')
  split
  · exact wpAny_bind (wpAny_pure (wpAny_pure (by exact fin)))
  · exact wpAny_tryCatch (wpAny_bind (wpAny_pure (wpAny_pure (by exact fin))))
open Builtin in
/-- object's «not equal» where the class has its own «equal», which answers a boolean -/
theorem objNe_own {b : Value} {Q : Value → Shared → Prop} (hu : A.in1.units < cLine) (X : K.In s.heap) (I : InstAt s.heap x ox C od) (hm : mroIn K C (.type "object") = some true) (hs : findIn K (.ref C) "__eq__" = some (some (.ref f))) (hf : isFn K (.ref f) = true)
    (h : wpAny (model prog w) A.in1 (call (.ref f) [.ref x, b]) (fun r s' => ∃ v, r = .bool v ∧ Q (.bool (!v)) s') E s) : wpAny (model prog w) A (call (.builtin "object.__ne__") [.ref x, b]) Q E s := by
  refine wpAny_call (codeAny_call_builtin PySem.F.cmp_object.ne.plain PySem.F.cmpEntry_ne (check_slot (i := "object.__ne__") (owner := "object") (n := "__ne__") (by decide +kernel) (by decide +kernel) (I.type.andThen (looks_mroIn X hm)) (PySem.F.cmpArgs_ne _ _) ?_))
  unfold Builtin.«object.__ne__»
  refine wpAny_bind (m := slotArgs "__ne__" 1 _) (wpAny_pure ?_)
  refine wpAny_bind (m := cRoomFor _ _) (wpAny_cRoomFor hu ?_)
  refine wpAny_bind (m := callSpecialIfBound? (.ref x) (Str.ofString "__eq__") _) (ifBound_K X I hs hf (wpAny_mono h (fun r s' hq => ?_) fun _ _ y => y))
  obtain ⟨v, rfl, q⟩ := hq
  refine wpAny_bind (wpAny_truthy_bool ?_)
  exact wpAny_pure q
/-- x != b where the class of x has an own «equal» alone -/
theorem rc_ne_own {b tb : Value} {Q : Value → Shared → Prop} (hu : A.units < cLine) (hu1 : A.in1.units < cLine) (X : K.In s.heap) (I : InstAt s.heap x ox C od) (hb : Looks (model prog w) s.heap (typeOf b) tb) (hn : notFirst K C tb = true)
    (hm : mroIn K C (.type "object") = some true) (hne : findIn K (.ref C) "__ne__" = some (some (.builtin "object.__ne__"))) (hs : findIn K (.ref C) "__eq__" = some (some (.ref f))) (hf : isFn K (.ref f) = true)
    (h : wpAny (model prog w) A.in1 (call (.ref f) [.ref x, b]) (fun r s' => ∃ v, r = .bool v ∧ Q (.bool (!v)) s') E s) : wpAny (model prog w) A (richCompare .NotEq (.ref x) b) Q E s := by
  have one : wpAny (model prog w) A (tryCompare (.ref x) (cmpInfo .NotEq).2.1 b) (fun r s' => ∃ v, r = some v ∧ Q v s') E s := by
    unfold tryCompare
    refine wpAny_bind (ifBound_slot X I hne PySem.F.cmp_object.ne.bind (objNe_own hu1 X I hm hs hf (wpAny_mono h (fun v s' hv => ?_) fun _ _ e => e)))
    obtain ⟨v, rfl, q⟩ := hv
    exact ⟨v, rfl, wpAny_pure ⟨_, rfl, q⟩⟩
  unfold richCompare
  simp only [oneThing_ref]
  refine wpAny_holding (wpAny_bind (wpAny_cRoomFor hu ?_))
  refine wpAny_bind (I.type.here (wpAny_bind (hb.here ?_)))
  split
  · rename_i q
    have e : subIn K tb (.ref C) = some false := by
      rcases Bool.or_eq_true_iff.mp hn with e | e
      · rw [beq_iff_eq.mp e] at q; simp at q
      · exact beq_iff_eq.mp e
    refine wpAny_bind ((looks_subIn X e).here ?_)
    simp only [Bool.false_eq_true, if_false]
    refine wpAny_bind (wpAny_mono one (fun r s' z => ?_) fun _ _ e => e)
    obtain ⟨v, rfl, hq⟩ := z
    exact wpAny_pure hq
  · refine wpAny_bind (wpAny_pure ?_)
    simp only [Bool.false_eq_true, if_false]
    refine wpAny_bind (wpAny_mono one (fun r s' z => ?_) fun _ _ e => e)
    obtain ⟨v, rfl, hq⟩ := z
    exact wpAny_pure hq
end
section
open L2
open SlX (cmpback run_at)
variable {X : Cx} {C g : Addr} {n : Nat} {sp : Sp} {E : XK} {CX : CXT}
theorem op_ibinI {op : Operator} {cd : ClassData} (hc : clsIn X.K C = some cd) (hm : cd.mro = [.ref C, .type "object"]) (h1 : findIn X.K (.ref C) (dunderI op.info.2) = some none) (h2 : findIn X.K (.type "object") (dunderI op.info.2) = some none)
    (hs : findIn X.K (.ref C) (PySem.dunder op.info.2) = some (some (.ref g))) (hf : isFn X.K (.ref g) = true) (F : FnR X.prog X.w X.K X.mg X.base CX n g sp) (hr : Room n X.A) (hx : Passes CX X E) : InOp X op (rBinI C sp E) := by
  intro pins s σ H x y v u Q I rx ry h
  obtain ⟨a, dx, fs, b, dy, gs, rfl, rfl, ha, hb, q⟩ := h
  cases (show v = Value.ref a from rx)
  cases (show u = Value.ref b from ry)
  obtain ⟨od, J⟩ := ins_inst I ha
  obtain ⟨od', J'⟩ := ins_inst I hb
  refine inplace_own I.kIn J J'.type hc hm h1 h2 hs hf ?_
  refine wpAny_mono (wpAny_call (run_fnR (us := [.ref a, .ref b]) (vs := [.ref a, .ref b]) F hr hx I (.cons rfl (.cons rfl .nil)) q)) (fun w s' z => ?_) fun _ _ x => x
  obtain ⟨z', H', I', rz, qz⟩ := z
  exact cmpback rz ⟨z', H', I', rz, qz⟩
/-- x != y, both of the class at C with an own «equal» alone -/
def rNeI (C : Addr) (sp : Sp) (E : XK) : R2 := fun x y H Q => ∃ a dx fs b dy gs, x = .ref a ∧ y = .ref b ∧ H a = some (.ins C dx fs) ∧ H b = some (.ins C dy gs) ∧ sp [x, y] H (fun z H' => ∃ v, z = .bl v ∧ Q (.bl (!v)) H') E
theorem op_neI (hm : mroIn X.K C (.type "object") = some true) (hne : findIn X.K (.ref C) "__ne__" = some (some (.builtin "object.__ne__"))) (hs : findIn X.K (.ref C) "__eq__" = some (some (.ref g))) (hf : isFn X.K (.ref g) = true)
    (F : FnR X.prog X.w X.K X.mg X.base CX n g sp) (hr : Room (n + 1) X.A) (hx : Passes CX X E) : OpR X (compareOp .NotEq) (rNeI C sp E) := by
  intro pins s σ H x y v u Q I rx ry h
  obtain ⟨a, dx, fs, b, dy, gs, rfl, rfl, ha, hb, q⟩ := h
  cases (show v = Value.ref a from rx)
  cases (show u = Value.ref b from ry)
  obtain ⟨od, J⟩ := ins_inst I ha
  obtain ⟨od', J'⟩ := ins_inst I hb
  refine rc_ne_own (tb := .ref C) hr.units0 hr.in1.units0 I.kIn J J'.type (by unfold notFirst; simp) hm hne hs hf ?_
  refine wpAny_mono (wpAny_call (run_at (us := [.ref a, .ref b]) (ws := [.ref a, .ref b]) F hr.in1 I.env0.in1 hx I (.cons rfl (.cons rfl .nil)) q)) (fun w s' z => ?_) fun _ _ x => x
  obtain ⟨z', H', I', rz, b', eb, qz⟩ := z
  subst eb
  cases (show w = Value.bool b' from rz)
  exact ⟨b', rfl, .bl (!b'), H', I', rfl, qz⟩
end
end FR
set_option Elab.async false
set_option linter.all false
set_option maxRecDepth 100000
/-! the keys of a dict of the module, walked -/
namespace FR
open PySem PySem.Spec PyProof.Rows L2 TL
/-- at d: a dict of the module whose keys are the texts ks -/
structure WDict (K : PySem.W.Frag) (d : Addr) (ks : List Str) : Prop where
  ex : ∃ (o : Obj) (es : Array DictEntry) (ep : Nat), K.lookup d = some o ∧ o.ExactDict ∧ o.data = .dict es ep ∧ es.size = ks.length ∧ ∀ (i : Nat) (k : Str), ks[i]? = some k → ∃ (en : DictEntry) (t : Tok), es[i]? = some en ∧ en.key = Value.str k t
  low : (d == sysModules) = false
/-- its keys, in their order -/
def ItW (ks : List Str) : It := ⟨fun i H => i < ks.length, fun i H x H' => H' = H ∧ ∃ k, ks[i]? = some k ∧ x = .str k, fun i H => ks.length ≤ i⟩
section
variable {P : Program} {w : World} {K : PySem.W.Frag} {tg : Expr} {d : Addr} {o : Obj} {es : Array DictEntry} {ep : Nat} {ks : List Str}
theorem turn_keysW (it : Addr) (hl : K.lookup d = some o) (hod : o.data = .dict es ep) (hsz : es.size = ks.length) (ent : ∀ (i : Nat) (k : Str), ks[i]? = some k → ∃ (en : DictEntry) (t : Tok), es[i]? = some en ∧ en.key = Value.str k t) :
    Turn P w K tg (ItW ks) [it] it (fun i h => h.IsKeyIter it d i ks.length ep) where
  mem := by simp
  obj := fun i h st b hb => by
    have e : b = it := by simpa using hb
    subst e
    obtain ⟨oi, e, c, dd⟩ := st
    exact ⟨oi, e, fun v z => by rw [dd] at z; cases z⟩
  keep := fun i h h' st k => st.at fun oi e => k it (by simp) oi e
  item := by
    intro X hP hw hK hc i pins s σ H E I hf st hi
    subst hP hw hK
    obtain ⟨f0, f1, f2, f3, f4, f5⟩ := hf it (by simp)
    obtain ⟨k, hk⟩ : ∃ k, ks[i]? = some k := ⟨ks[i]'hi, List.getElem?_eq_getElem hi⟩
    obtain ⟨en, t, hen, hkey⟩ := ent i k hk
    refine next_key_item st (I.kIn _ _ hl) hod hsz hen fun h' st' sb => ?_
    have I1 : Inv X pins σ H { s with heap := h' } := I.turned (t' := s.toks) (fun b ob hb e => (sb.2 b hb).trans e) f0 f1 f3 f4 f5
    obtain ⟨oi, e, c, dd⟩ := id st'
    exact ⟨en.key, rfl, go_of (s := { s with heap := h' }) e c dd (by decide) ⟨.str k, H, I1, by rw [hkey]; exact ⟨t, rfl⟩, ⟨rfl, k, hk, rfl⟩, st', fun b hb => (hf b hb).1⟩⟩
  done := by
    intro X hP hw hK hc i pins s σ H E I hf st hi
    subst hP hw hK
    obtain ⟨f0, f1, f2, f3, f4, f5⟩ := hf it (by simp)
    exact next_key_end (I.ok.hd hc) st (I.kIn _ _ hl) hod hsz hi fun h' eb => ⟨rfl, I.turned (t' := s.toks) (fun b ob hb e => eb b ob hb e) f0 f1 f3 f4 f5⟩
  self := fun A i s Q E st h => wpAny_pyIter_keyiter st h
end
/-- a walk over e, which is that dict -/
def iKeysW (td : TE) (d : Addr) (ks : List Str) : TI := fun σ H R => td σ H fun x H1 => x = .ref d ∧ R (ItW ks) H1
theorem pi_keysW {X : Cx} {tg e : Expr} {td : TE} {d : Addr} {ks : List Str} (D : WDict X.K d ks) (he : PE X e td) : PI X tg e (iKeysW td d ks) := by
  refine ⟨fun pins s σ H R I h => ?_⟩
  refine thn (he.run pins s σ H _ I h) fun u s1 ⟨x, H1, I1, rx, ex, q⟩ => ?_
  subst ex
  obtain rfl : u = Value.ref d := rx
  obtain ⟨o, es, ep, hl, hx, hdt, hsz, ent⟩ := D.ex
  refine iter_keys D.low (I1.kIn _ _ hl) hx hdt (pi_one (tk := s1.toks) I1 _ (turn_keysW _ hl hdt hsz ent) ⟨_, Heap.get?_push_size _ rfl, rfl, ?_⟩ q)
  rw [hsz] <;> rfl
theorem walk_keysW {ks : List Str} : Walk (ItW ks) ks.length (fun _ => True) (fun i H x H' => H' = H ∧ ∃ k, ks[i]? = some k ∧ x = .str k) :=
  ⟨fun _ _ hi _ => hi, fun _ _ => Nat.le_refl _, fun _ _ _ _ _ _ y => y⟩
end FR
set_option Elab.async false
set_option linter.all false
set_option maxRecDepth 100000
set_option maxHeartbeats 4000000
/-! set(x) of a text of unlike signs of seven bits; its len -/
namespace FR
open PySem PySem.Spec PyProof.Rows PySem.Froz
section
variable {P : Program} {w : World} {A : Around} {E : Value → Shared → Prop} {s : Shared}
theorem run_ok : ∀ (cs : List Nat) (tk : Tok) (D : SD) (l : List Str), TxOk P w D l → ∃ l', TxOk P w (runD w cs tk D) l' ∧ l'.length = l.length + cs.length
  | [], _, _, l, F => ⟨l, F, rfl⟩
  | c :: r, tk, D, l, F => by
    obtain ⟨l', F', e⟩ := run_ok r (tk + 2) _ (sing c :: l) (add_ok (k := sing c) tk F)
    exact ⟨l', F', by rw [e]; show l.length + 1 + r.length = l.length + (r.length + 1); omega⟩
theorem call_set_txt {x : Str} {u : Tok} {Q : Value → Shared → Prop} (hh : A.handled = none) (ha : x.cps.all (· < 128) = true) (hd : x.cps.toList.Nodup) (hb : x.cps.toList.length < scanBound)
    (h : ∀ (h' : Heap) (tk : Nat) (D : SD) (l : List Str), h'.get? s.heap.objs.size = some (sObj "set" D) → TxOk P w D l → l.length = x.cps.toList.length → (∀ b o, b < s.heap.objs.size → s.heap.get? b = some o → h'.get? b = some o) →
      Q (.ref s.heap.objs.size) { s with heap := h', toks := tk }) :
    wpAny (model P w) A (call (.type "set") [.str x u]) Q E s := by
  obtain ⟨c, tl, hmro⟩ := PySem.F.called_set.mro
  have hmade := PySem.F.called_set.made
  have hsub := PySem.F.called_set.sub
  refine wpAny_call (codeAny_of_tree ?_)
  show wpAny _ _ (callAny (.type "set") _) _ _ _
  refine wpAny_pure ⟨Code.quiet_builtin _ (by decide +kernel), codeAny_builtin PySem.F.entry_type_call ?_⟩
  rw [Around.under_plain (weight_type_call_type "set" [.str x u] []) rfl]
  have h1 := PySem.F.called_set.notType
  have h2 := PySem.F.called_set.canCreate
  have hct := PySem.F.typeCall_set_1 (.str x u)
  repeat (any_goals (first | assumption | wp_step))
  let S0 : Bool → Obj := fun led => { cls := .type "set", dict := none, data := .set #[] 0 (.fresh 0 0 led) }
  refine codeAny_mono (code_set_new_1 (.str x u) (E := E) (Q₁ := fun obj s1 => ∃ led : Bool, obj = .ref s.heap.objs.size ∧ s1 = { s with heap := s.heap.push (S0 led) }) fun led => ⟨led, rfl, rfl⟩) fun r s1 hr => ?_
  match r, hr with
  | .error e, hr => exact hr
  | .ok (.ret obj), hr =>
    obtain ⟨led, rfl, rfl⟩ := hr
    have hS : (s.heap.push (S0 led)).get? s.heap.objs.size = some (S0 led) := Heap.get?_push_size _ rfl
    have hT : Shared.TypeIs { s with heap := s.heap.push (S0 led) } (.ref s.heap.objs.size) "set" := ⟨_, hS, rfl⟩
    have hli := PySem.F.called_set.init.lookup
    have hbi := PySem.F.called_set.init.bind (.ref s.heap.objs.size)
    repeat (any_goals (first | assumption | wp_step))
    refine codeAny_mono (codeAny_call_builtin (R := wants (fun r s2 => r = .none ∧ ∃ (h' : Heap) (tk : Nat) (D : SD) (l : List Str), s2 = { s with heap := h', toks := tk } ∧ h'.get? s.heap.objs.size = some (sObj "set" D) ∧ TxOk P w D l ∧ l.length = x.cps.toList.length ∧
      (∀ b o, b < s.heap.objs.size → s.heap.get? b = some o → h'.get? b = some o)) E) PySem.F.called_set.init.plain PySem.F.entry_set_init (check_set_init_1 hT ?_)) fun r2 s2 hr2 => ?_
    · have hs1 := PySem.F.sub_str_set
      have hs2 := PySem.F.sub_str_frozenset
      have hne : (Value.type "str" == Value.type "dict") = false := by decide
      unfold Builtin.«set.__init__» noKeywords Builtin.Frozenset.updateFrom
      generalize hPI : pyIter = PI
      wp_walk
      subst hPI
      refine wpAny_pyIter_ascii ha ?_
      refine wpAny_bind (wpAny_runValue ?_)
      have hsz : (s.heap.push (S0 led)).objs.size = s.heap.objs.size + 1 := Heap.size_push ..
      have hne2 : s.heap.objs.size ≠ (s.heap.push (S0 led)).objs.size := by omega
      have F0 : TxOk P w (#[], 0, .fresh 0 0 led) [] := TxOk.nil (by rfl)
      obtain ⟨l, Fl, el⟩ := run_ok x.cps.toList s.toks (#[], 0, .fresh 0 0 led) [] F0
      refine code_update (T := "set") (x := x) (u := u) (P := P) (w := w) hne2 (by simp [hh]) x.cps.toList 0 (#[], 0, .fresh 0 0 led) [] _ rfl (Heap.get?_push_of_some _ hS) (Heap.get?_push_size _ rfl) F0 (by simp) hd (by simpa using hb) ?_
      show wpAny _ _ (pure ()) _ _ _
      refine wpAny_pure ?_
      show wpAny _ _ (ret Value.none) _ _ _
      have hS2 : ∀ o : Obj, ((s.heap.push (S0 led)).push o).get? s.heap.objs.size = some (S0 led) := fun o => Heap.get?_push_of_some _ hS
      refine wpAny_pure ⟨rfl, _, _, _, l, rfl, ?_, Fl, by rw [el]; exact Nat.zero_add _, fun b o hb2 e => ?_⟩
      · exact Heap.get?_push_of_some _ (Heap.get?_push_of_some _ (Heap.get?_update_of_ne _ (Ne.symm hne2) (get_upd _ (hS2 _) rfl)))
      · have n1 : b ≠ s.heap.objs.size := Nat.ne_of_lt hb2
        have n2 : b ≠ (s.heap.push (S0 led)).objs.size := by omega
        exact Heap.get?_push_of_some _ (Heap.get?_push_of_some _ (Heap.get?_update_of_ne _ (Ne.symm n2) (Heap.get?_update_of_ne _ (Ne.symm n1) (Heap.get?_push_of_some _ (Heap.get?_push_of_some _ e)))))
    · match r2, hr2 with
      | .error e, hr2 => exact hr2
      | .ok (.ret r), hr2 =>
        obtain ⟨rfl, h', tk, D, l, rfl, g1, g2, g3, g4⟩ := hr2
        repeat (any_goals (first | assumption | wp_step))
        exact h _ _ _ _ g1 g2 g3 g4
      | .ok .next, hr2 => exact hr2.elim
      | .ok .brk, hr2 => exact hr2.elim
      | .ok .cont, hr2 => exact hr2.elim
  | .ok .next, hr => exact hr.elim
  | .ok .brk, hr => exact hr.elim
  | .ok .cont, hr => exact hr.elim
end
section
open L2
def tLenSetT (ta : TE) : TE := fun σ H Q => ta σ H fun x H1 => ∃ t : Str, x = .str t ∧ t.cps.all (· < 128) = true ∧ t.cps.toList.Nodup ∧ t.cps.toList.length ≤ 4000 ∧ Q (.int (t.length : Nat)) H1
/-- len(set(e)), e a text of unlike signs -/
theorem pe_lenSetT {X : Cx} {a : Expr} {ta : TE} {p p2 q pos : Pos} (hg : Gl X "len") (hm : X.mg "len" = none) (hg2 : Gl X "set") (hm2 : X.mg "set" = none) (ha : PE X a ta) (hc : X.calm = true := by rfl)
    (na : starEach [a] X.env = (false, eval a X.env) :: starEach [] X.env := by rfl) : PE X (.Call (.Name "len" p) [.Call (.Name "set" p2) [a] [] q] [] pos) (tLenSetT ta) := by
  refine ⟨fun pins s σ H Q I h => ?_⟩
  refine Call_ (ld_blt I hg hm boot_len ?_)
  refine PyProof.Rows.callWith_builtin1 (PyProof.Rows.args_cons ?_ rfl) rfl rfl
  refine Call_ (ld_blt I hg2 hm2 (show bootBuiltins ("set" : Str) = some (.type "set") by decide +kernel) ?_)
  refine PyProof.Rows.callWith_type1 (PyProof.Rows.args_cons (thn (ha.run pins s σ H _ I h) fun v s1 ⟨x, H1, I1, r1, q1⟩ => PyProof.Rows.args_nil ?_) na) na rfl
  obtain ⟨t, rfl, h1, h2, h3, q1⟩ := q1
  obtain ⟨tk0, rfl⟩ := r1
  refine call_set_txt (I1.ok.hd hc) h1 h2 (by unfold scanBound; omega) fun h' tk D l g1 F el hk => ?_
  refine PyProof.Rows.args_nil ?_
  have I2 : Inv X pins σ H1 { s1 with heap := h', toks := tk } := I1.kept fun b o e => hk b o (Heap.lt_size e) e
  have hn : D.1.size = t.length := by rw [F.sz, el]; rfl
  exact call_len_set (es := D.1) (ep := D.2.1) (t := D.2.2) g1 ⟨rfl, rfl, rfl⟩ rfl F.fit (by rw [hn]; show ((t.cps.size : Nat) : Int) < _; rw [← Array.length_toList]; omega) ⟨.int t.length, H1, I2.tok _, ⟨_, by rw [hn]⟩, q1⟩
end
end FR
set_option Elab.async false
set_option linter.all false
set_option maxRecDepth 100000
/-! whole numbers as tests; dicts of the module inside a comprehension -/
namespace FR
open PySem PySem.Spec PyProof.Rows L2
def tTruI (ta : TE) : TT := fun σ H Q => ta σ H fun x H' => ∃ i, x = .int i ∧ Q (i != 0) H'
theorem pt_truthI {X : Cx} {a : Expr} {ta : TE} (ha : PE X a ta) (he : ∀ whole, isTrue a X.env whole = (do let v ← whole; standAt a.pos; holding [v] (truthy v))) : PT X a (tTruI ta) := by
  refine ⟨fun pins s σ H Q I h => ?_⟩
  exact isTrue_plain (thn (ha.run pins s σ H _ I h) fun v s1 ⟨x, H1, I1, r1, i, ex, q1⟩ => tru_ok pins s1 σ H1 x v Q I1 r1 ⟨i != 0, by subst ex; rfl, q1⟩) (he _)
theorem ix_kdictK {X : Cx} {K : PySem.W.Frag} {w : World} (hk : X.K = K) (hw : X.w = w) : IxR X (rIxD K w) := by
  subst hk hw
  exact ix_kdict
def rInW (K : PySem.W.Frag) (d : Addr) : R2 := fun x y H Q => ∃ (z : Str) (r : Option Value), x = .str z ∧ y = .ref d ∧ PySem.W.nsIn K d z = some r ∧ Q (.bl r.isSome) H
theorem op_inW {X : Cx} {K : PySem.W.Frag} {w : World} {d : Addr} (hk : X.K = K) (hw : X.w = w) (D : ∃ es n, KDict K w d es n) : OpR X (compareOp .In) (rInW K d) := by
  subst hk hw
  obtain ⟨es, n, D⟩ := D
  exact op_in_kd D
end FR
set_option Elab.async false
set_option linter.all false
set_option maxRecDepth 100000
/-! a comprehension over the keys of a dict of the module -/
namespace FR
open PySem PySem.Spec PyProof.Rows L2
theorem lc_kw {g : TG} {tt : TT} {te : TE} {vs : List Nat} {σ : L2.St} {H1 : Hp} {D : Addr} {Qd : Hp → Prop} {ks : List Str} (Pv : List Str → Hp → Prop) (h0 : Pv [] (upd H1 D (.lst [])))
    (hs : ∀ pre k post H, ks = pre ++ k :: post → Pv pre H → g (.str k) (wipe σ vs) H fun σ2 H2 => wipe σ2 vs = wipe σ vs ∧ tt σ2 H2 fun b H3 =>
      if b = true then te σ2 H3 fun y H4 => ∃ acc, H4 D = some (.lst acc) ∧ acc.length < sizeLine ∧ Pv (pre ++ [k]) (upd H4 D (.lst (acc ++ [y]))) else Pv (pre ++ [k]) H3) (hd : ∀ H, Pv ks H → Qd H) :
    ∃ W : Nat → Nat → Hp → Prop, (∃ m, W 0 m (upd H1 D (.lst []))) ∧ ∀ i m H, W i m H →
      ((ItW ks).stop i H ∧ Qd H) ∨ ((ItW ks).go i H ∧ ∃ Nx : Hp → Prop, (∀ H', Nx H' → ∃ m', m' < m ∧ W (i + 1) m' H') ∧ ∀ x H', (ItW ks).yld i H x H' → g x (wipe σ vs) H' fun σ2 H2 => wipe σ2 vs = wipe σ vs ∧ tt σ2 H2 fun b H3 =>
        if b = true then te σ2 H3 fun y H4 => ∃ acc, H4 D = some (.lst acc) ∧ acc.length < sizeLine ∧ Nx (upd H4 D (.lst (acc ++ [y]))) else Nx H3) := by
  refine lc_it walk_keysW (fun i H => Pv (ks.take i) H) (by simpa using h0) (fun _ _ _ _ => True.intro) ?_ (fun H p => hd H (by rw [List.take_length] at p; exact p))
  rintro i x H H' hi p ⟨rfl, k, hk, rfl⟩
  have e : ks = ks.take i ++ k :: ks.drop (i + 1) := by
    have h2 : ks[i] = k := by rw [List.getElem?_eq_getElem hi] at hk; exact Option.some.inj hk
    rw [← h2, ← List.drop_eq_getElem_cons hi, List.take_append_drop]
  have e2 : ks.take (i + 1) = ks.take i ++ [k] := by rw [List.take_add_one, hk]; rfl
  rw [e2]
  exact hs _ k _ _ e p
end FR
set_option Elab.async false
set_option linter.all false
set_option maxRecDepth 100000
/-! list(x) of a text -/
namespace FR
open PySem PySem.Spec PyProof.Rows L2 TL
def rListT : List V → Hp → VK → Prop := fun xs H Q => ∃ x : Str, xs = [.str x] ∧ x.cps.size ≤ sizeLine ∧ NewS (.lst ((tl x).map fun c => .str ⟨#[c]⟩)) Q H
theorem call_listT {X : Cx} (hc : X.calm = true) : CallR X (.type "list") rListT := by
  intro pins s σ H xs us Q I r h
  obtain ⟨x, rfl, hz, q⟩ := h
  obtain ⟨u, rfl, t, rfl⟩ : ∃ u, us = [u] ∧ ∃ t, u = Value.str x t := by
    cases r with
    | cons a b => cases b; exact ⟨_, rfl, a⟩
  refine call_list_str (hn := hz) (I.ok.hd hc) x t fun h' tk acc' c' hkeep hS hacc => ?_
  refine ⟨.ref s.heap.objs.size, upd H s.heap.objs.size (.lst ((tl x).map fun c => .str ⟨#[c]⟩)), I.laid hkeep (Nat.le_refl _) (show ObjOk X.prog X.w _ _ _ (.lst ((tl x).map fun c => .str ⟨#[c]⟩)) from ⟨?_, acc'.toList, c', ?_, ?_⟩), rfl,
    q.to _ _ (I.hok.fresh (Nat.le_refl _)) I.big (keep_new (I.hok.fresh (Nat.le_refl _))) upd_same⟩
  · rw [List.length_map]
    simpa using hz
  · have el : acc'.toList.length = acc'.size := by simp
    refine vals_of_at (by rw [List.length_map, el, hacc.1]; simp) fun j y v h1 h2 => ?_
    obtain ⟨c, tk2, hj, rfl⟩ := hacc.2 j v (by rw [← Array.getElem?_toList]; exact h2)
    rw [List.getElem?_map, show (tl x)[j]? = some c by simpa using hj] at h1
    cases h1
    exact ⟨tk2, rfl⟩
  · rw [Array.toArray_toList]; exact hS
end FR
set_option Elab.async false
set_option linter.all false
set_option maxRecDepth 100000
/-! x = e.replace(old, new) in a def: it wants that something has been made before, as it has where a def runs -/
namespace FR
open PySem PySem.Spec PyProof.Rows L2 TL
theorem okT {P : Program} {w : World} {K : PySem.W.Frag} {mg : Str → Option Value} {base : Heap} {x qual : Str} {st : Stmt} {f : Addr} {fd : FuncData} {N ps : List Str} {k : Nat} {sp : Sp}
    (F : Fun K x qual st f fd) (S : FnScope N ps (defScope st)) (nc : ∀ y ∈ (defScope st).names, y.2 ≠ NameKind.cell) (hp : 1 ≤ ps.length) (len : ∀ vs H Q E, sp vs H Q E → vs.length = ps.length)
    (body : ∀ (cdv : Value) (A : Around) (outer : List Env) (s : Shared) (H : Hp) (vs : List V) (Q : VK) (E : XK), Room k (A.deeper (envOfC qual (defScope st) s.heap.objs.size f cdv)) → sp vs H Q E →
      ∃ t, PSsT (cxOf CX0 P w K mg base N qual (defScope st) f cdv A outer s H E) (defBody st) t ∧ t { nx := fun _ H' => Q .non H', rt := Q } (start N vs) H) :
    FnOk P w K mg base CX0 (k + 1) f fd ps sp := by
  obtain ⟨oc, od, kV, doc, pm, an, cdv, ct, osl, rfl, hl, hc⟩ := F.ex
  exact fn_ofT hl hc S nc hp len fun A outer s H vs Q E hr h => body cdv A outer s H vs Q E hr h
theorem pst_asg {X : Cx} {pos : Pos} {tg e : Expr} {te : TE} {g : TG} (he : PET X e te) (hg : PG X tg g) (h1 : swapsWithSole [tg] e pos.line X.env = pure false := by rfl)
    (h2 : swappedStores [tg] e X.env = pure none := by rfl) (h3 : (assignEach [tg] X.env).map (fun x => x.2) = [assign tg X.env] := by rfl) : PST X (.Assign [tg] e pos) (tAsg te g) := by
  intro pins s σ H D ht I h
  refine wpAny_Assign_stores (wpAny_mono (he pins s σ H _ ht I h) (fun v s1 z => ?_) fun _ _ z => z) h1 h2
  obtain ⟨x, H1, I1, r1, q⟩ := z
  rw [h3]
  unfold assignAll
  exact wpAny_mono (hg.run pins s1 σ H1 x v _ I1 r1 q) (fun u s2 z => z) fun _ _ z => z
/-- without its slashes -/
def noSl (s : Str) : Str := Txt.replace s "/" ""
theorem repl_filter (c : Nat) : ∀ l : List Nat, PySem.StrLaws.replL [c] [] l = l.filter (fun d => d != c)
  | [] => PySem.StrLaws.replL_nil
  | d :: r => by
    by_cases e : d = c
    · subst e
      rw [PySem.StrLaws.replL_hit (by simp) (by simp)]
      simpa using repl_filter d r
    · rw [PySem.StrLaws.replL_miss (by simp [e]), repl_filter c r]
      simp [e]
theorem tl_noSl (s : Str) : tl (noSl s) = (tl s).filter (fun d => d != 47) := by
  refine (PySem.StrLaws.replace_list (x := s) (y := "/") (z := "") (by decide +kernel)).trans ?_
  exact repl_filter 47 _
theorem noSl_asc {s : Str} (a : Asc s) : Asc (noSl s) := fun c hc => a c (by rw [tl_noSl] at hc; exact (List.mem_filter.mp hc).1)
end FR
set_option Elab.async false
set_option linter.all false
set_option maxRecDepth 100000
/-! the parts of a path, and what is left of it without its slashes -/
namespace FR
open PySem PySem.Spec PyProof.Rows L2 TL
theorem spl_all (c : Nat) : ∀ (l acc : List Nat), (spl [c] 0 acc l).flatten = acc ++ l.filter (fun d => d != c)
  | [], acc => by rw [spl_nil]; simp
  | x :: r, acc => by
    by_cases e : pre [c] (x :: r) = true
    · rw [spl_hit e]
      have : x = c := by rw [pre_one] at e; simpa using e
      subst this
      have := spl_all x r []
      simp only [List.flatten_cons]
      show acc ++ (spl [x] 0 [] r).flatten = _
      rw [this]
      simp
    · rw [spl_miss (by simpa using e), spl_all c r (acc ++ [x])]
      have : x ≠ c := by rw [pre_one] at e; simpa using e
      simp [this]
theorem path_parts {s : Str} (h : Txt.startswith s ⟨#[47]⟩ = true) : (((Txt.split s ⟨#[47]⟩).drop 1).map tl).flatten = tl (noSl s) ∧ (Txt.split s ⟨#[47]⟩).drop 1 ≠ [] := by
  rw [starts_one] at h
  have e1 : ((Txt.split s ⟨#[47]⟩).drop 1).map tl = (spl [47] 0 [] (tl s)).drop 1 := by rw [List.map_drop, split_tl _ (by decide)]
  cases e : tl s with
  | nil => rw [e] at h; cases h
  | cons c r =>
    rw [e] at h
    have : c = 47 := by simpa using h
    subst this
    have e2 : (spl [47] 0 [] (47 :: r)).drop 1 = spl [47] 0 [] r := by
      rw [spl_hit (by rw [pre_one]; rfl)]
      rfl
    rw [e, e2] at e1
    constructor
    · rw [e1, spl_all, tl_noSl, e]
      simp
    · intro h0
      rw [h0] at e1
      have : ∀ (l acc : List Nat), spl [47] 0 acc l ≠ [] := by
        intro l
        induction l with
        | nil => intro acc; rw [spl_nil]; simp
        | cons x r ih =>
          intro acc
          by_cases e : pre [47] (x :: r) = true
          · rw [spl_hit e]; simp
          · rw [spl_miss (by simpa using e)]; exact ih _
      exact this r [] e1.symm
theorem path_split {s : Str} (h : Txt.startswith s ⟨#[47]⟩ = true) (p : Nat → Bool) :
    ((Txt.split s ⟨#[47]⟩).drop 1).all (fun u => decide (u ≠ Str.ofString "" ∧ u.length ≤ 8) && (tl u).all p) =
      ((decide (noSl s ≠ Str.ofString "") && (tl (noSl s)).all p) && ((Txt.split s ⟨#[47]⟩).drop 1).all (fun u => decide (1 ≤ u.length ∧ u.length ≤ 8))) := by
  obtain ⟨hf, hn⟩ := path_parts h
  have ne : ∀ u : Str, u ≠ Str.ofString "" ↔ 1 ≤ u.length := fun u => by
    constructor
    · intro e
      rcases Nat.eq_zero_or_pos u.length with z | z
      · refine absurd (ext_tl ?_) e
        rw [len_tl] at z
        rw [List.length_eq_zero_iff.mp z]
        decide +kernel
      · exact z
    · intro e h
      rw [h] at e
      exact absurd e (by decide +kernel)
  rw [Bool.eq_iff_iff, ← hf, List.all_flatten, List.all_map]
  simp only [Bool.and_eq_true, List.all_eq_true, decide_eq_true_eq, Function.comp]
  generalize (Txt.split s ⟨#[47]⟩).drop 1 = ps at hf hn
  constructor
  · intro a
    refine ⟨⟨?_, fun u hu => (a u hu).2⟩, fun u hu => ⟨(ne u).mp (a u hu).1.1, (a u hu).1.2⟩⟩
    intro e
    cases ps with
    | nil => exact hn rfl
    | cons u r =>
      have hu := (ne u).mp (a u (by simp)).1.1
      rw [e] at hf
      have := congrArg List.length hf
      rw [List.map_cons, List.flatten_cons, List.length_append, ← len_tl] at this
      have z : (tl (Str.ofString "")).length = 0 := by decide +kernel
      omega
  · rintro ⟨⟨_, a⟩, b⟩ u hu
    exact ⟨⟨(ne u).mpr (b u hu).1, (b u hu).2⟩, a u hu⟩
end FR
set_option Elab.async false
set_option linter.all false
set_option maxRecDepth 100000
/-! the last slash of a path; a path without its slashes -/
namespace FR
open PySem PySem.Spec PyProof.Rows L2 TL
theorem rfind_one {x : Str} {c i : Nat} (h : (tl x)[i]? = some c) (h2 : ∀ k, i < k → (tl x)[k]? ≠ some c) : Txt.rfind x ⟨#[c]⟩ = (i : Int) := by
  unfold Txt.rfind
  rcases PySem.StrLaws.last_spec x ⟨#[c]⟩ with ⟨_, hn⟩ | ⟨j, e, hj, hm⟩
  · exact absurd ((PySem.StrLaws.subAt_one x c i).mpr h) (hn i)
  · rw [e]
    have hj' := (PySem.StrLaws.subAt_one x c j).mp hj
    rcases Nat.lt_trichotomy i j with l | l | l
    · exact absurd hj' (h2 j l)
    · rw [l]
    · exact absurd ((PySem.StrLaws.subAt_one x c i).mpr h) (hm i l)
theorem flat_app (ms : List Str) (n : Str) : flat (ms ++ [n]) = flat ms ++ 47 :: tl n := by simp [flat]
theorem rfind_path {ms : List Str} {n : Str} (hn : Nm n) : Txt.rfind (pathOf (ms ++ [n])) (Str.ofString "/") = ((flat ms).length : Int) ∧ cutS (pathOf (ms ++ [n])) none (some ((flat ms).length : Int)) = cat ms := by
  have e : tl (pathOf (ms ++ [n])) = flat ms ++ 47 :: tl n := by rw [pathOf_ne (by simp), tl_cat, flat_app]
  constructor
  · rw [slash]
    refine rfind_one (by rw [e, List.getElem?_append_right (Nat.le_refl _), Nat.sub_self]; rfl) fun k hk h => ?_
    rw [e, List.getElem?_append_right (by omega)] at h
    obtain ⟨j, hj⟩ : ∃ j, k - (flat ms).length = j + 1 := ⟨k - (flat ms).length - 1, by omega⟩
    rw [hj, List.getElem?_cons_succ] at h
    have := hn.lt (List.mem_of_getElem? h)
    omega
  · refine ext_tl ?_
    rw [tl_cutTo, e, tl_cat, List.take_left]
theorem low_of {s : Str} (h0 : tl s ≠ []) (h : ∀ c ∈ tl s, lc c = true) : Txt.isascii s = true ∧ Txt.isalpha s = true ∧ Txt.islower s = true := by
  have ha : Asc s := fun c hc => by have := of_decide_eq_true (h c hc); omega
  refine ⟨isascii_asc ha, ?_, ?_⟩
  · show (decide (s.length > 0) && s.cps.all Unicode.isAlpha) = true
    rw [all_tl, Bool.and_eq_true, decide_eq_true_eq, List.all_eq_true, len_tl]
    exact ⟨List.length_pos_iff.mpr h0, fun c hc => (lc_alpha ⟨c, ha c hc⟩ (h c hc)).1⟩
  · show (s.cps.any Unicode.isLower && !s.cps.any fun c => Unicode.isUpper c || Unicode.isTitle c) = true
    rw [any_tl, any_tl, Bool.and_eq_true, List.any_eq_true, Bool.not_eq_true', List.any_eq_false]
    refine ⟨?_, fun c hc => by have := (lc_alpha ⟨c, ha c hc⟩ (h c hc)).2.2; simpa using this⟩
    obtain ⟨c, hc⟩ := List.exists_mem_of_ne_nil _ h0
    exact ⟨c, hc, (lc_alpha ⟨c, ha c hc⟩ (h c hc)).2.1⟩
theorem path_noSl {ns : List Str} (h : Nms ns) (e : ns ≠ []) : Txt.isascii (noSl (pathOf ns)) = true ∧ Txt.isalpha (noSl (pathOf ns)) = true ∧ Txt.islower (noSl (pathOf ns)) = true := by
  have hm : ∀ c, c ∈ tl (noSl (pathOf ns)) ↔ ∃ s ∈ ns, c ∈ tl s := fun c => by
    rw [tl_noSl, pathOf_ne e, tl_cat, List.mem_filter]
    unfold flat
    rw [List.mem_flatten]
    constructor
    · rintro ⟨⟨l, hl, hc⟩, hne⟩
      obtain ⟨s, hs, rfl⟩ := List.mem_map.mp hl
      rcases List.mem_cons.mp hc with rfl | hc
      · simp at hne
      · exact ⟨s, hs, hc⟩
    · rintro ⟨s, hs, hc⟩
      refine ⟨⟨_, List.mem_map.mpr ⟨s, hs, rfl⟩, List.mem_cons_of_mem _ hc⟩, ?_⟩
      have := (h s hs).lt hc
      simp
      omega
  refine low_of (fun z => ?_) fun c hc => ?_
  · cases ns with
    | nil => exact e rfl
    | cons n r =>
      have h0 := (h n List.mem_cons_self).l0
      rw [len_tl] at h0
      obtain ⟨c, hc⟩ := List.exists_mem_of_length_pos h0
      have := (hm c).mpr ⟨n, List.mem_cons_self, hc⟩
      rw [z] at this
      cases this
  · obtain ⟨s, hs, hc⟩ := (hm c).mp hc
    exact (h s hs).lo c hc
end FR
set_option Elab.async false
set_option linter.all false
set_option maxRecDepth 100000
set_option maxHeartbeats 4000000
/-! bool(x), x == y and x != y of an own class, whatever stands on the right -/
namespace FR
open PySem PySem.Spec PyProof.Rows
theorem call_bool_tru {P : Program} {w : World} {A : Around} {E : Value → Shared → Prop} {s : Shared} {x : Value} {Q : Value → Shared → Prop} (h : wpAny (model P w) A.in1.in1 (truthy x) (fun b s' => Q (.bool b) s') E s) :
    wpAny (model P w) A (call (.type "bool") [x]) Q E s := by
  refine callType_newIn (S := fun A R s => wpAny (model P w) A.in1 (truthy x) (fun b s' => R (.ok (.ret (.bool b))) s') (fun e s' => R (.error e) s') s) PySem.F.called_bool (by decide +kernel) (PySem.F.typeCall_bool_1 x) (PySem.F.newCall_bool_1 x) (fun o => PySem.F.args_object_init_2 o x) PySem.F.entry_bool_new ?_ ?_
  · intro A R s h
    unfold Builtin.«bool.__new__»
    have hsm : someArgs "bool" 0 1 { pos := [x] } = pure [x] := by rfl
    have hty : isType (Value.type "bool") = pure true := by rfl
    have hsub := PySem.F.called_bool.sub
    show wpAny _ _ (do let __do_lift ← isType (Value.type "bool"); _) _ _ _
    rw [hty, pure_bind]
    simp only [hsub, hsm, pure_bind, Bool.not_true, Bool.false_eq_true, if_false]
    refine wpAny_bind (wpAny_mono h (fun b s1 hb => ?_) fun _ _ z => z)
    exact wpAny_pure hb
  · exact wpAny_mono h (fun b s' q => ⟨PySem.typeIs_bool _ _, q⟩) fun _ _ z => z
open L2
open SlX (cmpback run_at)
section
variable {X : Cx} {C g : Addr} {n : Nat} {sp : Sp} {E : XK} {CX : CXT}
/-- bool(x), x of the class at C with an own __bool__ -/
def rBoolI (C : Addr) (sp : Sp) (E : XK) : List V → Hp → VK → Prop := fun xs H Q => ∃ a dx fs, xs = [.ref a] ∧ H a = some (.ins C dx fs) ∧ sp xs H (fun z H' => ∃ b, z = .bl b ∧ Q (.bl b) H') E
theorem call_boolI (hs : PySem.W.findIn X.K (.ref C) "__bool__" = some (some (.ref g))) (hf : PySem.W.isFn X.K (.ref g) = true) (F : FnR X.prog X.w X.K X.mg X.base CX n g sp)
    (hr : Room (n + 2) X.A) (hx : Passes CX X E) : CallR X (.type "bool") (rBoolI C sp E) := by
  intro pins s σ H xs us Q I r h
  obtain ⟨a, dx, fs, rfl, ha, q⟩ := h
  obtain ⟨u, rfl, ru⟩ := r.one
  cases (show u = Value.ref a from ru)
  obtain ⟨od, J⟩ := ins_inst I ha
  obtain ⟨m, hF⟩ := I.fr
  have hr2 : Room n X.A.in1.in1 := (show Room (n + 1) X.A.in1 from Room.in1 hr).in1
  refine call_bool_tru (PySem.W.truthy_K hF I.ok.mod.kin J hs hf (wpAny_mono (wpAny_call (run_at (us := [.ref a]) (ws := [.ref a]) F hr2 I.env0.in1.in1 hx I (.cons rfl .nil) q)) (fun w s' z => ?_) fun _ _ x => x))
  obtain ⟨z', H', I', rz, b, eb, qz⟩ := z
  subst eb
  cases (show w = Value.bool b from rz)
  exact ⟨.bl b, H', I', rfl, qz⟩
/-- not x, as a value -/
def rNotR (r : V → Hp → (Bool → Hp → Prop) → Prop) : V → Hp → VK → Prop := fun x H Q => r x H fun b H' => Q (.bl (!b)) H'
theorem un_not {r : V → Hp → (Bool → Hp → Prop) → Prop} (h : TruR X r) : UnR X (unaryOp .Not) (rNotR r) := by
  intro pins s σ H x v Q I rx q
  unfold unaryOp
  refine wpAny_holding ?_
  show wpAny _ _ (do let b ← truthy v; pure (Value.bool !b)) _ _ _
  refine wpAny_bind (wpAny_mono (h pins s σ H x v _ I rx q) (fun b s' z => ?_) fun _ _ z => z)
  obtain ⟨H', I', q'⟩ := z
  exact wpAny_pure ⟨.bl (!b), H', I', rfl, q'⟩
/-- what stands on the right of a comparison: one of the class, a text, a whole number -/
inductive Right (K : PySem.W.Frag) (H : Hp) (C : Addr) : V → Prop
  | own {b dy : Addr} {gs : List (Str × V)} : H b = some (.ins C dy gs) → Right K H C (.ref b)
  | str (t : Str) : PySem.W.notFirst K C (.type "str") = true → Right K H C (.str t)
  | int (i : Int) : PySem.W.notFirst K C (.type "int") = true → Right K H C (.int i)
theorem right_looks {pins : List (Addr × Obj)} {σ : L2.St} {H : Hp} {s : Shared} {y : V} {u : Value} (I : Inv X pins σ H s) (r : RelV y u) (h : Right X.K H C y) : ∃ tb, PySem.W.Looks (model X.prog X.w) s.heap (typeOf u) tb ∧ PySem.W.notFirst X.K C tb = true := by
  cases h with
  | own e =>
    cases (show u = _ from r)
    obtain ⟨od, J⟩ := ins_inst I e
    exact ⟨_, J.type, by unfold PySem.W.notFirst; simp⟩
  | str t e =>
    obtain ⟨tk, rfl⟩ := (show ∃ tk, u = Value.str t tk from r)
    exact ⟨_, fun A Q E s' _ q => by show wpAny _ _ (pure (Value.type "str")) _ _ _; exact wpAny_pure q, e⟩
  | int i e =>
    obtain ⟨tk, rfl⟩ := (show ∃ tk, u = Value.int i tk from r)
    exact ⟨_, fun A Q E s' _ q => by show wpAny _ _ (pure (Value.type "int")) _ _ _; exact wpAny_pure q, e⟩
def rCmpA (K : PySem.W.Frag) (C : Addr) (sp : Sp) (E : XK) : R2 := fun x y H Q => ∃ a dx fs, x = .ref a ∧ H a = some (.ins C dx fs) ∧ Right K H C y ∧ sp [x, y] H Q E
theorem op_cmpA {op : CmpOp} (hop : ∀ a b, compareOp op a b = richCompare op a b) (hs : PySem.W.findIn X.K (.ref C) (cmpInfo op).2.1 = some (some (.ref g))) (hf : PySem.W.isFn X.K (.ref g) = true) (F : FnR X.prog X.w X.K X.mg X.base CX n g sp)
    (hr : Room n X.A) (hx : Passes CX X E) : OpR X (compareOp op) (rCmpA X.K C sp E) := by
  intro pins s σ H x y v u Q I rx ry h
  obtain ⟨a, dx, fs, rfl, ha, hy, q⟩ := h
  cases (show v = Value.ref a from rx)
  obtain ⟨od, J⟩ := ins_inst I ha
  obtain ⟨tb, hl, hn⟩ := right_looks I ry hy
  obtain ⟨m, hF⟩ := I.fr
  rw [hop]
  refine PySem.W.cmp_K (op := op) (tb := tb) hr.units0 hF I.ok.mod.kin J hl hn hs hf ?_
  refine wpAny_mono (wpAny_call (run_fnR (us := [.ref a, u]) (vs := [.ref a, y]) F hr hx I (.cons rfl (.cons ry .nil)) q)) (fun w s' z => ?_) fun _ _ x => x
  obtain ⟨z', H', I', rz, qz⟩ := z
  exact cmpback rz ⟨z', H', I', rz, qz⟩
def rNeA (K : PySem.W.Frag) (C : Addr) (sp : Sp) (E : XK) : R2 := fun x y H Q => ∃ a dx fs, x = .ref a ∧ H a = some (.ins C dx fs) ∧ Right K H C y ∧ sp [x, y] H (fun z H' => ∃ v, z = .bl v ∧ Q (.bl (!v)) H') E
theorem op_neA (hm : PySem.W.mroIn X.K C (.type "object") = some true) (hne : PySem.W.findIn X.K (.ref C) "__ne__" = some (some (.builtin "object.__ne__"))) (hs : PySem.W.findIn X.K (.ref C) "__eq__" = some (some (.ref g))) (hf : PySem.W.isFn X.K (.ref g) = true)
    (F : FnR X.prog X.w X.K X.mg X.base CX n g sp) (hr : Room (n + 1) X.A) (hx : Passes CX X E) : OpR X (compareOp .NotEq) (rNeA X.K C sp E) := by
  intro pins s σ H x y v u Q I rx ry h
  obtain ⟨a, dx, fs, rfl, ha, hy, q⟩ := h
  cases (show v = Value.ref a from rx)
  obtain ⟨od, J⟩ := ins_inst I ha
  obtain ⟨tb, hl, hn⟩ := right_looks I ry hy
  refine rc_ne_own (tb := tb) hr.units0 hr.in1.units0 I.kIn J hl hn hm hne hs hf ?_
  refine wpAny_mono (wpAny_call (run_at (us := [.ref a, u]) (ws := [.ref a, y]) F hr.in1 I.env0.in1 hx I (.cons rfl (.cons ry .nil)) q)) (fun w s' z => ?_) fun _ _ x => x
  obtain ⟨z', H', I', rz, b', eb, qz⟩ := z
  subst eb
  cases (show w = Value.bool b' from rz)
  exact ⟨b', rfl, .bl (!b'), H', I', rfl, qz⟩
end
/-- isinstance(x, C): x one of the class, or of another kind -/
def rIsA (K : PySem.W.Frag) (C : Addr) : List V → Hp → VK → Prop := fun xs H Q => (∃ a dx fs, xs = [.ref a, .ref C] ∧ H a = some (.ins C dx fs) ∧ Q (.bl true) H) ∨ rIsi K xs H Q
theorem call_isA {X : Cx} {C : Addr} (h : C8.InsC X.K C) : CallR X (.builtin "isinstance") (rIsA X.K C) := by
  intro pins s σ H xs us Q I r q
  rcases q with q | q
  · exact C8.call_isC h pins s σ H xs us Q I r q
  · exact call_isi pins s σ H xs us Q I r q
theorem op_in_seqK {X : Cx} {K : PySem.W.Frag} (h : X.K = K) : OpR X (compareOp .In) (rIn K false) := h ▸ op_in_seq
theorem kit_ofT {K : PySem.W.Frag} {n : String} {S : Addr} {b : Bool} (h2 : PySem.W.isClsIn K S = true) (h3 : PySem.W.typeIn K (.ref S) = some (.type "type")) (h4 : PySem.W.subIn K (.type n) (.ref S) = some b) : PySem.W.kitOne K (.type n) (.ref S) = some b := by
  have e2 : ((PySem.W.clsIn K S).isSome && PySem.W.typeIn K (.ref S) == some (.type "type")) = true := by
    rw [show (PySem.W.clsIn K S).isSome = true from h2, h3] <;> rfl
  unfold PySem.W.kitOne
  rw [if_neg (show ¬ (Value.type n == Value.ref S) = true by simp)]
  show (if ((PySem.W.clsIn K S).isSome && PySem.W.typeIn K (.ref S) == some (.type "type")) = true then PySem.W.subIn K (.type n) (.ref S) else none) = some b
  rw [if_pos e2]
  exact h4
end FR
set_option Elab.async false
set_option linter.all false
set_option maxRecDepth 100000
/-! cls(..) where cls is a local; classmethods -/
namespace FR
open PySem PySem.Spec PyProof.Rows L2 TL
section
variable {X : Cx} {CX : CXT} {k : Nat} {f C : Addr} {fd : FuncData} {ps : List Str} {sp : Sp} {dvs : List V} {ds : List Value} {E : XK} {x : Str} {p pos : Pos} {i : Nat}
def tMakeL (i : Nat) (C : Addr) (sp : Sp) (dvs : List V) (E : XK) (t : TA) : TE := fun σ H Q => σ[i]? = some (some (.ref C)) ∧ tMake C sp dvs E t σ H Q
theorem pe_makeL0 (hv : PE X (.Name x p) (tVar i)) (M : Mk X.K C f) (F : FnOk X.prog X.w X.K X.mg X.base CX k f fd ps sp) (hr : Room (k + 1) X.A) (hb : Binds X.K fd ps ds) (hd : Vals dvs ds) (hx : Passes CX X E) :
    PE X (.Call (.Name x p) [] [] pos) (tMakeL i C sp dvs E tNil) := by
  refine ⟨fun pins s σ H Q I h => ?_⟩
  obtain ⟨h1, h2⟩ := h
  refine wpAny_Call_Name_kw (thn (hv.run pins s σ H (fun v H' => v = .ref C ∧ tMake C sp dvs E tNil σ H' Q) I ⟨_, h1, rfl, h2⟩) fun u s1 hh => ?_)
  obtain ⟨v, H1, I1, r1, rfl, q⟩ := hh
  cases (show u = Value.ref C from r1)
  refine PySem.W.callWith_K0 I1.kIn M.kp ?_
  exact run_make (us := []) (vs := []) M F hr hb hd hx I1 .nil q
theorem pe_makeL {e : Expr} {es : List Expr} {t : TA} (hv : PE X (.Name x p) (tVar i)) (M : Mk X.K C f) (F : FnOk X.prog X.w X.K X.mg X.base CX k f fd ps sp) (hr : Room (k + 1) X.A) (hb : Binds X.K fd ps ds) (hd : Vals dvs ds) (hx : Passes CX X E) (ha : PA X (e :: es) t)
    (he : starEach (e :: es) X.env = (false, eval e X.env) :: starEach es X.env := by rfl) (hpl : (backTo pos (starEach es X.env)).any (·.1) = false := by rfl) :
    PE X (.Call (.Name x p) (e :: es) [] pos) (tMakeL i C sp dvs E t) := by
  refine ⟨fun pins s σ H Q I h => ?_⟩
  obtain ⟨h1, h2⟩ := h
  refine wpAny_Call_Name_kw (thn (hv.run pins s σ H (fun v H' => v = .ref C ∧ tMake C sp dvs E t σ H' Q) I ⟨_, h1, rfl, h2⟩) fun u s1 hh => ?_)
  obtain ⟨v, H1, I1, r1, rfl, q⟩ := hh
  cases (show u = Value.ref C from r1)
  refine PySem.W.callWith_K (h₀ := X.base) I1.ok.mod.kin M.kp (thn (ha.run pos pins s1 σ H1 _ I1 q) fun us s2 hz => ?_) he hpl
  obtain ⟨vs, H2, I2, r2, q2⟩ := hz
  exact ⟨I2.kIn, run_make (us := us) (vs := vs) M F hr hb hd hx I2 r2 q2⟩
end
end FR
set_option Elab.async false
set_option linter.all false
set_option maxRecDepth 100000
/-! x in t, t a tuple of data, x any datum -/
namespace FR
open PySem PySem.Spec PyProof.Rows L2 TL PySem.SeqAt
def rInTD (K : PySem.W.Frag) : R2 := fun x y H Q => ∃ (p : Addr) (d : PyData) (ds : List PyData), y = .ref p ∧ Dp K H x d ∧ Dp K H y (.tuple ds) ∧ SeqAt.shaped d = true ∧ PyData.canLayAll0 ds = true ∧ Q (.bl (ds.any fun z => z.eqv d)) H
theorem op_inTD {X : Cx} (hu : X.A.units + 65 < cLine) : OpR X (compareOp .In) (rInTD X.K) := by
  intro pins s σ H x y v u Q I rx ry h
  obtain ⟨p, d, ds, rfl, hd, hy, s1, c2, q⟩ := h
  cases (show u = Value.ref p from ry)
  obtain ⟨as, r1⟩ := Dp.reads I _ _ _ hd rx
  obtain ⟨bs, r2⟩ := Dp.reads I _ _ _ hy ry
  unfold SeqAt.shaped at s1
  rw [Bool.and_eq_true, decide_eq_true_eq] at s1
  cases r2 with
  | tuple e hc hdt hr =>
    refine in_tupleAt (fun z => (readOf s.heap z).eqv d) ⟨_, e, hc, _, hdt⟩ (items_eqAt hr r1 c2 s1.1 (by have := Nat.min_le_right (PyData.depthAll ds) d.depth; omega)) ⟨.bl (ds.any fun z => z.eqv d), H, I, ?_, q⟩
    show Value.bool _ = Value.bool _
    rw [any_by_data hr c2]
end FR
set_option Elab.async false
set_option linter.all false
set_option maxRecDepth 100000
/-! keyword calls of raising defs -/
namespace FR
open PySem PySem.Spec PyProof.Rows L2 TL
section
variable {X : Cx} {CX : CXT} {k n : Nat} {f : Addr} {fd : FuncData} {ps ks : List Str} {sp : Sp} {E : L2.St → XK} {x : Str} {p pos : Pos} {e : Expr} {es : List Expr} {kws : List Keyword} {t tk : TA} {g : List Value → List Value → List Value} {gV : List V → List V → List V}
theorem run_fnNS {pins : List (Addr × Obj)} {σ : L2.St} {H : Hp} {s : Shared} {Q : VK} {us ws : List Value} {vs zs : List V} (F : FnOk X.prog X.w X.K X.mg X.base CX k f fd ps sp) (hr : Room k X.A) (hb : KBn X.K fd ps n ks g gV) (hx : PassesAt CX X σ (E σ))
    (I : Inv X pins σ H s) (r : Vals vs us) (rz : Vals zs ws) (l1 : vs.length = n) (l2 : zs.length = ks.length) (h : sp (gV vs zs) H Q (E σ)) : wpAny (model X.prog X.w) X.A (call (.ref f) us (ks.zip ws)) (EP X pins σ Q) X.xe s := by
  have r2 := hb.rel r rz
  refine wpAny_call (codeAny_mono (F.run X.A X.stack s H ⟨us, ks.zip ws⟩ (g us ws) (gV vs zs) Q (E σ) hr I.env0 (hb.to s us ws I.kIn (r.length.symm.trans l1) (rz.length.symm.trans l2)) r2 h) fun r s' hq => ?_)
  cases r with
  | error e => exact hx pins H s e s' I hq
  | ok fl =>
    cases fl with
    | ret u => exact I.after hq
    | next => exact False.elim hq
    | brk => exact False.elim hq
    | cont => exact False.elim hq
def tCallNS (n m : Nat) (sp : Sp) (gV : List V → List V → List V) (E : L2.St → XK) (t tk : TA) : TE := fun σ H Q => t σ H fun vs H1 => tk σ H1 fun zs H2 => vs.length = n ∧ zs.length = m ∧ sp (gV vs zs) H2 Q (E σ)
theorem pe_callN0S (F : FnOk X.prog X.w X.K X.mg X.base CX k f fd ps sp) (hr : Room k X.A) (hg : Gl X x) (hm : X.mg x = some (.ref f)) (hk : PySem.W.keepIn X.K (.ref f) = true) (hb : KBn X.K fd ps 0 ks g gV) (hx : ∀ σ, PassesAt CX X σ (E σ)) (hkw : PK X kws tk)
    (hall : (backToKw pos (keywordEach kws X.env)).all (·.1.isSome) = true := by rfl) (hks : (backToKw pos (keywordEach kws X.env)).filterMap (·.1) = ks := by rfl) (hdb : (x == ("__debug__" : Str)) = false := by decide)
    (hpl : ((backTo pos (starEach [] X.env)).any (·.1) || (backToKw pos (keywordEach kws X.env)).any (·.1.isNone)) = false := by rfl) : PE X (.Call (.Name x p) [] kws pos) (tCallNS 0 ks.length sp gV E tNil tk) := ⟨fun pins s σ H Q I h => by
  refine wpAny_Call_Name_kw (ld_glob I hg hm (PySem.W.callWith_KW0 (h₀ := X.base) I.ok.mod.kin hk hall ?_ hpl) hdb)
  refine thn (hkw.run pos pins s σ H _ I h) fun ws s2 hz => ?_
  obtain ⟨zs, H2, I2, rz, l1, l2, q2⟩ := hz
  refine ⟨I2.kIn, ?_⟩
  rw [hks]
  exact run_fnNS (us := []) (vs := []) F hr hb (hx σ) I2 .nil rz rfl l2 q2⟩
end
end FR
set_option Elab.async false
set_option linter.all false
set_option maxRecDepth 100000
/-! t + u and t[lo:hi] of tuples, whichever object stands for them -/
namespace FR
open PySem PySem.Spec PyProof.Rows L2 TL
section
variable {X : Cx}
def rCatK : R2 := fun x y H Q => ∃ a b xs ys, x = .ref a ∧ y = .ref b ∧ H a = some (.tup xs) ∧ H b = some (.tup ys) ∧ xs.length + ys.length ≤ sizeLine ∧ ∀ p H', Keep [] H H' → H' p = some (.tup (xs ++ ys)) → Q (.ref p) H'
theorem op_catK : OpR X (binaryOp .Add) rCatK := fun pins s σ H x y v u Q I rx ry h => by
  obtain ⟨a, b, xs, ys, rfl, rfl, ha, hb, hz, q⟩ := h
  refine op_catA pins s σ H _ _ v u Q I rx ry ⟨a, b, xs, ys, rfl, rfl, .inl (.inl ha), .inl (.inl hb), hz, fun e => q b H Keep.refl (by rw [e]; exact hb), fun _ e => q a H Keep.refl (by rw [e, List.append_nil]; exact ha), fun _ _ p np => q p _ (keep_new np) upd_same⟩
def rSlK : V → Option Int → Option Int → Hp → VK → Prop := fun x lo hi H Q => ∃ a xs, x = .ref a ∧ H a = some (.tup xs) ∧ ∀ p H', Keep [] H H' → H' p = some (.tup (cutV xs lo hi)) → Q (.ref p) H'
theorem sl_tupK : SlR X rSlK := fun pins s σ H x v vl vu lo hi sl Q I rx hs pl pu h => by
  obtain ⟨a, xs, rfl, ha, q⟩ := h
  refine sl_tupA pins s σ H _ v vl vu lo hi sl Q I rx hs pl pu ⟨a, xs, rfl, .inl (.inl ha), fun e => q a H Keep.refl ?_, fun _ p np => q p _ (keep_new np) upd_same⟩
  rw [ha]
  unfold cutV
  rw [e.1, e.2, List.drop_zero, Nat.sub_zero, List.take_length]
end
theorem cutV_mem {xs : List V} {lo hi : Option Int} {x : V} (h : x ∈ cutV xs lo hi) : x ∈ xs := List.mem_of_mem_drop (List.mem_of_mem_take h)
end FR
set_option Elab.async false
set_option linter.all false
set_option maxRecDepth 100000
/-! blocks of a def that are shown by themselves -/
namespace FR
open PySem PySem.Spec PyProof.Rows L2 TL
/-- a block, by what it asks -/
theorem pss_b {X : Cx} {b : List Stmt} {t R : TS} (h : PSs X b t) (k : ∀ D σ H, R D σ H → t D σ H) : PSs X b R := ⟨fun pins s σ H D I q => h.run pins s σ H D I (k D σ H q)⟩
def bdF : Stmt → List Stmt
  | .For _ _ b _ _ => b
  | .While _ b _ _ => b
  | .If _ b _ _ => b
  | .Try b _ _ _ _ => b
  | _ => []
def bdE : Stmt → List Stmt
  | .For _ _ _ b _ => b
  | .While _ _ b _ => b
  | .If _ _ b _ => b
  | .Try _ _ b _ _ => b
  | _ => []
def nth (l : List Stmt) (i : Nat) : Stmt := l.getD i (.Pass ⟨0, 0, 0, 0⟩)
/-- repr, its text kept closed -/
theorem rep_to {K : PySem.W.Frag} {xs : List V} {H : Hp} {Q : VK} {p : Addr} {d : PyData} {tx : Str} (e : d.shown = tx) (h : Dp K H (.ref p) d ∧ d.showable = true ∧ d.hasDict = false ∧ d.depth ≤ 50 ∧ d.shown.length ≤ sizeLine) (hx : xs = [.ref p]) (q : Q (.str tx) H) : rReprD K xs H Q :=
  ⟨p, d, hx, h.1, h.2.1, h.2.2.1, h.2.2.2.1, h.2.2.2.2, by rw [e]; exact q⟩
theorem rep_ex {K : PySem.W.Frag} {H : Hp} {p : Addr} {d : PyData} (_ : Dp K H (.ref p) d ∧ d.showable = true ∧ d.hasDict = false ∧ d.depth ≤ 50 ∧ d.shown.length ≤ sizeLine) : ∃ t, d.shown = t := ⟨_, rfl⟩
theorem same_txt {t : Str} {A B : Prop} (b : B) : if (!decide (V.str t = V.str t)) = true then A else B := by
  rw [decide_eq_true rfl]
  exact b
end FR
set_option Elab.async false
set_option linter.all false
set_option maxRecDepth 100000
set_option maxHeartbeats 4000000
/-! set(x) of any text of seven bits; its len -/
namespace FR
open PySem PySem.Spec PyProof.Rows PySem.Froz
/-- the signs that were met, each once -/
def meet (l : List Str) (cs : List Nat) : List Str := cs.foldl (fun l c => if sing c ∈ l then l else sing c :: l) l
section
variable {P : Program} {w : World} {A : Around} {E : Value → Shared → Prop}
/-- a text that is there already -/
theorem add_there {s : Shared} {a : Addr} {T : String} {D : SD} {l : List Str} {k : Str} {u : Tok} {Q : Bool → Shared → Prop} (at_ : s.heap.get? a = some (sObj T D)) (F : TxOk P w D l) (m : k ∈ l) (room : l.length < scanBound) (q : Q false s) :
    wpAny (model P w) A (setAddHashed a (.str k u) (hashStr w k)) Q E s := by
  obtain ⟨es, ep, t⟩ := D
  have data : (sObj T (es, ep, t)).data = .set es ep t := rfl
  have small : es.size < scanBound := by
    have : es.size = l.length := F.sz
    omega
  have key : (strKind P w).is k (.str k u) = true := is_str k u
  obtain ⟨j, hj⟩ : ∃ j, List.findIdx? (fun e => (strKind P w).is k e.2) es.toList = some j := by
    cases z : List.findIdx? (fun e => (strKind P w).is k e.2) es.toList with
    | some j => exact ⟨j, rfl⟩
    | none =>
      obtain ⟨e, he, y⟩ := (F.mem k).mp m
      have := List.findIdx?_eq_none_iff.mp z e he
      rw [y] at this
      cases this
  unfold setAddHashed setAddHashedIn
  refine wpAny_holding (wpAny_bind (wpAny_setState_of at_ data F.fit ?_))
  dsimp only
  rw [byScan_of rfl small F.el, if_pos rfl]
  unfold setAddByScan
  refine wpAny_bind (wpAny_bind (wpAny_rule (wpAny_bind (wpAny_setScan_of (knd := strKind P w) (k := k) key at_ data F.fit F.el ?_))))
  rw [hj]
  exact wpAny_pure (wpAny_pure q)
/-- the rest of a text's signs into the set -/
theorem upd_signs {R : Result → Shared → Prop} {a it : Addr} (ne : a ≠ it) {T : String} {x : Str} {u : Tok} (hh : A.handled = none) : ∀ (cs : List Nat) (i : Nat) (D : SD) (l : List Str) (s : Shared), x.cps.toList.drop i = cs →
    s.heap.get? a = some (sObj T D) → s.heap.get? it = some (itObj x u i) → TxOk P w D l → l.length + cs.length < scanBound →
    (∀ (D' : SD) (h' : Heap) (tk : Nat), TxOk P w D' (meet l cs) → h'.get? a = some (sObj T D') → (∀ b o, b ≠ a → b ≠ it → s.heap.get? b = some o → h'.get? b = some o) → R (.ok (.ret .none)) { s with heap := h', toks := tk }) →
    codeAny (model P w) A (.builtin "set.update.loop" ⟨[.ref a, .ref it], []⟩) R s
  | [], i, D, l, s, dr, ha, hit, F, room, q => by
    refine codeAny_builtin PyProof.Rows.F.entry_set_update_loop ?_
    rw [Around.under_plainId PyProof.Rows.F.plain_set_update_loop _]
    show wpAny _ A.in1 (pyNext (.ref it) >>= fun _ => _) _ _ s
    refine wpAny_bind (end_x (u := u) (by exact hh) hit (at_end dr) ?_)
    show wpAny _ A.in1 (ret Value.none) _ _ _
    refine wpAny_pure (q D _ _ F (Heap.get?_push_of_some _ (Heap.get?_push_of_some _ (PySem.Heap.get?_update_of_ne _ (Ne.symm ne) ha))) fun b o _ n2 e => ?_)
    exact Heap.get?_push_of_some _ (Heap.get?_push_of_some _ (PySem.Heap.get?_update_of_ne _ (Ne.symm n2) e))
  | c :: r, i, D, l, s, dr, ha, hit, F, room, q => by
    obtain ⟨hx, dr2⟩ := at_of dr
    have room2 : l.length + (r.length + 1) < scanBound := room
    have move : ∀ b o, b ≠ it → s.heap.get? b = some o → (s.heap.update it (fun _ => itObj x u (i + 1))).get? b = some o := fun b o n e => PySem.Heap.get?_update_of_ne _ (Ne.symm n) e
    refine codeAny_builtin PyProof.Rows.F.entry_set_update_loop ?_
    rw [Around.under_plainId PyProof.Rows.F.plain_set_update_loop _]
    show wpAny _ A.in1 (pyNext (.ref it) >>= fun _ => _) _ _ s
    refine wpAny_bind (next_x (u := u) hit hx ?_)
    show wpAny _ A.in1 (holding [Value.str (sing c) s.toks] (setAdd a (.str (sing c) s.toks)) >>= fun _ => _) _ _ _
    refine wpAny_bind (wpAny_holding ?_)
    unfold setAdd
    refine wpAny_holding (wpAny_bind ((strKind P w).pyHash (k := sing c) (is_str _ _) ?_))
    have ha1 := move a _ ne ha
    have hit1 : (s.heap.update it (fun _ => itObj x u (i + 1))).get? it = some (itObj x u (i + 1)) := get_upd _ hit rfl
    by_cases m : sing c ∈ l
    · refine add_there (s := { s with heap := s.heap.update it (fun _ => itObj x u (i + 1)), toks := s.toks + 1 + 1 }) ha1 F m (by omega) ?_
      refine wpAny_pure ⟨plainId_quiet PyProof.Rows.F.plain_set_update_loop _, upd_signs ne hh r (i + 1) D l _ dr2 ha1 hit1 F (by omega) fun D' h' tk F' a' k' => ?_⟩
      exact q D' h' tk (by unfold meet at F' ⊢; rw [List.foldl_cons, if_pos m]; exact F') a' fun b o n1 n2 e => k' b o n1 n2 (move b o n2 e)
    · refine add_x (l := l) (D := D) (s := { s with heap := s.heap.update it (fun _ => itObj x u (i + 1)), toks := s.toks + 1 + 1 }) ha1 F m (by omega) ?_
      have ha2 : ((s.heap.update it (fun _ => itObj x u (i + 1))).update a (fun _ => sObj T (addTx (hashStr w (sing c)) (.str (sing c) s.toks) D))).get? a = some (sObj T (addTx (hashStr w (sing c)) (.str (sing c) s.toks) D)) := get_upd _ ha1 rfl
      have hit2 : ((s.heap.update it (fun _ => itObj x u (i + 1))).update a (fun _ => sObj T (addTx (hashStr w (sing c)) (.str (sing c) s.toks) D))).get? it = some (itObj x u (i + 1)) := PySem.Heap.get?_update_of_ne _ ne hit1
      refine wpAny_pure ⟨plainId_quiet PyProof.Rows.F.plain_set_update_loop _, upd_signs ne hh r (i + 1) _ (sing c :: l) _ dr2 ha2 hit2 (add_ok s.toks F) (by show l.length + 1 + r.length < scanBound; omega) fun D' h' tk F' a' k' => ?_⟩
      exact q D' h' tk (by unfold meet at F' ⊢; rw [List.foldl_cons, if_neg m]; exact F') a' fun b o n1 n2 e => k' b o n1 n2 (PySem.Heap.get?_update_of_ne _ (Ne.symm n1) (move b o n2 e))
theorem call_set_any {s : Shared} {x : Str} {u : Tok} {Q : Value → Shared → Prop} (hh : A.handled = none) (ha : x.cps.all (· < 128) = true) (hb : x.cps.toList.length < scanBound)
    (h : ∀ (h' : Heap) (tk : Nat) (D : SD), h'.get? s.heap.objs.size = some (sObj "set" D) → TxOk P w D (meet [] x.cps.toList) → (∀ b o, b < s.heap.objs.size → s.heap.get? b = some o → h'.get? b = some o) →
      Q (.ref s.heap.objs.size) { s with heap := h', toks := tk }) :
    wpAny (model P w) A (call (.type "set") [.str x u]) Q E s := by
  obtain ⟨c, tl, hmro⟩ := PySem.F.called_set.mro
  have hmade := PySem.F.called_set.made
  have hsub := PySem.F.called_set.sub
  refine wpAny_call (codeAny_of_tree ?_)
  show wpAny _ _ (callAny (.type "set") _) _ _ _
  refine wpAny_pure ⟨Code.quiet_builtin _ (by decide +kernel), codeAny_builtin PySem.F.entry_type_call ?_⟩
  rw [Around.under_plain (weight_type_call_type "set" [.str x u] []) rfl]
  have h1 := PySem.F.called_set.notType
  have h2 := PySem.F.called_set.canCreate
  have hct := PySem.F.typeCall_set_1 (.str x u)
  repeat (any_goals (first | assumption | wp_step))
  let S0 : Bool → Obj := fun led => { cls := .type "set", dict := none, data := .set #[] 0 (.fresh 0 0 led) }
  refine codeAny_mono (code_set_new_1 (.str x u) (E := E) (Q₁ := fun obj s1 => ∃ led : Bool, obj = .ref s.heap.objs.size ∧ s1 = { s with heap := s.heap.push (S0 led) }) fun led => ⟨led, rfl, rfl⟩) fun r s1 hr => ?_
  match r, hr with
  | .error e, hr => exact hr
  | .ok (.ret obj), hr =>
    obtain ⟨led, rfl, rfl⟩ := hr
    have hS : (s.heap.push (S0 led)).get? s.heap.objs.size = some (S0 led) := Heap.get?_push_size _ rfl
    have hT : Shared.TypeIs { s with heap := s.heap.push (S0 led) } (.ref s.heap.objs.size) "set" := ⟨_, hS, rfl⟩
    have hli := PySem.F.called_set.init.lookup
    have hbi := PySem.F.called_set.init.bind (.ref s.heap.objs.size)
    repeat (any_goals (first | assumption | wp_step))
    refine codeAny_mono (codeAny_call_builtin (R := wants (fun r s2 => r = .none ∧ ∃ (h' : Heap) (tk : Nat) (D : SD), s2 = { s with heap := h', toks := tk } ∧ h'.get? s.heap.objs.size = some (sObj "set" D) ∧ TxOk P w D (meet [] x.cps.toList) ∧
      (∀ b o, b < s.heap.objs.size → s.heap.get? b = some o → h'.get? b = some o)) E) PySem.F.called_set.init.plain PySem.F.entry_set_init (check_set_init_1 hT ?_)) fun r2 s2 hr2 => ?_
    · have hs1 := PySem.F.sub_str_set
      have hs2 := PySem.F.sub_str_frozenset
      have hne : (Value.type "str" == Value.type "dict") = false := by decide
      unfold Builtin.«set.__init__» noKeywords Builtin.Frozenset.updateFrom
      generalize hPI : pyIter = PI
      wp_walk
      subst hPI
      refine wpAny_pyIter_ascii ha ?_
      refine wpAny_bind (wpAny_runValue ?_)
      have hsz : (s.heap.push (S0 led)).objs.size = s.heap.objs.size + 1 := Heap.size_push ..
      have hne2 : s.heap.objs.size ≠ (s.heap.push (S0 led)).objs.size := by omega
      have F0 : TxOk P w (#[], 0, .fresh 0 0 led) [] := TxOk.nil (by rfl)
      refine upd_signs (T := "set") (x := x) (u := u) (P := P) (w := w) hne2 (by simp [hh]) x.cps.toList 0 (#[], 0, .fresh 0 0 led) [] _ rfl (Heap.get?_push_of_some _ hS) (Heap.get?_push_size _ rfl) F0 (by simpa using hb) fun D' h' tk F' a' k' => ?_
      show wpAny _ _ (pure ()) _ _ _
      refine wpAny_pure ?_
      show wpAny _ _ (ret Value.none) _ _ _
      refine wpAny_pure ⟨rfl, _, _, D', rfl, a', F', fun b o hb2 e => ?_⟩
      have n1 : b ≠ s.heap.objs.size := Nat.ne_of_lt hb2
      have n2 : b ≠ (s.heap.push (S0 led)).objs.size := by omega
      exact k' b o n1 n2 (Heap.get?_push_of_some _ (Heap.get?_push_of_some _ e))
    · match r2, hr2 with
      | .error e, hr2 => exact hr2
      | .ok (.ret r), hr2 =>
        obtain ⟨rfl, h', tk, D, rfl, g1, g2, g4⟩ := hr2
        repeat (any_goals (first | assumption | wp_step))
        exact h _ _ _ g1 g2 g4
      | .ok .next, hr2 => exact hr2.elim
      | .ok .brk, hr2 => exact hr2.elim
      | .ok .cont, hr2 => exact hr2.elim
  | .ok .next, hr => exact hr.elim
  | .ok .brk, hr => exact hr.elim
  | .ok .cont, hr => exact hr.elim
end
section
open L2
theorem meet_len : ∀ (cs : List Nat) (l : List Str), (meet l cs).length ≤ l.length + cs.length
  | [], l => Nat.le_refl _
  | c :: r, l => by
    unfold meet
    rw [List.foldl_cons]
    have h1 := meet_len r l
    have h2 := meet_len r (sing c :: l)
    unfold meet at h1 h2
    split
    · simp only [List.length_cons] at h1 ⊢; omega
    · simp only [List.length_cons] at h2 ⊢; omega
def tLenSetA (ta : TE) : TE := fun σ H Q => ta σ H fun x H1 => ∃ t : Str, x = .str t ∧ t.cps.all (· < 128) = true ∧ t.cps.toList.length ≤ 4000 ∧ Q (.int ((meet [] t.cps.toList).length : Nat)) H1
/-- len(set(e)), e a text -/
theorem pe_lenSetA {X : Cx} {a : Expr} {ta : TE} {p p2 q pos : Pos} (hg : Gl X "len") (hm : X.mg "len" = none) (hg2 : Gl X "set") (hm2 : X.mg "set" = none) (ha : PE X a ta) (hc : X.calm = true := by rfl)
    (na : starEach [a] X.env = (false, eval a X.env) :: starEach [] X.env := by rfl) : PE X (.Call (.Name "len" p) [.Call (.Name "set" p2) [a] [] q] [] pos) (tLenSetA ta) := by
  refine ⟨fun pins s σ H Q I h => ?_⟩
  refine Call_ (ld_blt I hg hm boot_len ?_)
  refine PyProof.Rows.callWith_builtin1 (PyProof.Rows.args_cons ?_ rfl) rfl rfl
  refine Call_ (ld_blt I hg2 hm2 (show bootBuiltins ("set" : Str) = some (.type "set") by decide +kernel) ?_)
  refine PyProof.Rows.callWith_type1 (PyProof.Rows.args_cons (thn (ha.run pins s σ H _ I h) fun v s1 ⟨x, H1, I1, r1, q1⟩ => PyProof.Rows.args_nil ?_) na) na rfl
  obtain ⟨t, rfl, h1, h3, q1⟩ := q1
  obtain ⟨tk0, rfl⟩ := r1
  refine call_set_any (I1.ok.hd hc) h1 (by unfold scanBound; omega) fun h' tk D g1 F hk => ?_
  refine PyProof.Rows.args_nil ?_
  have I2 : Inv X pins σ H1 { s1 with heap := h', toks := tk } := I1.kept fun b o e => hk b o (Heap.lt_size e) e
  have hn : D.1.size = (meet [] t.cps.toList).length := F.sz
  have hl := meet_len t.cps.toList []
  simp only [List.length_nil, Nat.zero_add] at hl
  exact call_len_set (es := D.1) (ep := D.2.1) (t := D.2.2) g1 ⟨rfl, rfl, rfl⟩ rfl F.fit (by rw [hn]; omega) ⟨.int (meet [] t.cps.toList).length, H1, I2.tok _, ⟨_, by rw [hn]⟩, q1⟩
end
end FR
set_option Elab.async false
set_option linter.all false
set_option maxRecDepth 100000
set_option maxHeartbeats 2000000
/-! a lambda handed to a def, where no repr is under way -/
namespace FR
open PySem PySem.Spec PyProof.Rows L2 TL LamX
section
variable {X : Cx} {σ : L2.St} {H : Hp} {s : Shared} {params : Arguments} {body : Expr} {scope : Scope} {f c' : Addr} {pm ctv : Value} {pins : List (Addr × Obj)}
/-- the lambda's own run, at the around Y -/
theorem lam_run {Y : Around} {outer : List Env} {s1 : Shared} {HZ : Hp} {E : XK} {Q : VK} {tb : TE} {k : Nat} (I : Inv X pins σ H s) (L : LamS X.env.scope scope)
    (hb : bindArgs (PySem.W.kla_fn "<lambda>" (X.env.qual ++ "<lambda>") params body scope (cloFrom X.env.cells scope.names []) pm (.ref c') ctv) ⟨[], []⟩ = pure [])
    (e0 : Env0 X.prog X.w X.K X.mg X.base Y outer s1 HZ) (nl : s1.heap.NoLimit) (hd : Y.handled = none) (hr : Room (k + 1) Y) (un : Un (frs X.stack) [] H HZ s.heap s1.heap)
    (at_ : s1.heap.get? f = some (PySem.W.kla_obj "<lambda>" (X.env.qual ++ "<lambda>") params body scope (cloFrom X.env.cells scope.names []) pm c' ctv)) (hc : HZ c' = some (CodeO c' (X.env.qual ++ "<lambda>")))
    (P : PE (lamCx X Y outer s1 HZ E scope f c') body tb) (ht : tb σ HZ Q) : codeAny (model X.prog X.w) Y (.call (.ref f) ⟨[], []⟩) (CR (L2.CX X.prog X.w) outer X.prog X.w HZ s1 Q E) s1 := by
  obtain ⟨oc, vs, t, g1, g2, g3⟩ := (e0.hok c' _ hc).1
  refine PySem.W.kla_callFunE hr.depth at_ rfl L.co L.gen rfl ⟨c', oc, vs, t, rfl, g1, g2, g3⟩ ?_
  rw [hb]
  refine wpAny_pure (wpAny_newFunctionEnv (fun y hy => (L.own y hy).2) (fun y hy => absurd hy (by simp)) (fun h1 ns same => ⟨nl.fresh _ same, ?_⟩) L.kind)
  have up : ∀ b o, s1.heap.get? b = some o → h1.get? b = some o := fun b o e => same.extBut b o (Nat.ne_of_lt (Heap.lt_size e)) (Heap.get?_push_of_some _ e)
  have J := lam_start2 (E := E) (f := f) (c' := c') (tk := s1.toks + ([] : List (Str × Value)).length) I L e0 hd un ns up
  show codeAny _ _ (.expr body (lamEnv X scope s1.heap.objs.size f c')) _ _
  refine PySem.W.kla_codeExpr (wpAny_mono (P.run [] _ _ HZ Q J ht) (fun v s2 z => ?_) fun _ _ z => z)
  obtain ⟨u, H2, J2, ru, qu⟩ := z
  exact ⟨u, H2, J2.os, J2.bare, J2.base, J2.hok, ru, qu⟩
/-- a() in the def that got the lambda -/
def tAct (f c' : Addr) (q : Str) (i : Nat) (tl : XK → Hp → VK → Prop) (W : WX) : TE := fun σZ HZ Q => σZ[i]? = some (some (.ref f)) ∧ HZ c' = some (CodeO c' q) ∧ tl (WE W σZ) HZ Q
end
/-- a def that is handed a lambda and calls it: TT is what it makes of the lambda's reading -/
def Gives (X : Cx) (N : List Str) (x : Str) (sc : Scope) (g : Addr) (cd : Value) (b : List Stmt) (a : Str) (q : Str) (TT : (XK → Hp → VK → Prop) → Hp → VK → Prop) : Prop :=
  ∀ (f c' : Addr) (s : Shared) (H : Hp) (Q : VK) (tl : XK → Hp → VK → Prop),
    (∀ (W : WX) (pn : List (Addr × Obj)) (xe : Value → Shared → Prop) (p1 p2 : Pos), Takes ((cxOf CX0 X.prog X.w X.K X.mg X.base N x sc g cd X.A X.stack s H fun _ _ _ => False).tr pn xe) W →
      PE ((cxOf CX0 X.prog X.w X.K X.mg X.base N x sc g cd X.A X.stack s H fun _ _ _ => False).tr pn xe) (.Call (.Name a p1) [] [] p2) (tAct f c' q 0 tl W)) →
    Room 1 (X.A.deeper (envOfC x sc s.heap.objs.size g cd)) → H c' = some (CodeO c' q) → TT tl H Q →
    ∃ t, PSs (cxOf CX0 X.prog X.w X.K X.mg X.base N x sc g cd X.A X.stack s H fun _ _ _ => False).nox b t ∧ t { nx := fun _ H' => Q .non H', rt := Q } (L2.start N [.ref f]) H
/-- x(lambda: body) -/
def tGive (T : List (Addr × Str)) (TT : (XK → Hp → VK → Prop) → Hp → VK → Prop) (t : XK → TE) : TE := fun σ H Q => Tabs T H ∧ ∀ H1, ExtN H H1 → Tabs T H1 → TT (fun E H' Q' => t E σ H' Q') H1 Q
section
variable {X : Cx}
theorem pe_give {T : List (Addr × Str)} {TT : (XK → Hp → VK → Prop) → Hp → VK → Prop} {x a : Str} {g c P : Addr} {k : Nat} {st : Stmt} {fd : FuncData} {N : List Str} {params : Arguments} {body : Expr} {scope : Scope} {t : XK → TE} {p lp pos : Pos}
    (hgd : X.A.guards = some []) (hr : Room (k + 2) X.A) (F : Fun X.K x x st g fd) (B : Binds X.K fd [a] []) (S : FnScope N [a] (defScope st)) (hN : N[0]? = some a) (hv : Vis (defScope st) a) (hg : Gl X x) (hm : X.mg x = some (.ref g)) (hk : PySem.W.keepIn X.K (.ref g) = true)
    (G : ∀ cd, Gives X N x (defScope st) g cd (defBody st) a (X.env.qual ++ "<lambda>") TT)
    (TB : TabB X.base X.mg c P) (hcode : X.env.code = .ref c) (hT : (P, X.env.qual ++ "<lambda>") ∈ T) (hu : ∀ p ∈ T, p.1 = P → p.2 = X.env.qual ++ "<lambda>") (L : LamS X.env.scope scope) (hdef : defaultsOf params X.env = ([], []))
    (hb : ∀ (q : Str) (cl : List (Str × Addr)) (pm cv ctv : Value), bindArgs (PySem.W.kla_fn "<lambda>" q params body scope cl pm cv ctv) ⟨[], []⟩ = pure [])
    (hbody : ∀ (Y : Around) (outer : List Env) (s : Shared) (H : Hp) (E : XK) (f c' : Addr), Y.guards = some [] → Room k (Y.deeper (lamEnv X scope s.heap.objs.size f c')) → PE (lamCx X Y outer s H E scope f c') body (t E))
    (hdb : (x == ("__debug__" : Str)) = false := by decide) (hda : (a == ("__debug__" : Str)) = false := by decide) (hca : (a == ("__classdict__" : Str)) = false := by decide) :
    PE X (.Call (.Name x p) [.Lambda params body scope lp] [] pos) (tGive T TT t) := by
  refine ⟨fun pins s σ H Q I ⟨ht, h⟩ => wpAny_Call_Name_kw (ld_glob I hg hm (PySem.W.callWith_K (h₀ := X.base) I.ok.mod.kin hk ?_ (by rfl) (by rfl)) hdb)⟩
  show wpAny _ _ (spliced ((false, eval (.Lambda params body scope lp) X.env) :: backTo pos (starEach [] X.env))) _ _ s
  refine Calls.spliced_cons (lam_make2 I TB hcode hT hu ht hdef (L.has I.ok) fun f c' pm ctv H1 s1 I1 eN T1 hf hfn hfr hco => Calls.spliced_nil ⟨I1.kIn, ?_⟩)
  obtain ⟨oc, od, kV, doc, pm', an, cdv, ct, osl, rfl, lk, hcd⟩ := F.ex
  have rc : codeAny (model X.prog X.w) X.A (.call (.ref g) ⟨[.ref f], []⟩) (CR CX0 X.stack X.prog X.w H1 s1 Q fun _ _ _ => False) s1 := by
    refine run_ofS (N := N) (ps := [a]) (us := [.ref f]) (vs := [.ref f]) lk hcd S hr I1.env0 (B s1 [.ref f] I1.kIn rfl) (.cons rfl .nil) rfl fun hr1 => ?_
    have hr0 : Room 1 (X.A.deeper (envOfC x (defScope st) s1.heap.objs.size g cdv)) := hr1.mono (by omega)
    have act : ∀ (W : WX) (pn : List (Addr × Obj)) (xe : Value → Shared → Prop) (p1 p2 : Pos), Takes ((cxOf CX0 X.prog X.w X.K X.mg X.base N x (defScope st) g cdv X.A X.stack s1 H1 fun _ _ _ => False).tr pn xe) W →
        PE ((cxOf CX0 X.prog X.w X.K X.mg X.base N x (defScope st) g cdv X.A X.stack s1 H1 fun _ _ _ => False).tr pn xe) (.Call (.Name a p1) [] [] p2) (tAct f c' (X.env.qual ++ "<lambda>") 0 (fun E H' Q' => t E σ H' Q') W) := by
      intro W pn xe p1 p2 tk
      refine ⟨fun pinsZ sZ σZ HZ QZ IZ hz => ?_⟩
      obtain ⟨z1, z2, z3⟩ := hz
      refine wpAny_Call_Name_kw (thn ((pe_var (pos := p1) (i := 0) hN hv hda hca).run pinsZ sZ σZ HZ (fun v H2 => v = .ref f ∧ H2 = HZ) IZ ⟨.ref f, z1, rfl, rfl⟩) fun u s2 ⟨v, H2, I2, r2, q2⟩ => ?_)
      obtain ⟨rfl, rfl⟩ := q2
      obtain rfl : u = Value.ref f := r2
      have stay := I2.base.keep f _ hf hfn hfr (fun z => nomatch (show f ∈ ([] : List Addr) from z))
      refine PySem.W.callWith_F0 ⟨_, _, _, _, stay⟩ ?_
      have run2 : codeAny (model X.prog X.w) (X.A.deeper (envOfC x (defScope st) s1.heap.objs.size g cdv)) (.call (.ref f) ⟨[], []⟩) (CR (L2.CX X.prog X.w) (envOfC x (defScope st) s1.heap.objs.size g cdv :: X.stack) X.prog X.w H2 s2 QZ (WE W σZ)) s2 :=
        lam_run (X := X) (k := k) (tb := t (WE W σZ)) I1 L (hb _ _ _ _ _) I2.env0 I2.nolimit hr1.hd hr1 I2.base stay z2 (hbody _ _ s2 H2 (WE W σZ) f c' hgd (hr1.deeper _)) z3
      refine wpAny_call (codeAny_mono run2 fun r s3 hq => ?_)
      cases r with
      | error e => exact passAt tk σZ pinsZ H2 s2 e s3 I2 hq
      | ok fl =>
        cases fl with
        | ret u => exact I2.after hq
        | next => exact False.elim hq
        | brk => exact False.elim hq
        | cont => exact False.elim hq
    obtain ⟨t', a1, a2⟩ := G cdv f c' s1 H1 Q (fun E H' Q' => t E σ H' Q') act hr0 hco (h H1 eN T1)
    exact ⟨t', a1.nox, a2⟩
  refine wpAny_call (codeAny_mono rc fun r s2 hq => ?_)
  cases r with
  | error e => exact (show False from hq).elim
  | ok fl =>
    cases fl with
    | ret u => exact I1.after hq
    | next => exact False.elim hq
    | brk => exact False.elim hq
    | cont => exact False.elim hq
end
end FR
set_option Elab.async false
set_option linter.all false
set_option maxRecDepth 100000
set_option maxHeartbeats 4000000
/-! own operators with anything on the right; repr of any datum; what a raising call lets out; keys of a dict of the module -/
namespace FR
open PySem PySem.Spec PyProof.Rows L2 TL
section
variable {X : Cx}
theorem tk0 {X : Cx} : Takes X (fun _ _ _ _ => False) := fun u s' h => by
  obtain ⟨_, _, _, _, _, _, _, _, _, _, _, _, _, _, _, _, z⟩ := h
  exact z.elim
/-- nothing is let out -/
theorem px0 : Passes (L2.CX X.prog X.w) X (fun _ _ _ => False) := passes_call tk0 fun _ _ _ _ h => h
/-- let out of the def itself -/
theorem pxE {E : XK} (hs : X.stack = X.env :: X.outer) (hf : X.env.frame = some X.env.locals) (hex : X.ex = []) {E1 : Value → Shared → Prop}
    (hx : X.xe = fun e s' => wpAny (model X.prog X.w) X.A (leaving X.env e) (fun _ s'' => L2.CX X.prog X.w X.outer X.H_0 X.s_0 E e s'') E1 s') : Passes (L2.CX X.prog X.w) X E := passes_call (takes_of hs hf hex hx) fun _ _ _ _ h => h
def known (T : String) (nm : String) : Bool := (fastLookup T (dunder nm)).isSome && (fastLookup T (dunderR nm)).isSome
theorem fills_any {T nm : String} (h : known T nm = true) : ∃ r z, fillsNumberSlot (.type T) nm = pure r ∧ typeLookup (.type T) (dunderR nm) = pure z := by
  unfold known at h
  rw [Bool.and_eq_true] at h
  obtain ⟨a, ha⟩ := Option.isSome_iff_exists.mp h.1
  obtain ⟨b, hb⟩ := Option.isSome_iff_exists.mp h.2
  have e1 : typeLookup (.type T) (dunder nm) = pure a := by rw [typeLookup_type, builtinLookup_eq_fast, ha]
  have e2 : typeLookup (.type T) (dunderR nm) = pure b := by rw [typeLookup_type, builtinLookup_eq_fast, hb]
  unfold fillsNumberSlot
  simp only [e1, e2, pure_bind]
  exact ⟨_, _, rfl, rfl⟩
variable {C g : Addr} {n : Nat} {sp : Sp} {E : XK} {CX : CXT}
/-- x op y, x of the class at C; its def lets something out -/
def rBinX (K : PySem.W.Frag) (C : Addr) (nm : String) (sp : Sp) (E : XK) : R2 := fun x y H Q => ∃ a dx fs, x = .ref a ∧ H a = some (.ins C dx fs) ∧
  ((∃ b dy gs, y = .ref b ∧ H b = some (.ins C dy gs) ∧ sp [x, y] H Q E) ∨ ∃ T, TyX K H y (.type T) ∧ known T nm = true ∧ PySem.W.subIn K (.type T) (.ref C) = some false ∧ sp [x, y] H (fun _ _ => False) E)
theorem op_binX {op : Operator} (hc : PySem.W.selfFirst X.K C = true) (hs : PySem.W.findIn X.K (.ref C) (PySem.dunder op.info.2) = some (some (.ref g))) (hR : PySem.W.findIn X.K (.ref C) (PySem.dunderR op.info.2) = some none) (hf : PySem.W.isFn X.K (.ref g) = true)
    (F : FnR X.prog X.w X.K X.mg X.base CX n g sp) (hr : Room n X.A) (hx : Passes CX X E) : OpR X (binaryOp op) (rBinX X.K C op.info.2 sp E) := by
  intro pins s σ H x y v u Q I rx ry h
  obtain ⟨a, dx, fs, rfl, ha, ⟨b, dy, gs, rfl, hb, q⟩ | ⟨T, ty, kn, sub, q⟩⟩ := h
  · exact op_binI hc hs hf F hr hx pins s σ H _ _ v u Q I rx ry ⟨a, dx, fs, b, dy, gs, rfl, rfl, ha, hb, q⟩
  cases (show v = Value.ref a from rx)
  obtain ⟨od, J⟩ := ins_inst I ha
  obtain ⟨Pk, kx, hP, _⟩ := L2.kit_of I ry ty
  have KI := I.kIn
  have look := kx.ty (model X.prog X.w) s.heap KI hP
  obtain ⟨cd, hcd, hm⟩ := PySem.W.any_some hc
  obtain ⟨rest, hm⟩ : ∃ rest, cd.mro = .ref C :: rest := by
    cases z : cd.mro with
    | nil => rw [z] at hm; cases hm
    | cons c r => rw [z, List.head?_cons] at hm; cases (beq_iff_eq.mp hm); exact ⟨r, rfl⟩
  obtain ⟨r, z0, hfill, hz0⟩ := fills_any kn
  have run : wpAny (model X.prog X.w) X.A (callSpecial? (.ref a) (PySem.dunder op.info.2) [u]) (fun _ _ => False) X.xe s := by
    refine PySem.W.special_fn KI J hs (beq_iff_eq.mp hf) (wpAny_mono (wpAny_call (run_fnR (us := [.ref a, u]) (vs := [.ref a, y]) F hr hx I (.cons rfl (.cons ry .nil)) q)) (fun w s' z => ?_) fun _ _ z => z)
    obtain ⟨_, _, _, _, z⟩ := z
    exact z
  have fin : ∀ {α : Type} (f : Option Value → Sem α) (Q' : α → Shared → Prop), wpAny (model X.prog X.w) X.A (tryMethod (.ref a) (PySem.dunder op.info.2) u >>= f) Q' X.xe s := fun f Q' => by
    refine wpAny_bind ?_
    unfold tryMethod
    exact wpAny_bind (wpAny_mono run (fun _ _ z => z.elim) fun _ _ z => z)
  unfold binaryOp
  refine wpAny_holding (wpAny_bind ?_)
  show wpAny _ _ (binaryOp1 op.info.2 (.ref a) u) _ _ _
  generalize op.info.2 = nm at *
  unfold binaryOp1
  refine wpAny_bind (J.type.here (wpAny_bind (look.here (wpAny_bind ((PySem.W.fills_K KI hcd hm hs).here ?_)))))
  have ne : (Value.ref C == Value.type T) = false := by simp
  simp only [ne, Bool.false_eq_true, if_false]
  rw [hfill]
  refine wpAny_bind (wpAny_pure ?_)
  cases r with
  | false =>
    simp only [Bool.and_false, Bool.false_eq_true, if_false, Bool.false_and, if_true, pure_bind]
    exact fin _ _
  | true =>
    simp only [Bool.and_self, Bool.not_false, if_true]
    refine wpAny_bind ((PySem.W.looks_subIn KI sub).here ?_)
    simp only [Bool.false_eq_true, if_false, Bool.not_false, Bool.and_self, if_true, pure_bind]
    refine wpAny_bind ?_
    unfold numberSlotInPython
    refine wpAny_bind ((PySem.W.looks_findIn KI hs).here ?_)
    refine wpAny_bind ?_
    refine wpAny_pure ?_
    refine wpAny_bind ((PySem.W.looks_findIn KI hR).here ?_)
    refine wpAny_bind (wpAny_pure ?_)
    simp only [Bool.or_false, if_true, Bool.true_or]
    refine wpAny_pure ?_
    simp only [if_true, pure_bind, Bool.not_false]
    rw [hz0]
    exact wpAny_bind (wpAny_pure (fin _ _))
/-- x op y (a comparison), x of the class at C, anything on the right -/
def rCmpX (K : PySem.W.Frag) (C : Addr) (sp : Sp) (E : XK) : R2 := fun x y H Q => ∃ a dx fs t, x = .ref a ∧ H a = some (.ins C dx fs) ∧ TyX K H y t ∧ PySem.W.notFirst K C t = true ∧ sp [x, y] H Q E
theorem op_cmpX {op : CmpOp} (hop : ∀ a b, compareOp op a b = richCompare op a b) (hs : PySem.W.findIn X.K (.ref C) (cmpInfo op).2.1 = some (some (.ref g))) (hf : PySem.W.isFn X.K (.ref g) = true) (F : FnR X.prog X.w X.K X.mg X.base CX n g sp)
    (hr : Room n X.A) (hx : Passes CX X E) : OpR X (compareOp op) (rCmpX X.K C sp E) := by
  intro pins s σ H x y v u Q I rx ry h
  obtain ⟨a, dx, fs, t, rfl, ha, ty, hn, q⟩ := h
  cases (show v = Value.ref a from rx)
  obtain ⟨od, J⟩ := ins_inst I ha
  obtain ⟨Pk, kx, hP, _⟩ := L2.kit_of I ry ty
  obtain ⟨m, hF⟩ := I.fr
  rw [hop]
  refine PySem.W.cmp_K (op := op) (tb := t) hr.units0 hF I.ok.mod.kin J (kx.ty _ _ I.kIn hP) hn hs hf ?_
  refine wpAny_mono (wpAny_call (run_fnR (us := [.ref a, u]) (vs := [.ref a, y]) F hr hx I (.cons rfl (.cons ry .nil)) q)) (fun w s' z => ?_) fun _ _ x => x
  obtain ⟨z', H', I', rz, qz⟩ := z
  exact SlX.cmpback rz ⟨z', H', I', rz, qz⟩
end
/-! ### repr -/
section
variable {X : Cx}
/-- repr of data, of a scalar too -/
def rReprS : List V → Hp → VK → Prop := fun xs H Q => rReprQ xs H Q ∨ (∃ i : Int, xs = [.int i] ∧ i.natAbs.log2 < 1920 ∧ Q (.str (PyData.shown (.int i))) H) ∨ (∃ b : Bool, xs = [.bl b] ∧ Q (.str (PyData.shown (.bool b))) H) ∨ (xs = [.non] ∧ Q (.str (PyData.shown .none)) H) ∨
  ∃ t : Str, xs = [.str t] ∧ (PyData.shown (.str t)).length ≤ sizeLine ∧ Q (.str (PyData.shown (.str t))) H
theorem call_reprX (hgd : X.A.guards = some []) (hu : X.A.units + 65 < cLine) : CallR X (.builtin "repr") rReprS := fun pins s σ H xs us Q I r h => by
  have fin : ∀ (t : Str) (u : Tok), Q (.str t) H → EP X pins σ Q (.str t u) { s with toks := s.toks + 1 } := fun t u q => ⟨.str t, H, I.tok _, ⟨_, rfl⟩, q⟩
  rcases h with h | ⟨i, rfl, hi, q⟩ | ⟨b, rfl, q⟩ | ⟨rfl, q⟩ | ⟨t, rfl, ht, q⟩
  · exact call_reprQ hgd hu pins s σ H xs us Q I r h
  · obtain ⟨u, rfl, k, rfl⟩ := r.one
    exact PySem.P.repr_of_int hi (fin _ _ q)
  · obtain ⟨u, rfl, ru⟩ := r.one
    cases (show u = Value.bool b from ru)
    exact PySem.P.repr_of_bool (fin _ _ (by cases b <;> exact q))
  · obtain ⟨u, rfl, ru⟩ := r.one
    cases (show u = Value.none from ru)
    exact PySem.P.repr_of_none (fin _ _ q)
  · obtain ⟨u, rfl, k, rfl⟩ := r.one
    exact PySem.P.repr_of_str (fin _ _ q) ht
end
/-! ### the keys of a dict of the module -/
theorem keys_miss {z : Str} : ∀ {ks : List Str} {l : List DictEntry}, Vals (ks.map V.str) (l.map (·.key)) → z ∉ ks → l.find? (·.key.isStr z) = none ∧ l.any (·.refKey) = false
  | [], l, h, _ => by
    cases l with
    | nil => exact ⟨rfl, rfl⟩
    | cons e r => cases h
  | k :: ks, l, h, hz => by
    cases l with
    | nil => cases h
    | cons e r =>
      cases h with
      | cons a b =>
        obtain ⟨t, ht⟩ := (show ∃ t, e.key = Value.str k t from a)
        obtain ⟨h1, h2⟩ := keys_miss b fun m => hz (List.mem_cons_of_mem _ m)
        have nk : k ≠ z := fun e => hz (by rw [e]; exact List.mem_cons_self)
        refine ⟨?_, ?_⟩
        · rw [List.find?_cons_of_neg (by rw [ht]; simp [Value.isStr, nk])]
          exact h1
        · rw [List.any_cons, h2]
          simp [DictEntry.refKey, ht]
theorem ns_miss {K : PySem.W.Frag} {d : Addr} {c : Value} {od : Option Addr} {es : Array DictEntry} {ep : Nat} {sl : Array (Option Value)} {ks : List Str} {z : Str} (hl : K.lookup d = some ⟨c, od, .dict es ep, sl⟩) (hv : Vals (ks.map V.str) (es.toList.map (·.key))) (hz : z ∉ ks) : PySem.W.nsIn K d z = some none := by
  obtain ⟨h1, h2⟩ := keys_miss hv hz
  unfold PySem.W.nsIn
  rw [hl]
  simp only [h1, h2, Bool.false_eq_true, if_false]
end FR
set_option Elab.async false
set_option linter.all false
set_option maxRecDepth 100000
/-! «x in texts» for anything; a list of anything beside the empty list -/
namespace FR
open PySem PySem.Spec PyProof.Rows L2 TL PySem.SeqAt
section
variable {X : Cx}
/-- what «v in the texts ws» gives -/
def InT (K : PySem.W.Frag) (H : Hp) (v : V) (ws : List Str) (r : Bool) : Prop := (flatV v = true ∧ inV v (ws.map V.str) = r) ∨ (∃ d, Dp K H v d ∧ SeqAt.shaped d = true ∧ SeqAt.shaped (.list (ws.map .str)) = true ∧ ((ws.map PyData.str).any fun z => PyData.eqv z d) = r) ∨
  ∃ (a : Addr) (kvs : List (Key × V)), v = .ref a ∧ H a = some (.dK kvs) ∧ false = r
def rInT (K : PySem.W.Frag) : R2 := fun x y H Q => ∃ (p : Addr) (ws : List Str) (r : Bool), y = .ref p ∧ SqL K H p (ws.map V.str) ∧ InT K H x ws r ∧ Q (.bl r) H
theorem op_inT (hu : X.A.units + 65 < cLine) : OpR X (compareOp .In) (rInT X.K) := by
  intro pins s σ H x y v u Q I rx ry h
  obtain ⟨p, ws, r, rfl, hp, ⟨hf, rfl⟩ | ⟨d, hd, s1, s2, rfl⟩ | ⟨a, kvs, rfl, ha, rfl⟩, q⟩ := h
  · exact op_in_seq pins s σ H x _ v u Q I rx ry ⟨p, _, rfl, .inl hp, hf, flat_strs ws, q⟩
  · exact op_inD hu pins s σ H x _ v u Q I rx ry ⟨d, _, hd, .lst hp (dpAll_strs ws), s1, s2, q⟩
  · cases (show v = Value.ref a from rx)
    cases (show u = Value.ref p from ry)
    obtain ⟨_, _, vs, kv, o, es, ep, e, hx, hd, _, _, _⟩ := (show ObjOk X.prog X.w H s.heap a (.dK _) from I.hok _ _ ha)
    obtain ⟨its, rv, hl, _⟩ := I.list hp
    refine in_listAt (fun _ => false) hl.isList (fun z hz => ?_) ⟨.bl false, H, I, ?_, q⟩
    · obtain ⟨x, t, rfl⟩ := vals_strs rv z (by simpa using hz)
      exact eqAt_str_dict x t e hx.1 hd (by show X.A.units + 1 < cLine; omega)
    · show Value.bool _ = Value.bool false
      simp
def rNil (K : PySem.W.Frag) (neg : Bool) : R2 := fun x y H Q => ∃ (p q : Addr) (xs : List V), x = .ref p ∧ y = .ref q ∧ SqL K H p xs ∧ SqL K H q [] ∧ Q (.bl (neg != xs.isEmpty)) H
theorem op_eqNil (hu : X.A.units + 65 < cLine) : OpR X (compareOp .Eq) (rNil X.K false) := by
  intro pins s σ H x y v u Q I rx ry h
  obtain ⟨p, q, xs, rfl, rfl, hp, hq, z⟩ := h
  cases (show v = Value.ref p from rx)
  cases (show u = Value.ref q from ry)
  obtain ⟨its, rv, hl, _⟩ := I.list hp
  obtain ⟨its2, rv2, hl2, _⟩ := I.list hq
  cases rv2
  cases rv with
  | nil => exact SeqAt.eq_listAt (e := fun _ => true) hl.isList hl2.isList rfl (by omega) (fun j h1 _ => absurd h1 (by simp)) ⟨.bl true, H, I, rfl, z⟩
  | cons a b => exact SeqAt.eq_list_lengthsAt hl.isList hl2.isList (by simp) (by omega) ⟨.bl false, H, I, rfl, z⟩
theorem op_neNil (hu : X.A.units + 65 < cLine) : OpR X (compareOp .NotEq) (rNil X.K true) := by
  intro pins s σ H x y v u Q I rx ry h
  obtain ⟨p, q, xs, rfl, rfl, hp, hq, z⟩ := h
  cases (show v = Value.ref p from rx)
  cases (show u = Value.ref q from ry)
  obtain ⟨its, rv, hl, _⟩ := I.list hp
  obtain ⟨its2, rv2, hl2, _⟩ := I.list hq
  cases rv2
  cases rv with
  | nil => exact RcNeAt.lists (e := fun _ => true) hl.isList hl2.isList rfl (by omega) (fun j h1 _ => absurd h1 (by simp)) X.prog X.w _ _ ⟨.bl false, H, I, rfl, z⟩
  | cons a b => exact RcNeAt.lists_lengths hl.isList hl2.isList (by simp) (by omega) X.prog X.w _ _ ⟨.bl true, H, I, rfl, z⟩
end
end FR
set_option Elab.async false
set_option linter.all false
set_option maxRecDepth 100000
set_option maxHeartbeats 2000000
/-! the end of a row whose defs make lambdas, for a promise that knows that no repr is under way -/
namespace FR
open PySem PySem.Spec PyProof.Rows L2 TL LamX
/-- the script (where it is not the module's) and the empty tables -/
def hStart (a : Addr) (o : HO) (own : Bool) (ts : List Addr) : Hp := fun b => if b ∈ ts then some (.tbl #[]) else if b = a ∧ own = true then some o else none
section
variable {a : Addr} {o : HO} {own : Bool} {ts : List Addr}
theorem hStart.tab {b : Addr} (h : b ∈ ts) : hStart a o own ts b = some (.tbl #[]) := if_pos h
theorem hStart.script (h : a ∉ ts) (w : own = true) : hStart a o own ts a = some o := (if_neg h).trans (if_pos ⟨rfl, w⟩)
theorem hStart.what {b : Addr} {u : HO} (h : hStart a o own ts b = some u) : (b ∈ ts ∧ u = .tbl #[]) ∨ (b ∉ ts ∧ b = a ∧ own = true ∧ u = o) := by
  unfold hStart at h
  split at h
  · rename_i m
    exact .inl ⟨m, (Option.some.inj h).symm⟩
  · rename_i m
    split at h
    · rename_i e
      exact .inr ⟨m, e.1, e.2, (Option.some.inj h).symm⟩
    · cases h
end
abbrev oTab : Obj := { cls := .none, data := .fields #[] }
theorem law_callTG {P : Program} {w : World} {K : PySem.W.Frag} {mg mb : Str → Option Value} {k : Nat} {fa a : Addr} {cs : List (Addr × Addr)} {sp : Sp} {s1 : Shared} {vs : List Value} {ns : List Int}
    (KX : K.In s1.heap) (hns : s1.heap.Ns mainGlobals mg) (hb : s1.heap.Ns builtinsNs mb) (hbb : ∀ x : Str, x ≠ "__name__" → mb x = bootBuiltins x) (hlim : s1.heap.NoLimit) (hg : s1.gens = #[])
    (hT : ∀ p ∈ cs, s1.heap.get? p.2 = some oTab) (nT : ∀ p ∈ cs, K.lookup p.2 = none) (C : ∀ p ∈ cs, PySem.W.CodeHd s1.heap p.1 p.2)
    (hbm : ∃ (bm : Addr) (ob : Obj), mg "__builtins__" = some (.ref bm) ∧ bm ≠ builtinsNs ∧ s1.heap.get? bm = some ob ∧ ob.cls = .type "module" ∧ ob.dict = some builtinsNs ∧ ob.data = .plain)
    (ha : s1.heap.get? a = some { cls := .type "list", data := .seq vs.toArray }) (hi : IntsAre vs ns) (hl : ns.length ≤ sizeLine) (hr : Room k callerA)
    (F : ∀ base : Heap, K.In base → base.Ns mainGlobals mg → (∀ p ∈ cs, TabB base mg p.1 p.2) → FnG P w K mg base CX0 k fa sp)
    (hsp : ∀ H : Hp, (∀ p ∈ cs, H p.2 = some (.tbl #[])) → SqL K H a (ns.map V.int) → sp [.ref a] H (fun v _ => v = .bl true) fun _ _ _ => False) :
    codeAny (model P w) callerA (.call (.ref fa) ⟨[.ref a], []⟩) (fun r s' => r = .ok (.ret (.bool true)) ∧ OldK s1.heap s'.heap ∧ s'.os = s1.os ∧ AllBare s'.gens) s1 := by
  have rv := vals_ints hi
  have lv := hi.length
  have isT : ∀ b ∈ cs.map (·.2), s1.heap.get? b = some oTab := fun b m => by
    obtain ⟨p, hp, rfl⟩ := List.mem_map.mp m
    exact hT p hp
  have aT : a ∉ cs.map (·.2) := fun m => by
    have := isT a m
    rw [ha] at this
    cases congrArg Obj.data (Option.some.inj this)
  obtain ⟨own, how⟩ : ∃ own, own = (K.lookup a).isNone := ⟨_, rfl⟩
  obtain ⟨H, hH⟩ : ∃ H, hStart a (.frz { cls := .type "list", data := .seq vs.toArray } (.lst (ns.map V.int))) own (cs.map (·.2)) = H := ⟨_, rfl⟩
  have tabs : ∀ b ∈ cs.map (·.2), H b = some (.tbl #[]) := fun b m => by rw [← hH]; exact hStart.tab m
  have what : ∀ {b : Addr} {u : HO}, H b = some u → (b ∈ cs.map (·.2) ∧ u = .tbl #[]) ∨ (b ∉ cs.map (·.2) ∧ b = a ∧ own = true ∧ u = .frz { cls := .type "list", data := .seq vs.toArray } (.lst (ns.map V.int))) := fun {b u} h => hStart.what (by rw [hH]; exact h)
  have hS : SqL K H a (ns.map V.int) := by
    cases hk : K.lookup a with
    | some o =>
      cases ha.symm.trans (KX a o hk)
      exact .inr ⟨_, vs.toArray, _, hk, rfl, rfl, rfl, by rw [List.size_toArray, lv]; exact hl, by simpa using rv⟩
    | none => exact .inl (.inr ⟨_, by rw [← hH]; exact hStart.script aT (by rw [how, hk]; rfl)⟩)
  have hok : HOk P w H s1.heap := fun b u z => by
    rcases what z with ⟨m, rfl⟩ | ⟨_, rfl, _, rfl⟩
    · exact isT b m
    · exact ⟨ha, by rw [List.length_map]; exact hl, vs, _, rv, ha⟩
  have apart : ∀ {b : Addr} {ob : Obj}, s1.heap.get? b = some ob → (∀ l n, ob.data ≠ .seq l n) → ob.data ≠ .fields #[] → H b = none := fun {b ob} e n1 n2 => by
    cases q : H b with
    | none => rfl
    | some u =>
      rcases what q with ⟨m, _⟩ | ⟨_, rfl, _, _⟩
      · cases (isT b m).symm.trans e
        exact (n2 rfl).elim
      · cases ha.symm.trans e
        exact (n1 _ _ rfl).elim
  have isD : ∀ {b : Addr} {ob : Obj} {es : Array DictEntry} {ep : Nat}, s1.heap.get? b = some ob → ob.data = .dict es ep → H b = none := fun e d => apart e (by rw [d]; exact fun _ _ z => nomatch z) (by rw [d]; exact fun z => nomatch z)
  have nsH : ∀ {b : Addr} {m : Str → Option Value}, s1.heap.Ns b m → (hidT s1.heap H).Ns b m := fun ⟨o, es, ep, e, d, r⟩ => ⟨o, es, ep, hidT_get e (isD e d), d, r⟩
  have KH : K.In (hidT s1.heap H) := fun b o e => hidT_get (KX b o e) (by
    cases q : H b with
    | none => rfl
    | some u =>
      rcases what q with ⟨m, _⟩ | ⟨_, rfl, w0, _⟩
      · obtain ⟨p, hp, rfl⟩ := List.mem_map.mp m
        cases (nT p hp).symm.trans e
      · rw [how, e] at w0
        cases w0)
  have md : Mod K mg (hidT s1.heap H) := ⟨KH, nsH hns, ⟨mb, nsH hb, hbb⟩, hlim.elim fun mc hc => ⟨mc, nsH hc.1, hc.2⟩⟩
  have en : Env0 P w K mg (hidT s1.heap H) callerA [] s1 H := ⟨rfl, md, fun _ _ e => of_hidT e, Nat.le_of_eq (hidT_size ..), True.intro, fun _ hb => (List.not_mem_nil hb).elim, hok, AllBare.of_eq hg⟩
  have tb : ∀ p ∈ cs, TabB (hidT s1.heap H) mg p.1 p.2 := fun p hp => by
    refine ⟨?_, ?_, fun z => ?_⟩
    · obtain ⟨oc, us, file, tf, flags, tg, inF, text, tt, e1, r1, r2, r3, r⟩ := C p hp
      refine ⟨oc, us, file, tf, flags, tg, inF, text, tt, hidT_get e1 (apart e1 (by rw [r2]; exact fun _ _ z => nomatch z) fun z => ?_), r1, r2, r3, r⟩
      rw [r2] at z
      cases z
      simp at r3
    · obtain ⟨bm, ob, b1, b2, b3, b4, b5, b6⟩ := hbm
      refine ⟨bm, ob, b1, b2, fun z => ?_, fun z => ?_, hidT_get b3 (apart b3 (by rw [b6]; exact fun _ _ z => nomatch z) (by rw [b6]; exact fun z => nomatch z)), b4, b5, b6⟩
      · obtain ⟨og, es, ep, e, d, _⟩ := hns
        rw [z] at b3
        cases e.symm.trans b3
        rw [b6] at d
        cases d
      · rw [z] at b3
        cases (hT p hp).symm.trans b3
        cases b6
    · obtain ⟨og, es, ep, e, d, _⟩ := hns
      rw [z] at e
      cases (hT p hp).symm.trans e
      cases d
  refine codeAny_mono (F _ KH (nsH hns) tb callerA [] s1 H [.ref a] [.ref a] _ _ rfl hr en (.cons rfl .nil) (hsp H (fun p hp => tabs _ (List.mem_map.mpr ⟨p, hp, rfl⟩)) hS)) fun r s' h => ?_
  match r, h with
  | .error e, h => exact h.elim
  | .ok .next, h => exact h.elim
  | .ok .brk, h => exact h.elim
  | .ok .cont, h => exact h.elim
  | .ok (.ret u), h =>
    obtain ⟨v, H', os, bare, un, hok', rr, q⟩ := h
    cases (show v = .bl true from q)
    cases (show u = Value.bool true from rr)
    have same : ∀ b ob, b ∉ cs.map (·.2) → s1.heap.get? b = some ob → s'.heap.get? b = some ob := fun b ob nb e => by
      cases z : H b with
      | none => exact un.keep b ob e z (fun y => (List.not_mem_nil y).elim) List.not_mem_nil
      | some u =>
        rcases what z with ⟨m, _⟩ | ⟨_, rfl, _, rfl⟩
        · exact (nb m).elim
        · cases ha.symm.trans e
          exact (hok' b _ (un.frzs b _ _ z)).1
    have more : ∀ p ∈ cs, ∃ ms : Array Value, s'.heap.get? p.2 = some { cls := .none, data := .fields ms } := fun p hp => by
      obtain ⟨ms, z⟩ := un.tbls p.2 #[] (tabs _ (List.mem_map.mpr ⟨p, hp, rfl⟩))
      exact ⟨_, hok' p.2 _ z⟩
    refine ⟨rfl, ⟨fun b ob e => ?_, fun b ob e => ?_⟩, os, bare⟩
    · by_cases m : b ∈ cs.map (·.2)
      · obtain ⟨p, hp, rfl⟩ := List.mem_map.mp m
        obtain ⟨ms, z⟩ := more p hp
        cases (hT p hp).symm.trans e
        exact .inr (.inl ⟨((C p hp).tab (hT p hp)).isCodeTable, rfl, #[], ms, rfl, by rw [Array.empty_append]; exact z⟩)
      · exact .inl (same b ob m e)
    · by_cases m : b ∈ cs.map (·.2)
      · obtain ⟨p, hp, rfl⟩ := List.mem_map.mp m
        obtain ⟨ms, z⟩ := more p hp
        exact ⟨_, z⟩
      · exact ⟨ob, same b ob m e⟩
/-- what is known of the law's promise at the heap h -/
def LawG (l : PySem.W.OpenLaw) (w : World) (K : PySem.W.Frag) (k n : Nat) (mg : Str → Option Value) (fa : Addr) (h : Heap) : Prop :=
  ∃ (cs : List (Addr × Addr)) (sp : Sp), (∀ p ∈ cs, h.get? p.2 = some oTab) ∧ (∀ p ∈ cs, K.lookup p.2 = none) ∧ (∀ p ∈ cs, PySem.W.CodeHd h p.1 p.2) ∧
    (∀ (H : Hp) (a : Addr) (ns : List Int), ns.length ≤ n → (∀ p ∈ cs, H p.2 = some (.tbl #[])) → SqL K H a (ns.map V.int) → sp [.ref a] H (fun v _ => v = .bl true) fun _ _ _ => False) ∧
    ∀ base : Heap, K.In base → base.Ns mainGlobals mg → (∀ p ∈ cs, TabB base mg p.1 p.2) → FnG l.prog w K mg base CX0 k fa sp
theorem walk_ofTG {l : PySem.W.OpenLaw} {n k : Nat} {q : Program} {loose : List Str} {XP : (Str → Option Value) → Heap → Prop} {YP : World → Heap → Prop} {d : DefRec} {K : Params → PySem.W.Frag}
    (hn : l.most = some n) (hn2 : n ≤ sizeLine) (hdf : d.params.defaults = []) (hr : Room k callerA) (hY : ∀ (w : World) (h : Heap), YP w h → (K w.params).In h)
    (F : ∀ (w : World) (mg : Str → Option Value) (fa : Addr) (h : Heap), YP w h → (K w.params).In h → h.Ns mainGlobals mg → mg d.name = some (.ref fa) → LawG l w (K w.params) k n mg fa h) :
    PySem.W.WalkO q loose XP YP l.row.toRowW d [] (fun f vs => PySem.call f vs) := by
  refine Att.attach_call hn hdf fun w s0 s1 mg mb fa o pm cd doc a vs ns G Y ho hd hcd hmg hobj hints hlen hg => ?_
  have KX := hY w _ Y
  obtain ⟨cs, sp, hT, nT, C, hsp, hF⟩ := F w mg fa _ Y KX G.T.g hmg
  exact law_callTG KX G.T.g G.T.b G.T.builtins G.T.nolimit hg hT nT C G.T.bmain hobj hints (Nat.le_trans hlen hn2) hr hF fun H hH hS => hsp H a ns hlen hH hS
/-- a def whose code object is known: it makes lambdas -/
structure FunL (K : PySem.W.Frag) (x qual : Str) (st : Stmt) (f : Addr) (c : Addr) : Prop where
  ex : ∃ (oc : Value) (od : Option Addr) (kV doc pm : Value) (an : Option Addr) (ct : Value) (osl : Array (Option Value)), K.lookup f = some ⟨oc, od, .func (PySem.W.fnOf x qual (defArgs st) (defBody st) (defScope st) .none kV doc pm an (.ref c) ct), osl⟩
  cd : PySem.W.codeIn K (.ref c) qual = true
theorem okGC0 {P : Program} {w : World} {K : PySem.W.Frag} {mg : Str → Option Value} {base : Heap} {k : Nat} {f c : Addr} {sp : Sp} {x qual : Str} {st : Stmt} {fd : FuncData} {N ps : List Str} (L : FunL K x qual st f c) (F : L2.Fun K x qual st f fd) (S : FnScope N ps (defScope st)) (B : Binds K fd ps []) (hlen : ∀ vs H Q E, sp vs H Q E → vs.length = ps.length)
    (hbody : ∀ (A : Around) (outer : List Env) (s : Shared) (H : Hp) (vs : List V) (Q : VK) (E : XK), A.guards = some [] → Room k (A.deeper (envOfC qual (defScope st) s.heap.objs.size f (.ref c))) → sp vs H Q E →
      ∃ t, PSs (cxOf CX0 P w K mg base N qual (defScope st) f (.ref c) A outer s H E).nox (defBody st) t ∧ t { nx := fun _ H' => Q .non H', rt := Q } (start N vs) H) : FnG P w K mg base CX0 (k + 1) f sp := by
  intro A outer s H us vs Q E hg hr e0 r hsp
  obtain ⟨oc, od, kV, doc, pm, an, cdv, ct, osl, rfl, lk, hcd⟩ := F.ex
  obtain ⟨oc', od', kV', doc', pm', an', ct', osl', lk'⟩ := L.ex
  cases lk.symm.trans lk'
  have hv : vs.length = ps.length := hlen _ _ _ _ hsp
  have hu : us.length = ps.length := by rw [← r.length]; exact hv
  have KI : K.In s.heap := e0.mod.kin.keeps fun b o e => (e0.bs b o e).1
  have b0 := B s us KI (by rw [List.append_nil]; exact hu)
  rw [List.append_nil] at b0
  refine StX.run_bnd lk hcd S hr e0 (G := fun xs H2 => xs = vs ∧ H2 = H) (fun A' Ex Q' h => ?_) fun s2 H2 xs ⟨ex, eH⟩ hr' => ?_
  · exact b0 _ _ _ _ (h s H vs us e0 Un.refl rfl (fun _ _ z => z) r hv ⟨rfl, rfl⟩)
  · subst ex eH
    obtain ⟨t, a, b⟩ := hbody A outer s2 _ _ Q E hg hr' hsp
    exact ⟨t, a.nox, b⟩
end FR
set_option Elab.async false
set_option linter.all false
set_option maxRecDepth 100000
/-! a classmethod without arguments -/
namespace ClX
open PySem PySem.Spec PyProof.Rows L2
section
variable {X : Cx} {C g p : Addr} {mc : Value} {m : Str} {o : Expr} {ta : TE} {CX : CXT} {k : Nat} {sp : Sp} {E : XK} {apos pos : Pos}
theorem pe_cmeth0 {pl : Sem Bool} (he : PE X o ta) (r : CRead X.K C mc) (c : CMet X.K C mc m p g) (F : FnR X.prog X.w X.K X.mg X.base CX k g sp) (hr : Room k X.A) (hx : Passes CX X E)
    (ht : eval (.Call (.Attribute o m apos) [] [] pos) X.env = (do
      let ov ← eval o X.env
      standAt apos.atName
      let (f, first) ← holding [ov] (getMethod ov m pl)
      callWith pos f first (backTo pos (starEach [] X.env)) (backToKw pos (keywordEach [] X.env))) := by rfl) :
    PE X (.Call (.Attribute o m apos) [] [] pos) (tCMeth C sp E ta tNil) := by
  refine ⟨fun pins s σ H Q I h => ?_⟩
  refine PySem.W.methodCall_KW (pl := pl) (thn (he.run pins s σ H _ I h) fun u s1 ⟨x, H1, I1, rx, ex, q⟩ => ?_) ht
  subst ex
  obtain rfl : u = Value.ref C := rx
  refine getmethcm_ok I1 r c fun s2 I2 => ?_
  exact PySem.W.callWith_M0 (first := []) ⟨pin_at I2, I2.kIn⟩ c.fi (run_cm F hr hx I2 .nil q)
end
end ClX
set_option Elab.async false
set_option linter.all false
set_option maxRecDepth 100000
set_option maxHeartbeats 1000000
/-! zip of a tuple and a list (any two iterators that are asked by nextOf) -/
namespace FR
open PySem
open PySem.Sem (wp)
/-- an iterator at it over what stands at l, asked by nextOf -/
structure Nx (prog : Program) (w : World) (it l : Addr) (xs : Array Value) (St : Nat → Heap → Prop) : Prop where
  one : ∀ (A : Around) (E Q : Value → Shared → Prop) (s : Shared) (k : Nat) (x : Value), St k s.heap → xs[k]? = some x → (∀ g, St (k + 1) g → Heap.SameBut it s.heap g → Q x { s with heap := g }) → wpAny (model prog w) A (Builtin.SmallTypes.nextOf (.ref it)) Q E s
  fin : ∀ (A : Around) (E Q : Value → Shared → Prop) (s : Shared) (k : Nat), A.handled = none → St k s.heap → xs[k]? = none → (∀ g e, Heap.ExtBut it s.heap g → (∃ o, g.get? e = some o ∧ o.cls = .type "StopIteration") → E (.ref e) { s with heap := g }) →
    wpAny (model prog w) A (Builtin.SmallTypes.nextOf (.ref it)) Q E s
  frame : ∀ k h g b, St k h → Heap.ExtBut b h g → it ≠ b → l ≠ b → St k g
section
variable {prog : Program} {w : World}
theorem nx_tup {it l : Addr} {xs : Array Value} (ne : l ≠ it) : Nx prog w it l xs (fun k h => h.IsTupleIter it l k ∧ h.IsTuple l xs) where
  one := fun A E Q s k x st e q => RZ.nextOf_tuple_item st.1 st.2 e fun g z sb => q g ⟨z, st.2.extBut sb.extBut ne⟩ sb
  fin := fun A E Q s k hh st e q => RZ.nextOf_tuple_end hh st.1 st.2 e q
  frame := fun k h g b st x n1 n2 => ⟨st.1.extBut x n1, st.2.extBut x n2⟩
theorem nx_lst {it l : Addr} {xs : Array Value} (ne : l ≠ it) : Nx prog w it l xs (fun k h => h.IsListIter it l k ∧ h.IsList l xs) where
  one := fun A E Q s k x st e q => wpAny_nextOf_list_item st.1 st.2 e fun g z sb => q g ⟨z, st.2.extBut sb.extBut ne⟩ sb
  fin := fun A E Q s k hh st e q => wpAny_nextOf_list_end hh st.1 st.2 e q
  frame := fun k h g b st x n1 n2 => ⟨st.1.extBut x n1, st.2.extBut x n2⟩
/-- a zip that stands between two turns -/
structure ZAt (h : Heap) (z TI TO i1 i2 : Addr) (f : Value) (a b : Value) : Prop where
  zp : IsZip h z TI TO f
  ti : IsPair h TI (.ref i1) (.ref i2)
  to : IsPair h TO a b
variable {A : Around} {E : Value → Shared → Prop} {s : Shared} {z TI TO i1 i2 l1 l2 : Addr} {k1 k2 : Nat} {xs ys : Array Value} {x y a b : Value} {S1 S2 : Nat → Heap → Prop}
theorem zg_item {Q : Value → Shared → Prop} (D : ZipApart z TI TO i1 i2 l1 l2) (N1 : Nx prog w i1 l1 xs S1) (N2 : Nx prog w i2 l2 ys S2) (Z : ZAt s.heap z TI TO i1 i2 .none a b)
    (h1 : S1 k1 s.heap) (h2 : S2 k2 s.heap) (ex : xs[k1]? = some x) (ey : ys[k2]? = some y) (big : z < s.heap.objs.size ∧ l1 < s.heap.objs.size ∧ l2 < s.heap.objs.size ∧ i1 < s.heap.objs.size ∧ i2 < s.heap.objs.size)
    (q : ∀ g, ZAt g z TI TO i1 i2 (rawInt s.heap.objs.size) x y → S1 (k1 + 1) g → S2 (k2 + 1) g → IsPair g s.heap.objs.size x y →
      (∀ c o, c ≠ z → c ≠ TO → c ≠ i1 → c ≠ i2 → s.heap.get? c = some o → g.get? c = some o) → Q (.ref s.heap.objs.size) { s with heap := g }) :
    wpAny (model prog w) A (Builtin.«zip.__next__» ⟨[.ref z], []⟩) (fun fin s' => ∃ v, fin = .done (.ret v) ∧ Q v s') E s := by
  obtain ⟨zp, ti, to⟩ := Z
  obtain ⟨bz, bl1, bl2, bi1, bi2⟩ := big
  show wpAny _ _ (field (.ref z) 2 >>= _) _ _ _; refine wpAny_bind (wpAny_field zp rfl (x := .bool false) rfl ?_)
  show wpAny _ _ (field (.ref z) 3 >>= _) _ _ _; refine wpAny_bind (wpAny_field zp rfl (x := .ref TI) rfl ?_)
  refine wpAny_bind (wpAny_seqItems ti rfl ?_)
  show wpAny _ _ (Builtin.SmallTypes.ownedTupleIsFree (.ref z) >>= _) _ _ _; refine wpAny_bind ?_
  unfold Builtin.SmallTypes.ownedTupleIsFree; refine wpAny_bind (wpAny_field zp rfl (x := .none) rfl (wpAny_pure ?_))
  simp only [if_true]; refine wpAny_bind (wpAny_rule ?_)
  refine wpAny_bind (wpAny_field zp rfl (x := .ref TO) rfl ?_); refine wpAny_bind (wpAny_setField_rec zp (by simp) fun g1 z1 s1 => ?_)
  have z1 : IsZip g1 z TI TO .ellipsis := z1
  refine wpAny_bind ?_; simp only [List.zipIdx_cons, List.zipIdx_nil, List.forIn_cons, List.forIn_nil]
  refine wpAny_bind (wpAny_bind (wpAny_onRaise ?_)); show wpAny _ _ (Builtin.SmallTypes.nextOf (.ref i1) >>= _) _ _ _
  refine wpAny_bind (N1.one _ _ _ _ k1 x (N1.frame _ _ _ _ h1 s1.extBut D.i1z D.l1z) ex fun g2 t1 s2 => wpAny_pure ?_)
  have to2 : IsPair g2 TO a b := s2.extBut _ _ D.TOi1 (s1.extBut _ _ D.TOz to)
  have r2 := N2.frame _ _ _ _ (N2.frame _ _ _ _ h2 s1.extBut D.i2z D.l2z) s2.extBut D.i12.symm D.l2i1
  refine wpAny_bind (wpAny_seqItems to2 rfl ?_); refine wpAny_bind (wpAny_updateSeq_pair to2 fun g3 to3 s3 => ?_)
  have to3 : IsPair g3 TO x b := to3
  refine wpAny_bind (wpAny_letGo (wpAny_pure ?_)); refine wpAny_bind (wpAny_bind (wpAny_onRaise ?_))
  show wpAny _ _ (Builtin.SmallTypes.nextOf (.ref i2) >>= _) _ _ _
  refine wpAny_bind (N2.one _ _ _ _ k2 y (N2.frame _ _ _ _ r2 s3.extBut D.TOi2.symm D.l2TO) ey fun g4 t2 s4 => wpAny_pure ?_)
  have to4 : IsPair g4 TO x b := s4.extBut _ _ D.TOi2 to3
  refine wpAny_bind (wpAny_seqItems to4 rfl ?_); refine wpAny_bind (wpAny_updateSeq_pair to4 fun g5 to5 s5 => ?_)
  have to5 : IsPair g5 TO x y := to5
  refine wpAny_bind (wpAny_letGo (wpAny_pure (wpAny_pure ?_))); refine wpAny_bind (wpAny_seqItems to5 rfl ?_); refine wpAny_bind (wpAny_newTuple ?_)
  have sz : g5.objs.size = s.heap.objs.size := by rw [s5.1, s4.1, s3.1, s2.1, s1.1]
  have z5 : IsZip g5 z TI TO .ellipsis := s5.extBut _ _ D.TOz.symm (s4.extBut _ _ D.i2z.symm (s3.extBut _ _ D.TOz.symm (s2.extBut _ _ D.i1z.symm z1)))
  have k5 : ∀ c o, c ≠ z → c ≠ TO → c ≠ i1 → c ≠ i2 → s.heap.get? c = some o → g5.get? c = some o := fun c o n1 n2 n3 n4 e =>
    s5.extBut _ _ n2 (s4.extBut _ _ n4 (s3.extBut _ _ n2 (s2.extBut _ _ n3 (s1.extBut _ _ n1 e))))
  have u1 : S1 (k1 + 1) g5 := N1.frame _ _ _ _ (N1.frame _ _ _ _ (N1.frame _ _ _ _ t1 s3.extBut D.TOi1.symm D.l1TO) s4.extBut D.i12 D.l1i2) s5.extBut D.TOi1.symm D.l1TO
  have u2 : S2 (k2 + 1) g5 := N2.frame _ _ _ _ t2 s5.extBut D.TOi2.symm D.l2TO
  show wpAny _ _ (Builtin.SmallTypes.ownedTupleHandOut (.ref z) (.ref g5.objs.size) >>= _) _ _ _
  refine wpAny_bind ?_; unfold Builtin.SmallTypes.ownedTupleHandOut
  have z6 : IsZip (g5.push { cls := .type "tuple", data := .seq #[x, y] }) z TI TO .ellipsis := Heap.get?_push_of_some _ z5
  refine wpAny_bind (wpAny_setField_rec z6 (by simp) fun g7 z7 s7 => ?_)
  have z7 : IsZip g7 z TI TO (rawInt g5.objs.size) := z7
  refine wpAny_setField_rec z7 (by simp) fun g8 z8 s8 => ?_
  have z8 : IsZip g8 z TI TO (rawInt g5.objs.size) := z8
  have up : ∀ c o, c ≠ z → g5.get? c = some o → g8.get? c = some o := fun c o n e => s8.extBut _ _ n (s7.extBut _ _ n (Heap.get?_push_of_some _ e))
  have zz : g5.objs.size ≠ z := Nat.ne_of_gt (by rw [sz]; exact bz)
  have m1 : i1 ≠ g5.objs.size := Nat.ne_of_lt (by rw [sz]; exact bi1)
  have m2 : i2 ≠ g5.objs.size := Nat.ne_of_lt (by rw [sz]; exact bi2)
  have m3 : l1 ≠ g5.objs.size := Nat.ne_of_lt (by rw [sz]; exact bl1)
  have m4 : l2 ≠ g5.objs.size := Nat.ne_of_lt (by rw [sz]; exact bl2)
  have hT : IsPair g8 g5.objs.size x y := s8.extBut _ _ zz (s7.extBut _ _ zz (Heap.get?_push_size _ rfl))
  have p6 : Heap.ExtBut g5.objs.size g5 (g5.push { cls := .type "tuple", data := .seq #[x, y] }) := fun c o _ e => Heap.get?_push_of_some _ e
  have fr1 : S1 (k1 + 1) g8 := N1.frame _ _ _ _ (N1.frame _ _ _ _ (N1.frame _ _ _ _ u1 p6 m1 m3) s7.extBut D.i1z D.l1z) s8.extBut D.i1z D.l1z
  have fr2 : S2 (k2 + 1) g8 := N2.frame _ _ _ _ (N2.frame _ _ _ _ (N2.frame _ _ _ _ u2 p6 m2 m4) s7.extBut D.i2z D.l2z) s8.extBut D.i2z D.l2z
  rw [sz] at z8 hT
  refine wpAny_pure ⟨_, rfl, ?_⟩
  show Q (.ref g5.objs.size) _
  rw [sz]
  have ti5 : IsPair g5 TI (.ref i1) (.ref i2) := k5 _ _ D.TIz D.TITO D.TIi1 D.TIi2 ti
  exact q g8 ⟨z8, up _ _ D.TIz ti5, up _ _ D.TOz to5⟩ fr1 fr2 hT fun c o n1 n2 n3 n4 e => up c o n1 (k5 c o n1 n2 n3 n4 e)
theorem zg_end {Q : Fin → Shared → Prop} (hh : A.handled = none) (D : ZipApart z TI TO i1 i2 l1 l2) (N1 : Nx prog w i1 l1 xs S1) (N2 : Nx prog w i2 l2 ys S2) (Z : ZAt s.heap z TI TO i1 i2 .none a b)
    (h1 : S1 k1 s.heap) (h2 : S2 k2 s.heap) (en : xs[k1]? = none ∨ ys[k2]? = none)
    (q : ∀ g e, (∀ c o, c ≠ z → c ≠ TO → c ≠ i1 → c ≠ i2 → s.heap.get? c = some o → g.get? c = some o) → (∃ o, g.get? e = some o ∧ o.cls = .type "StopIteration") → E (.ref e) { s with heap := g }) :
    wpAny (model prog w) A (Builtin.«zip.__next__» ⟨[.ref z], []⟩) Q E s := by
  obtain ⟨zp, ti, to⟩ := Z
  show wpAny _ _ (field (.ref z) 2 >>= _) _ _ _; refine wpAny_bind (wpAny_field zp rfl (x := .bool false) rfl ?_)
  show wpAny _ _ (field (.ref z) 3 >>= _) _ _ _; refine wpAny_bind (wpAny_field zp rfl (x := .ref TI) rfl ?_)
  refine wpAny_bind (wpAny_seqItems ti rfl ?_)
  show wpAny _ _ (Builtin.SmallTypes.ownedTupleIsFree (.ref z) >>= _) _ _ _; refine wpAny_bind ?_
  unfold Builtin.SmallTypes.ownedTupleIsFree; refine wpAny_bind (wpAny_field zp rfl (x := .none) rfl (wpAny_pure ?_))
  simp only [if_true]; refine wpAny_bind (wpAny_rule ?_)
  refine wpAny_bind (wpAny_field zp rfl (x := .ref TO) rfl ?_); refine wpAny_bind (wpAny_setField_rec zp (by simp) fun g1 z1 s1 => ?_)
  have z1 : IsZip g1 z TI TO .ellipsis := z1
  refine wpAny_bind ?_; simp only [List.zipIdx_cons, List.zipIdx_nil, List.forIn_cons, List.forIn_nil]
  refine wpAny_bind (wpAny_bind (wpAny_onRaise ?_)); show wpAny _ _ (Builtin.SmallTypes.nextOf (.ref i1) >>= _) _ _ _
  have f1 := N1.frame _ _ _ _ h1 s1.extBut D.i1z D.l1z
  cases ex : xs[k1]? with
  | none =>
    refine wpAny_bind (N1.fin _ _ _ _ k1 hh f1 ex fun g2 e s2 he => ?_)
    obtain ⟨oe, e1, e2⟩ := he
    have z2 : IsZip g2 z TI TO .ellipsis := s2 _ _ D.i1z.symm z1
    have ne : e ≠ z := fun h => by rw [h, z2] at e1; cases e1; simp at e2
    refine wpAny_setField_rec z2 (by simp) fun g3 _ s3 => q g3 e (fun c o n1 _ n3 _ h => s3.extBut _ _ n1 (s2 _ _ n3 (s1.extBut _ _ n1 h))) ⟨oe, s3.extBut _ _ ne e1, e2⟩
  | some x =>
    have ey : ys[k2]? = none := by rcases en with h | h; rw [ex] at h; cases h; exact h
    refine wpAny_bind (N1.one _ _ _ _ k1 x f1 ex fun g2 t1 s2 => wpAny_pure ?_)
    have to2 : IsPair g2 TO a b := s2.extBut _ _ D.TOi1 (s1.extBut _ _ D.TOz to)
    have r2 := N2.frame _ _ _ _ (N2.frame _ _ _ _ h2 s1.extBut D.i2z D.l2z) s2.extBut D.i12.symm D.l2i1
    refine wpAny_bind (wpAny_seqItems to2 rfl ?_); refine wpAny_bind (wpAny_updateSeq_pair to2 fun g3 to3 s3 => ?_)
    refine wpAny_bind (wpAny_letGo (wpAny_pure ?_)); refine wpAny_bind (wpAny_bind (wpAny_onRaise ?_))
    show wpAny _ _ (Builtin.SmallTypes.nextOf (.ref i2) >>= _) _ _ _
    refine wpAny_bind (N2.fin _ _ _ _ k2 hh (N2.frame _ _ _ _ r2 s3.extBut D.TOi2.symm D.l2TO) ey fun g4 e s4 he => ?_)
    obtain ⟨oe, e1, e2⟩ := he
    have z4 : IsZip g4 z TI TO .ellipsis := s4 _ _ D.i2z.symm (s3.extBut _ _ D.TOz.symm (s2.extBut _ _ D.i1z.symm z1))
    have ne : e ≠ z := fun h => by rw [h, z4] at e1; cases e1; simp at e2
    refine wpAny_setField_rec z4 (by simp) fun g5 _ s5 => q g5 e (fun c o n1 n2 n3 n4 h => s5.extBut _ _ n1 (s4 _ _ n4 (s3.extBut _ _ n2 (s2.extBut _ _ n3 (s1.extBut _ _ n1 h))))) ⟨oe, s5.extBut _ _ ne e1, e2⟩
theorem zg_nx {Q : Option Value → Shared → Prop} (D : ZipApart z TI TO i1 i2 l1 l2) (N1 : Nx prog w i1 l1 xs S1) (N2 : Nx prog w i2 l2 ys S2) (Z : ZAt s.heap z TI TO i1 i2 .none a b)
    (h1 : S1 k1 s.heap) (h2 : S2 k2 s.heap) (ex : xs[k1]? = some x) (ey : ys[k2]? = some y) (big : z < s.heap.objs.size ∧ l1 < s.heap.objs.size ∧ l2 < s.heap.objs.size ∧ i1 < s.heap.objs.size ∧ i2 < s.heap.objs.size)
    (q : ∀ g, ZAt g z TI TO i1 i2 (rawInt s.heap.objs.size) x y → S1 (k1 + 1) g → S2 (k2 + 1) g → IsPair g s.heap.objs.size x y →
      (∀ c o, c ≠ z → c ≠ TO → c ≠ i1 → c ≠ i2 → s.heap.get? c = some o → g.get? c = some o) → Q (some (.ref s.heap.objs.size)) { s with heap := g }) :
    wpAny (model prog w) A (pyNext (.ref z)) Q E s := by
  have hT : s.TypeIs (.ref z) "zip" := ⟨_, Z.zp, rfl⟩
  unfold pyNext
  refine wpAny_bind (wpAny_attempt (wpAny_callSpecial?_slot (name := Str.ofString "__next__") hT F.slot_zip_next ?_))
  exact wpAny_call_entry F.slot_zip_next hT F.entry_zip_next (zg_item D N1 N2 Z h1 h2 ex ey big fun g c1 c2 c3 c4 c5 => wpAny_pure (q g c1 c2 c3 c4 c5)) (F.args_zip_next_1 _)
theorem zg_stop {Q : Option Value → Shared → Prop} (hh : A.handled = none) (D : ZipApart z TI TO i1 i2 l1 l2) (N1 : Nx prog w i1 l1 xs S1) (N2 : Nx prog w i2 l2 ys S2) (Z : ZAt s.heap z TI TO i1 i2 .none a b)
    (h1 : S1 k1 s.heap) (h2 : S2 k2 s.heap) (en : xs[k1]? = none ∨ ys[k2]? = none)
    (q : ∀ g, (∀ c o, c ≠ z → c ≠ TO → c ≠ i1 → c ≠ i2 → s.heap.get? c = some o → g.get? c = some o) → Q none { s with heap := g }) : wpAny (model prog w) A (pyNext (.ref z)) Q E s := by
  have hT : s.TypeIs (.ref z) "zip" := ⟨_, Z.zp, rfl⟩
  unfold pyNext
  refine wpAny_bind (wpAny_attempt (wpAny_callSpecial?_slot (name := Str.ofString "__next__") hT F.slot_zip_next ?_))
  refine wpAny_call_entry F.slot_zip_next hT F.entry_zip_next (zg_end hh D N1 N2 Z h1 h2 en fun g e hk he => ?_) (F.args_zip_next_1 _)
  obtain ⟨o, ho, hc⟩ := he
  refine wpAny_bind (wpAny_isInstance (T := "StopIteration") (b := true) ⟨o, ho, hc⟩ isSubtype_stop ?_)
  exact wpAny_pure (q _ hk)
end
abbrev zm1 (h : Heap) (a : Addr) : Heap := h.push { cls := .type "tuple_iterator", data := .fields #[.ref a, .int 0 0] }
abbrev zm2 (h : Heap) (a b : Addr) : Heap := (zm1 h a).push { cls := .type "list_iterator", data := .fields #[.ref b, .int 0 0] }
abbrev zm3 (h : Heap) (a b : Addr) : Heap := (zm2 h a b).push { cls := .type "tuple", data := .seq #[.ref h.objs.size, .ref (zm1 h a).objs.size] }
abbrev zm4 (h : Heap) (a b : Addr) : Heap := (zm3 h a b).push { cls := .type "tuple", data := .seq #[.none, .none] }
abbrev zm5 (h : Heap) (a b : Addr) : Heap := (zm4 h a b).push { cls := .type "zip", data := .fields #[.none, .bool false, .bool false, .ref (zm2 h a b).objs.size, .ref (zm3 h a b).objs.size] }
theorem meets_zm (a b : Addr) (xs ys : Array Value) :
    Meets (Builtin.«zip.__new__» ⟨[.type "zip", .ref a, .ref b], []⟩) (fun _ R s => s.heap.IsTuple a xs ∧ s.heap.IsList b ys ∧ R (.ok (.ret (.ref (zm4 s.heap a b).objs.size))) { s with heap := zm5 s.heap a b }) :=
  .of_wp fun prog w A R s h => by
    obtain ⟨hp, g, d, tk, os⟩ := s; obtain ⟨m1, m2, h⟩ := h
    have hsub := sub_zip
    have hA : Heap.IsTuple (Shared.heap ⟨hp, g, d, tk, os⟩) a xs := m1
    have hB : Heap.IsList (Shared.heap ⟨hp.push { cls := .type "tuple_iterator", data := .fields #[.ref a, .int 0 0] }, g, d, tk, os⟩) b ys := Heap.IsList.push m2 _
    wp_walk using wpAny_pyIter_tuple hA, wpAny_pyIter_list hB
    exact ⟨_, rfl, h⟩
section
variable {prog : Program} {w : World} {A : Around} {E : Value → Shared → Prop} {s : Shared}
theorem call_zm {a b : Addr} {xs ys : Array Value} {Q : Value → Shared → Prop} (m1 : s.heap.IsTuple a xs) (m2 : s.heap.IsList b ys)
    (h : ∀ g, ZAt g (s.heap.objs.size + 4) (s.heap.objs.size + 2) (s.heap.objs.size + 3) s.heap.objs.size (s.heap.objs.size + 1) .none .none .none → g.IsTupleIter s.heap.objs.size a 0 → g.IsListIter (s.heap.objs.size + 1) b 0 →
      (∀ c o, s.heap.get? c = some o → g.get? c = some o) → Q (.ref (s.heap.objs.size + 4)) { s with heap := g }) :
    wpAny (model prog w) A (call (.type "zip") [.ref a, .ref b]) Q E s := by
  refine callType_new F.called_zip (by decide) (F.typeCall_zip_2 _ _) (F.newCall_zip_2 _ _) (fun obj => F.args_object_init_3 obj _ _) F.entry_zip_new (meets_zm a b xs ys) ⟨m1, m2, ?_⟩
  have n1 : (zm1 s.heap a).objs.size = s.heap.objs.size + 1 := Heap.size_push ..
  have n2 : (zm2 s.heap a b).objs.size = s.heap.objs.size + 2 := by rw [Heap.size_push, n1]
  have n3 : (zm3 s.heap a b).objs.size = s.heap.objs.size + 3 := by rw [Heap.size_push, n2]
  have n4 : (zm4 s.heap a b).objs.size = s.heap.objs.size + 4 := by rw [Heap.size_push, n3]
  have e5 : (zm5 s.heap a b).get? (zm4 s.heap a b).objs.size = some _ := Heap.get?_push_size _ rfl
  have e4 : (zm5 s.heap a b).get? (zm3 s.heap a b).objs.size = some _ := Heap.get?_push_of_some _ (Heap.get?_push_size _ rfl)
  have e3 : (zm5 s.heap a b).get? (zm2 s.heap a b).objs.size = some _ := Heap.get?_push_of_some _ (Heap.get?_push_of_some _ (Heap.get?_push_size _ rfl))
  have e2 : (zm5 s.heap a b).get? (zm1 s.heap a).objs.size = some _ := Heap.get?_push_of_some _ (Heap.get?_push_of_some _ (Heap.get?_push_of_some _ (Heap.get?_push_size _ rfl)))
  have e1 : (zm5 s.heap a b).get? s.heap.objs.size = some _ := Heap.get?_push_of_some _ (Heap.get?_push_of_some _ (Heap.get?_push_of_some _ (Heap.get?_push_of_some _ (Heap.get?_push_size _ rfl))))
  show _ ∧ _
  rw [n2, n3, n4] at e5
  rw [n1, n2] at e3
  rw [n3] at e4
  rw [n1] at e2
  rw [n4]
  exact ⟨⟨_, e5, rfl⟩, h _ ⟨e5, e3, e4⟩ ⟨_, e1, rfl, rfl⟩ ⟨_, e2, rfl, rfl⟩ fun c o e => Heap.get?_push_of_some _ (Heap.get?_push_of_some _ (Heap.get?_push_of_some _ (Heap.get?_push_of_some _ (Heap.get?_push_of_some _ e))))⟩
end
open PySem.Spec PyProof.Rows L2
/-- zip of the tuple at a and the list at b -/
def Itm (K : PySem.W.Frag) (a b : Addr) : It :=
  ⟨fun i H => ∃ (xs ys : List V) (x y : V), SqT K H a xs ∧ SqL K H b ys ∧ xs[i]? = some x ∧ ys[i]? = some y,
    fun i H v H' => ∃ T x y, v = .ref T ∧ H T = none ∧ H' = upd H T (.tup [x, y]) ∧ (∀ xs, SqT K H a xs → xs[i]? = some x) ∧ ∀ ys, SqL K H b ys → ys[i]? = some y,
    fun i H => ∃ xs ys : List V, SqT K H a xs ∧ SqL K H b ys ∧ (xs.length ≤ i ∨ ys.length ≤ i)⟩
theorem turn_zm {P : Program} {w : World} {K : PySem.W.Frag} {elts : List Expr} {kk : Nat} {tpos : Pos} {a b z TI TO i1 i2 : Addr} (D : ZipApart z TI TO i1 i2 a b) :
    Turn P w K (.Tuple elts kk tpos) (Itm K a b) [z, TI, TO, i1, i2] z (fun i h => (∃ x y, ZAt h z TI TO i1 i2 .none x y) ∧ h.IsTupleIter i1 a i ∧ h.IsListIter i2 b i) where
  mem := by simp
  obj := fun i h st c hc => by
    obtain ⟨⟨x, y, zp, ti, to⟩, ⟨o1, e1, _, d1⟩, ⟨o2, e2, _, d2⟩⟩ := st
    rcases (by simpa using hc : c = z ∨ c = TI ∨ c = TO ∨ c = i1 ∨ c = i2) with r | r | r | r | r
    · rw [r]; exact ⟨_, zp, fun v q => nomatch q⟩
    · rw [r]; exact ⟨_, ti, fun v q => nomatch q⟩
    · rw [r]; exact ⟨_, to, fun v q => nomatch q⟩
    · rw [r]; exact ⟨o1, e1, fun v q => by rw [d1] at q; cases q⟩
    · rw [r]; exact ⟨o2, e2, fun v q => by rw [d2] at q; cases q⟩
  keep := fun i h g st k => by
    obtain ⟨⟨x, y, zp, ti, to⟩, h1, h2⟩ := st
    exact ⟨⟨x, y, k z (by simp) _ zp, k TI (by simp) _ ti, k TO (by simp) _ to⟩, h1.at fun o q => k i1 (by simp) o q, h2.at fun o q => k i2 (by simp) o q⟩
  item := by
    intro X hP hw hK hc i pins s σ H E I hf st hg
    subst hP hw hK
    obtain ⟨⟨x0, y0, Z⟩, h1, h2⟩ := st
    obtain ⟨xs, ys, x, y, sx, sy, ex, ey⟩ := hg
    obtain ⟨its, rv, p, _⟩ := I.tuple sx
    obtain ⟨its2, rv2, p2, _⟩ := I.list sy
    obtain ⟨u, hu, ru⟩ := rv.get ex
    obtain ⟨u2, hu2, ru2⟩ := rv2.get ey
    have bz : z < s.heap.objs.size := Heap.lt_size Z.zp
    have b1 : i1 < s.heap.objs.size := by obtain ⟨_, e, _⟩ := h1; exact Heap.lt_size e
    have b2 : i2 < s.heap.objs.size := by obtain ⟨_, e, _⟩ := h2; exact Heap.lt_size e
    have ba : a < s.heap.objs.size := by obtain ⟨_, e, _⟩ := id p; exact Heap.lt_size e
    have hin : ∀ c ∈ [z, TI, TO, i1, i2], c < s.heap.objs.size := fun c hcm => by
      rcases (by simpa using hcm : c = z ∨ c = TI ∨ c = TO ∨ c = i1 ∨ c = i2) with r | r | r | r | r
      · rw [r]; exact bz
      · rw [r]; exact Heap.lt_size Z.ti
      · rw [r]; exact Heap.lt_size Z.to
      · rw [r]; exact b1
      · rw [r]; exact b2
    refine zg_nx D (nx_tup D.l1i1) (nx_lst D.l2i2) Z ⟨h1, p⟩ ⟨h2, p2.isList⟩ (x := u) (y := u2) (by simpa using hu) (by simpa using hu2) ⟨bz, ba, p2.lt, b1, b2⟩ fun g Z' t1 t2 hT hk => ?_
    refine ⟨_, rfl, wpAny_letOwnedTupleGo_zip (s := { s with heap := g }) Z'.zp fun g2 z2 sb => ?_⟩
    have hT2 : IsPair g2 s.heap.objs.size u u2 := (sb.2 _ (Nat.ne_of_gt bz)).trans hT
    have new : ObjOk X.prog X.w (upd H s.heap.objs.size (.tup [x, y])) g2 s.heap.objs.size (.tup [x, y]) := ⟨by show 2 ≤ sizeLine; decide, [u, u2], .cons ru (.cons ru2 .nil), ⟨_, hT2, rfl, _, rfl⟩⟩
    have old : ∀ c o, c ∉ [z, TI, TO, i1, i2] → s.heap.get? c = some o → g2.get? c = some o := fun c o hb q => by
      simp only [List.mem_cons, List.not_mem_nil, or_false, not_or] at hb
      exact (sb.2 c hb.1).trans (hk c o hb.1 hb.2.2.1 hb.2.2.2.1 hb.2.2.2.2 q)
    refine ⟨.ref s.heap.objs.size, _, I.turnedNew (t' := s.toks) (ch := [z, TI, TO, i1, i2]) old hf (Nat.le_refl _) new, rfl, ⟨_, x, y, rfl, I.hok.fresh (Nat.le_refl _), rfl, fun l hl => ?_, fun l hl => ?_⟩, ⟨⟨u, u2, z2, (sb.2 _ D.TIz).trans Z'.ti, (sb.2 _ D.TOz).trans Z'.to⟩, ?_, ?_⟩, fun c hcm => ?_⟩
    · rw [I.tuple_inj hl sx]; exact ex
    · rw [I.list_inj hl sy]; exact ey
    · exact t1.1.at fun o q => (sb.2 _ D.i1z).trans q
    · exact t2.1.at fun o q => (sb.2 _ D.i2z).trans q
    · rw [upd_ne (Nat.ne_of_lt (hin c hcm))]
      exact (hf c hcm).1
  done := by
    intro X hP hw hK hc i pins s σ H E I hf st hg
    subst hP hw hK
    obtain ⟨⟨x0, y0, Z⟩, h1, h2⟩ := st
    obtain ⟨xs, ys, sx, sy, en⟩ := hg
    obtain ⟨its, rv, p, _⟩ := I.tuple sx
    obtain ⟨its2, rv2, p2, _⟩ := I.list sy
    have l1 := rv.length
    have l2 := rv2.length
    have he : its.toArray[i]? = none ∨ its2.toArray[i]? = none := en.imp (fun q => by simp; omega) (fun q => by simp; omega)
    refine zg_stop (I.ok.hd hc) D (nx_tup D.l1i1) (nx_lst D.l2i2) Z ⟨h1, p⟩ ⟨h2, p2.isList⟩ he fun g hk => ⟨rfl, I.turnedL (t' := s.toks) (ch := [z, TI, TO, i1, i2]) (fun c o hb q => ?_) hf⟩
    simp only [List.mem_cons, List.not_mem_nil, or_false, not_or] at hb
    exact hk c o hb.1 hb.2.2.1 hb.2.2.2.1 hb.2.2.2.2 q
  self := fun A i s Q E st h => by
    obtain ⟨⟨_, _, Z⟩, _⟩ := st
    exact wpAny_pyIter_zip Z.zp h
def iZm (K : PySem.W.Frag) (ta : TA) : L2.TI := fun σ H R => ta σ H fun vs H1 => ∃ a b xs ys, vs = [.ref a, .ref b] ∧ SqT K H1 a xs ∧ SqL K H1 b ys ∧ R (Itm K a b) H1
theorem pi_zm {X : Cx} {e e2 : Expr} {ta : TA} {p pos tpos : Pos} {elts : List Expr} {kk : Nat} (hg : Gl X "zip") (hm : X.mg "zip" = none) (ha : PA X [e, e2] ta)
    (hs : starEach [e, e2] X.env = (false, eval e X.env) :: starEach [e2] X.env := by rfl) (hpl : (backTo pos (starEach [e2] X.env)).any (·.1) = false := by rfl) : PI X (.Tuple elts kk tpos) (.Call (.Name "zip" p) [e, e2] [] pos) (iZm X.K ta) := by
  refine ⟨fun pins s σ H R I h => Call_ (ld_blt I hg hm PyProof.Rows.boot_zip (PyProof.Rows.callWith_type1 (thn (ha.run pos pins s σ H _ I h) fun us s1 hh => ?_) hs hpl))⟩
  obtain ⟨vs, H1, I1, r1, a, b, xs, ys, rfl, sx, sy, q⟩ := hh
  match us, r1 with
  | [_, _], .cons r (.cons r' .nil) =>
    cases r
    cases r'
    obtain ⟨its, rv, p1, _⟩ := I1.tuple sx
    obtain ⟨its2, rv2, p2, _⟩ := I1.list sy
    have la : a < s1.heap.objs.size := by obtain ⟨_, e, _⟩ := id p1; exact Heap.lt_size e
    refine call_zm (show s1.heap.IsTuple a its.toArray from p1) p2.isList fun g Z t1 t2 hk => wpAny_pyIter_zip Z.zp ?_
    have I2 : Inv X pins σ H1 { s1 with heap := g } := I1.kept (t' := s1.toks) hk
    refine ⟨s1.heap.objs.size + 4, [s1.heap.objs.size + 4, s1.heap.objs.size + 2, s1.heap.objs.size + 3, s1.heap.objs.size, s1.heap.objs.size + 1], _, _, H1, rfl, I2, turn_zm (PySem.W.ktu_apart s1.heap.objs.size a b la p2.lt), ⟨⟨_, _, Z⟩, t1, t2⟩, fun c hcm => ?_, q⟩
    have hle : s1.heap.objs.size ≤ c := by
      simp only [List.mem_cons, List.not_mem_nil, or_false] at hcm
      rcases hcm with r | r | r | r | r
      · rw [r]; exact Nat.le_add_right _ _
      · rw [r]; exact Nat.le_add_right _ _
      · rw [r]; exact Nat.le_add_right _ _
      · rw [r]; exact Nat.le_refl _
      · rw [r]; exact Nat.le_add_right _ _
    exact I1.fpOk hle (I1.hok.fresh hle)
section
variable {K : PySem.W.Frag} {a b : Addr} {xs ys : List V}
theorem walk_zm {n : Nat} (h1 : xs.length = n) (h2 : ys.length = n) : Walk (Itm K a b) n (fun H => SqT K H a xs ∧ SqL K H b ys) (YPair (fun i => xs[i]?) (fun i => ys[i]?)) := by
  refine ⟨fun i _ hi q => ⟨xs, ys, xs[i], ys[i], q.1, q.2, by simp [h1, hi], by simp [h2, hi]⟩, fun _ q => ⟨xs, ys, q.1, q.2, by omega⟩, fun i H v H' _ q y => ?_⟩
  obtain ⟨T, x, z, r1, r2, r3, r4, r5⟩ := y
  exact ⟨T, x, z, r1, r2, r3, r4 xs q.1, r5 ys q.2⟩
end
end FR
set_option Elab.async false
set_option linter.all false
set_option maxRecDepth 100000
/-! a, b, *c = a tuple -/
namespace FR
open PySem PySem.Spec PySem.Calls PyProof.Rows L2
section
variable {prog : Program} {w : World} {A : Around} {E : Value → Shared → Prop} {s : Shared}
open PySem.W in
theorem un_star {l : Addr} {items : Array Value} {n i : Nat} {Q : List Value → Shared → Prop} (hl : IsTup s.heap l items) (hh : A.handled = none) (hi : i < n) (hn : n ≤ items.size + 1) (hz : items.size ≤ 16384)
    (q : ∀ (g : Heap) (tk : Nat), (∀ b o, s.heap.get? b = some o → g.get? b = some o) →
      Q (items.toList.take i ++ [.ref g.objs.size] ++ (items.toList.drop i).drop (items.size + 1 - n)) { s with heap := g.push { cls := .type "list", data := .seq ((items.toList.drop i).take (items.size + 1 - n)).toArray }, toks := tk }) : wpAny (model prog w) A (unpackItems (.ref l) n (some i)) Q E s := by
  have bl : l < s.heap.objs.size := by obtain ⟨o, ho, _⟩ := id hl; exact Heap.lt_size ho
  have nl : l ≠ s.heap.objs.size := Nat.ne_of_lt bl
  unfold unpackItems; refine wpAny_bind ?_
  unfold notIterableAtAll; refine wpAny_bind (wpAny_specialOf hl.typeIs slot_tuple_iter.lookup ?_)
  refine wpAny_pure ?_; simp only [Bool.false_eq_true, if_false]
  refine wpAny_bind (wpAny_holding (iter_tuple hl ?_)); refine wpAny_bind (wpAny_holding (draw_tuple nl i 0 _ _ ⟨_, Heap.get?_push_size _ rfl, rfl, rfl⟩ (hl.push _) (by omega) fun g1 t1 s1 => ?_))
  have hl1 : IsTup g1 l items := (hl.push _).extBut s1.extBut nl
  rw [Nat.zero_add] at t1
  obtain ⟨oi, hoi, _⟩ := id t1
  obtain ⟨ol, hol, _⟩ := id hl1
  rw [List.drop_zero]
  have e1 : (items.toList.take i).length = i := by rw [List.length_take, Array.length_toList]; omega
  have e2 : (items.toList.drop i).length = items.size - i := by rw [List.length_drop, Array.length_toList]
  have e3 : (items.toList.drop i).length - (n - 1 - i) = items.size + 1 - n := by rw [e2]; omega
  rw [if_neg (show ¬ ((items.toList.take i).length < i) by omega)]
  have hW := Walks.tuple (prog := prog) (w := w) (A := A.in1) hh s.heap.objs.size l nl items
  refine wpAny_bind (wpAny_holding (kun_collect (s := { s with heap := g1 }) (T := "tuple_iterator") (.inr (.inr (.inr rfl))) hW (fun j u st => st.1.typeIs) (k := i) (by omega) ⟨t1, hl1⟩ (Heap.lt_size hoi) (Heap.lt_size hol) (fun g2 tk hk => ?_) (by rw [sizeLine_eq]; omega)))
  show wpAny _ _ (if (items.toList.drop i).length < n - 1 - i then _ else _) _ _ _; rw [if_neg (by rw [e2]; omega)]
  show wpAny _ _ (newList ((items.toList.drop i).take ((items.toList.drop i).length - (n - 1 - i))) >>= fun d => pure (items.toList.take i ++ [d] ++ (items.toList.drop i).drop ((items.toList.drop i).length - (n - 1 - i)))) _ _ _
  rw [e3]
  have hx : ∀ b o, s.heap.get? b = some o → g2.get? b = some o := fun b o e => hk b o (Nat.ne_of_lt (Heap.lt_size e)) (s1.extBut b o (Nat.ne_of_lt (Heap.lt_size e)) (Heap.get?_push_of_some _ e))
  refine wpAny_bind (wpAny_newList (wpAny_pure (q g2 tk hx)) ?_)
  rw [List.length_take, e2, sizeLine_eq]; omega
end
section
variable {X : Cx} {pos : Pos}
def gUnS (K : PySem.W.Frag) (n i : Nat) (t : TGs) : TG := fun v σ H Q => ∃ a xs, v = .ref a ∧ SqT K H a xs ∧ n ≤ xs.length + 1 ∧ xs.length ≤ 16384 ∧
  NewO (.lst ((xs.drop i).take (xs.length + 1 - n))) (fun d H' => t (xs.take i ++ [d] ++ (xs.drop i).drop (xs.length + 1 - n)) σ H' Q) H
theorem pg_unS {es : List Expr} {k : Nat} {t : TGs} {n i : Nat} (hc : X.calm = true) (h : PGs X es t)
    (hn : (assignEach es X.env).length = n := by rfl) (hst : (assignEach es X.env).findIdx? (·.1) = some i := by rfl) (hi : i < n := by decide) : PG X (.Tuple es k pos) (gUnS X.K n i t) := by
  refine ⟨fun pins s σ H v u Q I r hw => ?_⟩
  obtain ⟨a, xs, rfl, hq, hln, hz, hw⟩ := hw
  cases r
  obtain ⟨its, rv, ht, _⟩ := I.tuple hq
  have el := rv.length
  rw [assign_Tuple]
  refine wpAny_bind (wpAny_standAt ?_)
  unfold unpack
  rw [hn, hst]
  refine wpAny_bind (wpAny_holding (un_star (items := its.toArray) ht (I.ok.hd hc) hi (by simpa [← el] using hln) (by simpa [← el] using hz) fun g tk hk => ?_))
  have esz : its.toArray.size + 1 - n = xs.length + 1 - n := by simp [el]
  rw [esz]
  have rm : Vals ((xs.drop i).take (xs.length + 1 - n)) ((its.drop i).take (xs.length + 1 - n)) := (rv.drop i).take _
  have sm : ((xs.drop i).take (xs.length + 1 - n)).length ≤ sizeLine := by
    have : ((xs.drop i).take (xs.length + 1 - n)).length ≤ xs.length := by rw [List.length_take, List.length_drop]; omega
    exact Nat.le_trans this (Nat.le_trans hz (by rw [sizeLine_eq]; omega))
  have I0 : Inv X pins σ H { s with heap := g, toks := tk } := I.kept (t' := tk) hk
  have hf : H g.objs.size = none := I0.hok.fresh (Nat.le_refl _)
  have I1 := I0.laid (t' := tk) (o := .lst ((xs.drop i).take (xs.length + 1 - n))) (fun b o e => Heap.get?_push_of_some _ e) (Nat.le_refl _) ⟨sm, (its.drop i).take (xs.length + 1 - n), 0, rm, by simpa using Heap.get?_push_size _ rfl⟩
  exact h.run pins _ σ _ _ _ Q I1 (((rv.take i).append (.cons (show RelV (.ref g.objs.size) (.ref g.objs.size) from rfl) .nil)).append ((rv.drop i).drop _)) (hw.to g.objs.size _ hf (keep_new hf) upd_same)
theorem pgs_star {e : Expr} {p : Pos} {es : List Expr} {t : TG} {u : TGs} (h1 : PG X e t) (h2 : PGs X es u)
    (hs : (assignEach (.Starred e p :: es) X.env).map (·.2) = assign e X.env :: (assignEach es X.env).map (·.2) := by rfl) : PGs X (.Starred e p :: es) (gCons t u) := by
  refine ⟨fun pins s σ H vs us Q I r h => ?_⟩
  obtain ⟨v, vr, rfl, h⟩ := h
  cases r with
  | cons r rr =>
    rw [hs]
    exact assignInOrder_cons (thn (h1.run pins s σ H _ _ _ I r h) fun _ s1 ⟨σ1, H1, I1, q1⟩ => h2.run pins s1 σ1 H1 _ _ Q I1 rr q1)
end
end FR
set_option Elab.async false
set_option linter.all false
set_option maxRecDepth 100000
/-! list(d.values()), list(d.items()) -/
namespace FR
open PySem PySem.Spec PySem.Calls PyProof.Rows L2 L2.DX
open PySem.W (kdl_call kdl_values kdl_vals_eq dil_call DilG)
/-- the view d.values() at p -/
def valuesO (p d : Addr) : HO := .ext fun h => h.IsValuesView p d
theorem valuesO_ok {P : Program} {w : World} {H : Hp} {h : Heap} {p d : Addr} (e : h.get? p = some { cls := .type "dict_values", data := .fields #[.ref d] }) : ObjOk P w H h p (valuesO p d) :=
  ⟨⟨_, e, rfl, rfl⟩, ⟨_, e⟩, fun h1 h2 x k => let ⟨o, ho, r⟩ := x; ⟨o, k o ho, r⟩⟩
theorem KV.seconds {κ : Type} {kvs : List (κ × V)} {vs : List (κ × Value)} (r : KV kvs vs) : Vals (kvs.map (·.2)) (vs.map (·.2)) := by
  unfold KV at r
  induction r with
  | nil => exact .nil
  | cons h t ih => exact .cons h.2 ih
section
variable {X : Cx}
def rValsK : V → List V → Hp → VK → Prop := fun x xs H Q => ∃ (a : Addr) (kvs : List (L2.Key × V)), x = .ref a ∧ xs = [] ∧ H a = some (.dK kvs) ∧ ∀ p, H p = none → Q (.ref p) (upd H p (valuesO p a))
theorem mt_valuesK : MtR X "dict.values" rValsK := by
  intro pins s σ H x xs v us Q I rx rxs h
  obtain ⟨a, kvs, rfl, rfl, ha, q⟩ := h
  cases rx
  cases rxs
  obtain ⟨z, hd, vs, rel, dd⟩ := dk_of I.hok ha
  have hf : H s.heap.objs.size = none := I.hok.fresh (Nat.le_refl _)
  exact call_meetsIn PySem.F.slot_dict_values dd.typeIs PySem.F.entry_dict_values (PySem.F.args_dict_values_1 _) (meets_dict_values (mixKind X.prog X.w) a hd)
    ⟨⟨vs, dd⟩, ⟨.ref s.heap.objs.size, upd H s.heap.objs.size (valuesO s.heap.objs.size a), I.laid (t' := s.toks) (fun b u e => Heap.get?_push_of_some _ e) (Nat.le_refl _) (valuesO_ok (Heap.get?_push_size _ rfl)), rfl, q _ hf⟩⟩
def rItemsK : V → List V → Hp → VK → Prop := fun x xs H Q => ∃ (a : Addr) (kvs : List (L2.Key × V)), x = .ref a ∧ xs = [] ∧ H a = some (.dK kvs) ∧ ∀ p, H p = none → Q (.ref p) (upd H p (itemsO p a))
theorem mt_itemsK : MtR X "dict.items" rItemsK := by
  intro pins s σ H x xs v us Q I rx rxs h
  obtain ⟨a, kvs, rfl, rfl, ha, q⟩ := h
  cases rx
  cases rxs
  obtain ⟨z, hd, vs, rel, dd⟩ := dk_of I.hok ha
  have hf : H s.heap.objs.size = none := I.hok.fresh (Nat.le_refl _)
  exact call_meetsIn PySem.F.slot_dict_items dd.typeIs PySem.F.entry_dict_items (PySem.F.args_dict_items_1 _) (meets_dict_items (mixKind X.prog X.w) a hd)
    ⟨⟨vs, dd⟩, ⟨.ref s.heap.objs.size, upd H s.heap.objs.size (itemsO s.heap.objs.size a), I.laid (t' := s.toks) (fun b u e => Heap.get?_push_of_some _ e) (Nat.le_refl _) (itemsO_ok (Heap.get?_push_size _ rfl)), rfl, q _ hf⟩⟩
def rLVals : List V → Hp → VK → Prop := fun xs H Q => ∃ (p a : Addr) (kvs : List (L2.Key × V)), xs = [.ref p] ∧ H p = some (valuesO p a) ∧ H a = some (.dK kvs) ∧ NewO (.lst (kvs.map (·.2))) Q H
theorem call_lVals (hc : X.calm = true) : CallR X (.type "list") rLVals := by
  intro pins s σ H xs us Q I r h
  obtain ⟨p, a, kvs, rfl, hp, ha, q⟩ := h
  obtain rfl := Vals.ref1 r
  have view : s.heap.IsValuesView p a := (show ObjOk X.prog X.w H s.heap p (valuesO p a) from I.hok p _ hp).1
  obtain ⟨z, hd, vs, rel, dd⟩ := dk_of I.hok ha
  obtain ⟨ep, hat⟩ := dd.dictAt
  have hl : kvs.length = vs.length := Paired.length rel
  refine kdl_call (kdl_values (knd := mixKind X.prog X.w) (kvs := vs) (ep := ep)) (I.ok.hd hc) ⟨view, hat⟩ (by omega) fun h' tk acc c hk hS hacc => ?_
  have ev : acc.toList = vs.map (·.2) := kdl_vals_eq acc.toList (by rw [Array.length_toList]; exact hacc.1) fun j u hu => hacc.2 j u (by rw [← Array.getElem?_toList]; exact hu)
  have hf : H s.heap.objs.size = none := I.hok.fresh (Nat.le_refl _)
  have ok : ObjOk X.prog X.w (upd H s.heap.objs.size (.lst (kvs.map (·.2)))) h' s.heap.objs.size (.lst (kvs.map (·.2))) := ⟨by rw [List.length_map]; exact z, vs.map (·.2), c, KV.seconds rel, by rw [hS, ← ev]⟩
  exact ⟨.ref s.heap.objs.size, _, I.laid (t' := tk) hk (Nat.le_refl _) ok, rfl, q.to _ _ hf (keep_new hf) upd_same⟩
def rLItems : List V → Hp → VK → Prop := fun xs H Q => ∃ (p a : Addr) (kvs : List (L2.Key × V)), xs = [.ref p] ∧ H p = some (itemsO p a) ∧ H a = some (.dK kvs) ∧
  ∀ (H' : Hp) (l : Addr) (ps : List Addr), H l = none → Keep [] H H' → H' l = some (.lst (ps.map V.ref)) → Paired (fun p kv => H p = none ∧ H' p = some (.tup [kV kv.1, kv.2])) ps kvs → Q (.ref l) H'
theorem paired_of {α β : Type} {R : α → β → Prop} : ∀ {xs : List α} {ys : List β}, xs.length = ys.length → (∀ (j : Nat) (x : α) (y : β), xs[j]? = some x → ys[j]? = some y → R x y) → Paired R xs ys
  | [], [], _, _ => .nil
  | x :: xs, y :: ys, hl, h => .cons (h 0 x y rfl rfl) (paired_of (by simpa using hl) fun j a b ha hb => h (j + 1) a b (by simpa using ha) (by simpa using hb))
  | [], _ :: _, hl, _ => by simp at hl
  | _ :: _, [], hl, _ => by simp at hl
theorem paired_get {α β : Type} {R : α → β → Prop} {xs : List α} {ys : List β} (r : Paired R xs ys) : ∀ {j : Nat} {y : β}, ys[j]? = some y → ∃ x, xs[j]? = some x ∧ R x y := by
  induction r with
  | nil => intro j y h; simp at h
  | @cons a b as bs h t ih =>
    intro j y hy
    cases j with
    | zero => exact ⟨a, rfl, by simp at hy; subst hy; exact h⟩
    | succ j => exact ih (by simpa using hy)
theorem call_lItems (hc : X.calm = true) : CallR X (.type "list") rLItems := by
  intro pins s σ H xs us Q I r h
  obtain ⟨p, a, kvs, rfl, hp, ha, q⟩ := h
  obtain rfl := Vals.ref1 r
  have view : s.heap.IsItemsView p a := (show ObjOk X.prog X.w H s.heap p (itemsO p a) from I.hok p _ hp).1
  obtain ⟨z, hd, vs, rel, dd⟩ := dk_of I.hok ha
  have hl : kvs.length = vs.length := Paired.length rel
  obtain ⟨es, ep, raw, esz, ent⟩ := dd.raw
  refine dil_call (I.ok.hd hc) view raw (by omega) fun h' tk acc c as hk hS hal hG hacc => ?_
  have hf : H s.heap.objs.size = none := I.hok.fresh (Nat.le_refl _)
  have nd : as.Nodup := List.Pairwise.imp (fun h => Nat.ne_of_lt h) hG.rise
  have ok : ObjOk X.prog X.w (upd H s.heap.objs.size (.lst (as.map V.ref))) h' s.heap.objs.size (.lst (as.map V.ref)) :=
    ⟨by rw [List.length_map]; omega, as.map Value.ref, c, vals_maps V.ref Value.ref as fun _ _ => rfl, by rw [hS, ← hacc]⟩
  have I2 := I.laid (t' := tk) hk (Nat.le_refl _) ok
  have pr : ∀ (j : Nat) (b : Addr), as[j]? = some b → ∃ kv u1 u2, kvs[j]? = some kv ∧ RelV (kV kv.1) u1 ∧ RelV kv.2 u2 ∧ h'.get? b = some { cls := .type "tuple", data := .seq #[u1, u2] } := by
    intro j b hj
    obtain ⟨hj', e⟩ := hG.pairs j b hj
    have hlt : j < vs.length := by omega
    have hv : vs[j]? = some vs[j] := List.getElem?_eq_getElem hlt
    obtain ⟨kv, ek, r1, r2⟩ := paired_get rel hv
    obtain ⟨e1, e2⟩ := ent j hj' vs[j].1 vs[j].2 hv
    exact ⟨kv, _, _, ek, by rw [r1]; exact relV_key e1, by rw [e2]; exact r2, e⟩
  obtain ⟨H2, I3, g, qt⟩ := takeT (P := fun b ws => ∃ (j : Nat) (kv : L2.Key × V), as[j]? = some b ∧ kvs[j]? = some kv ∧ ws = [kV kv.1, kv.2]) I as _ I2 nd fun b hb => by
    obtain ⟨j, hj⟩ := List.mem_iff_getElem?.mp hb
    obtain ⟨kv, u1, u2, ek, r1, r2, hg⟩ := pr j b hj
    have hbl : s.heap.objs.size < b := hG.above b hb
    refine ⟨Nat.le_of_lt hbl, by rw [upd_ne (Nat.ne_of_gt hbl)]; exact I.hok.fresh (Nat.le_of_lt hbl), [kV kv.1, kv.2], ⟨j, kv, hj, ek, rfl⟩, fun H3 => ⟨(by rw [sizeLine_eq]; show 2 ≤ 16777216; omega), [u1, u2], .cons r1 (.cons r2 .nil), ⟨_, hg, rfl, 0, rfl⟩⟩⟩
  refine ⟨.ref s.heap.objs.size, H2, I3, rfl, q H2 s.heap.objs.size as hf (fun b o e _ => g b o (by rw [upd_ne (ne_of_none e hf)]; exact e)) (g _ _ upd_same) (paired_of (by omega) fun j b kv hj ek => ?_)⟩
  have hbm := List.mem_of_getElem? hj
  obtain ⟨ws, ⟨i, kv', hi, ek', rfl⟩, hH⟩ := qt b hbm
  have eij : i = j := (List.getElem?_inj (List.getElem?_eq_some_iff.mp hi).1 nd).mp (hi.trans hj.symm)
  subst eij
  rw [ek] at ek'
  cases ek'
  exact ⟨I.hok.fresh (Nat.le_of_lt (hG.above b hbm)), hH⟩
end
end FR
set_option Elab.async false
set_option linter.all false
set_option maxRecDepth 100000
/-! enumerate(text) -/
namespace FR
open PySem PySem.Spec PyProof.Rows L2
/-- the signs of a text, each with its place, in new pairs -/
def IteS (z : Str) : It :=
  ⟨fun i _ => i < z.cps.size, fun i H v H' => ∃ T c, v = .ref T ∧ H T = none ∧ H' = upd H T (.tup [.int (i : Nat), .str ⟨#[c]⟩]) ∧ z.cps[i]? = some c, fun i _ => i = z.cps.size⟩
theorem draws_str {prog : Program} {w : World} {A : Around} (hh : A.handled = none) (it : Addr) (x : Str) (t : Tok) :
    Draws prog w A it [it] x.cps.size (fun i v => ∃ c u, x.cps[i]? = some c ∧ v = .str ⟨#[c]⟩ u) (fun i h => h.IsStrIter it (strIterType x) x t i) := by
  rcases (show strIterType x = "str_ascii_iterator" ∨ strIterType x = "str_iterator" by unfold strIterType; split; exact .inl rfl; exact .inr rfl) with e | e
  · rw [e]; exact Draws.strAscii hh it x t
  · rw [e]; exact Draws.strWide hh it x t
theorem turn_enumS {P : Program} {w : World} {K : PySem.W.Frag} {elts : List Expr} {kk : Nat} {tpos : Pos} (z : Str) (t : Tok) (e it : Addr) :
    Turn P w K (.Tuple elts kk tpos) (IteS z) [e, it] e (fun i h => (∃ old, IsEnum h e it ((i : Nat) : Int) old) ∧ h.IsStrIter it (strIterType z) z t i ∧ e ≠ it) where
  mem := by simp
  obj := fun i h st b hb => by
    obtain ⟨⟨old, he⟩, ⟨o, ho, hc, hd⟩, _⟩ := st
    rcases (by simpa using hb : b = e ∨ b = it) with r | r
    · rw [r]; exact ⟨_, he, fun v q => nomatch q⟩
    · rw [r]; exact ⟨o, ho, fun v q => by rw [hd] at q; cases q⟩
  keep := fun i h g st k => by
    obtain ⟨⟨old, he⟩, ⟨o, ho, r⟩, hne⟩ := st
    exact ⟨⟨old, k e (by simp) _ he⟩, ⟨o, k it (by simp) o ho, r⟩, hne⟩
  item := by
    intro X hP hw hK hc i pins s σ H E I hf st hg
    subst hP hw hK
    obtain ⟨⟨old, he⟩, hit, hne⟩ := st
    have hel : e < s.heap.objs.size := Heap.lt_size he
    have hil : it < s.heap.objs.size := by obtain ⟨_, q, _⟩ := id hit; exact Heap.lt_size q
    have D := draws_str (prog := X.prog) (w := X.w) (A := X.A.in1) (show X.A.in1.handled = none from I.ok.hd hc) it z t
    refine wpAny_pyNext_enum_itemD D he hit hg hne (by simpa using hne) fun x g tk px ho hit' hT hsz hk => ?_
    obtain ⟨c, u, ec, rfl⟩ := px
    refine ⟨_, rfl, wpAny_letOwnedTupleGo_enum (s := { s with heap := g, toks := tk + 1 }) ho fun g2 he' sb => ?_⟩
    have hT2 : g2.get? s.heap.objs.size = some { cls := .type "tuple", data := .seq #[.int i tk, .str ⟨#[c]⟩ u] } := (sb.2 _ (Nat.ne_of_gt hel)).trans hT
    have new : ObjOk X.prog X.w (upd H s.heap.objs.size (.tup [.int (i : Nat), .str ⟨#[c]⟩])) g2 s.heap.objs.size (.tup [.int (i : Nat), .str ⟨#[c]⟩]) :=
      ⟨by show 2 ≤ sizeLine; decide, [.int i tk, .str ⟨#[c]⟩ u], .cons ⟨_, rfl⟩ (.cons ⟨_, rfl⟩ .nil), ⟨_, hT2, rfl, _, rfl⟩⟩
    have I1 : Inv X pins σ (upd H s.heap.objs.size (.tup [.int (i : Nat), .str ⟨#[c]⟩])) { s with heap := g2, toks := tk + 1 } :=
      I.turnedNew (ch := [e, it]) (fun b ob hb q => (sb.2 b (fun r => hb (by simp [r]))).trans (hk b ob (fun r => hb (by simp [r])) (fun r => hb (by simp [r])) q)) hf (Nat.le_refl _) new
    refine ⟨.ref s.heap.objs.size, _, I1, rfl, ⟨_, c, rfl, I.hok.fresh (Nat.le_refl _), rfl, ec⟩, ⟨⟨Value.str ⟨#[c]⟩ u, ?_⟩, ?_, hne⟩, fun b hb => ?_⟩
    · rw [show ((i + 1 : Nat) : Int) = (i : Int) + 1 by omega]; exact he'
    · obtain ⟨o, eo, r⟩ := hit'
      exact ⟨o, (sb.2 it (Ne.symm hne)).trans eo, r⟩
    · have hb' : b < s.heap.objs.size := by
        rcases (by simpa using hb : b = e ∨ b = it) with r | r
        · rw [r]; exact hel
        · rw [r]; exact hil
      rw [upd_ne (Nat.ne_of_lt hb')]
      exact (hf b hb).1
  done := by
    intro X hP hw hK hc i pins s σ H E I hf st hg
    subst hP hw hK
    obtain ⟨⟨old, he⟩, hit, hne⟩ := st
    obtain ⟨f0, f1, f2, f3, f4, f5⟩ := hf it (by simp)
    have D := draws_str (prog := X.prog) (w := X.w) (A := X.A.in1) (show X.A.in1.handled = none from I.ok.hd hc) it z t
    have ei : i = z.cps.size := hg
    subst ei
    refine wpAny_pyNext_enum_endD D he hit fun g eb => ⟨rfl, I.turned (t' := s.toks) (fun b o hb q => eb b o hb q) f0 f1 f3 f4 f5⟩
  self := fun A i s Q E st h => let ⟨⟨_, he⟩, _⟩ := st; wpAny_pyIter_enum he h
def iEnumS (ta : TA) : TI := fun σ H R => ta σ H fun vs H1 => ∃ z, vs = [.str z] ∧ R (IteS z) H1
theorem pi_enumS {X : Cx} {e : Expr} {ta : TA} {p pos tpos : Pos} {elts : List Expr} {kk : Nat} (hg : Gl X "enumerate") (hm : X.mg "enumerate" = none) (ha : PA X [e] ta) (hs : starEach [e] X.env = [(false, eval e X.env)] := by rfl) :
    PI X (.Tuple elts kk tpos) (.Call (.Name "enumerate" p) [e] [] pos) (iEnumS ta) := by
  refine ⟨fun pins s σ H R I h => Call_ (ld_blt I hg hm boot_enumerate (PyProof.Rows.callWith_type1 (thn (ha.run pos pins s σ H _ I h) fun us s1 hh => ?_) hs rfl))⟩
  obtain ⟨vs, H1, I1, r1, z, rfl, q⟩ := hh
  obtain ⟨u, rfl, ru⟩ := r1.one
  obtain ⟨t, rfl⟩ := ru
  refine call_enumerate_str fun g he hit hsz hk => wpAny_pyIter_enum he ?_
  have I2 : Inv X pins σ H1 { s1 with heap := g } := I1.kept (t' := s1.toks) hk
  refine ⟨s1.heap.objs.size + 1, [s1.heap.objs.size + 1, s1.heap.objs.size], _, _, H1, rfl, I2, turn_enumS z t (s1.heap.objs.size + 1) s1.heap.objs.size, ⟨⟨.none, he⟩, hit, Nat.succ_ne_self _⟩, fun b hb => ?_, q⟩
  have hle : s1.heap.objs.size ≤ b := by
    rcases (by simpa using hb : b = s1.heap.objs.size + 1 ∨ b = s1.heap.objs.size) with r | r
    · rw [r]; exact Nat.le_add_right _ _
    · rw [r]; exact Nat.le_refl _
  exact I1.fpOk hle (I1.hok.fresh hle)
theorem walk_enumS {z : Str} : Walk (IteS z) z.cps.size (fun _ => True) (YPair (fun i => some (.int (i : Nat))) (fun i => z.cps[i]?.map fun c => .str ⟨#[c]⟩)) :=
  ⟨fun _ _ hi _ => hi, fun _ _ => rfl, fun i H v H' _ _ y => by
    obtain ⟨T, c, r1, r2, r3, r4⟩ := y
    exact ⟨T, .int (i : Nat), .str ⟨#[c]⟩, r1, r2, r3, rfl, by show (z.cps[i]?).map _ = _; rw [r4]; rfl⟩⟩
end FR
set_option Elab.async false
set_option linter.all false
set_option maxRecDepth 100000
/-! a new dict that is walked -/
namespace FR
open PySem PySem.Spec PyProof.Rows L2
def tFrz (t : TE) : TE := fun σ H Q => t σ H fun x H1 => ∃ (d : Addr) (u : HO), x = .ref d ∧ H1 d = some u ∧ Mut (some u) ∧ ∀ od, Q x (upd H1 d (.frz od u))
theorem pe_frz {X : Cx} {e : Expr} {t : TE} (h : PE X e t) : PE X e (tFrz t) := ⟨fun pins s σ H Q I hq => thn (h.run pins s σ H _ I hq) fun v s1 hh => by
  obtain ⟨x, H1, I1, r, d, u, ex, hd, mu, q⟩ := hh
  obtain ⟨od, I2⟩ := I1.lock hd mu
  exact ⟨x, _, I2, r, q od⟩⟩
theorem pe_nev {X : Cx} {e : Expr} : PE X e (fun _ _ _ => False) := ⟨fun _ _ _ _ _ _ h => h.elim⟩
def rNotKd (K : PySem.W.Frag) (d : Addr) : R2 := fun x y H Q => ∃ (z : Str) (r : Option Value), x = .str z ∧ y = .ref d ∧ PySem.W.nsIn K d z = some r ∧ Q (.bl (!r.isSome)) H
theorem op_notKd {X : Cx} {K : PySem.W.Frag} {w : World} {d : Addr} (hk : X.K = K) (hw : X.w = w) (D : ∃ es n, KDict K w d es n) : OpR X (compareOp .NotIn) (rNotKd K d) := by
  subst hk hw
  obtain ⟨es, n, D⟩ := D
  exact op_notIn_kd D
theorem ix_tupK {X : Cx} {K : PySem.W.Frag} (h : X.K = K) : IxR X (rIxT K) := h ▸ ix_tup
/-- what no call reaches -/
theorem never_elim {P : Prop} (h : False) : P := h.elim
end FR
set_option Elab.async false
set_option linter.all false
set_option maxRecDepth 100000
set_option maxHeartbeats 8000000
local macro_rules | `(tactic| walk_at "sq") => `(tactic| first
  | (refine' FR.Ow.sq (i := 0) ?w ?e; (case w => assumption); (case e => rfl))
  | (refine' FR.Ow.sq (i := 1) ?w ?e; (case w => assumption); (case e => rfl))
  | (refine' FR.Ow.sq (i := 2) ?w ?e; (case w => assumption); (case e => rfl))
  | (refine' FR.Ow.sq (i := 3) ?w ?e; (case w => assumption); (case e => rfl))
  | (refine' FR.Ow.sq (i := 4) ?w ?e; (case w => assumption); (case e => rfl))
  | (refine' FR.Ow.sq (i := 5) ?w ?e; (case w => assumption); (case e => rfl))
  | (refine' FR.Ow.sq (i := 6) ?w ?e; (case w => assumption); (case e => rfl))
  | (refine' FR.Ow.sq (i := 7) ?w ?e; (case w => assumption); (case e => rfl))
  | (refine' FR.Ow.sq (i := 8) ?w ?e; (case w => assumption); (case e => rfl))
  | (refine' FR.Ow.sq (i := 9) ?w ?e; (case w => assumption); (case e => rfl))
  | (refine' FR.Ow.sq (i := 10) ?w ?e; (case w => assumption); (case e => rfl))
  | (refine' FR.Ow.sq (i := 11) ?w ?e; (case w => assumption); (case e => rfl))
  | (refine' FR.Ow.sq (i := 12) ?w ?e; (case w => assumption); (case e => rfl))
  | (refine' FR.Ow.sq (i := 13) ?w ?e; (case w => assumption); (case e => rfl))
  | assumption)
local macro_rules | `(tactic| walk_at "hp") => `(tactic| first
  | (refine' FR.Ow.get (i := 0) ?w ?e; (case w => assumption); (case e => rfl))
  | (refine' FR.Ow.get (i := 1) ?w ?e; (case w => assumption); (case e => rfl))
  | (refine' FR.Ow.get (i := 2) ?w ?e; (case w => assumption); (case e => rfl))
  | (refine' FR.Ow.get (i := 3) ?w ?e; (case w => assumption); (case e => rfl))
  | (refine' FR.Ow.get (i := 4) ?w ?e; (case w => assumption); (case e => rfl))
  | (refine' FR.Ow.get (i := 5) ?w ?e; (case w => assumption); (case e => rfl))
  | (refine' FR.Ow.get (i := 6) ?w ?e; (case w => assumption); (case e => rfl))
  | (refine' FR.Ow.get (i := 7) ?w ?e; (case w => assumption); (case e => rfl))
  | (refine' FR.Ow.get (i := 8) ?w ?e; (case w => assumption); (case e => rfl))
  | (refine' FR.Ow.get (i := 9) ?w ?e; (case w => assumption); (case e => rfl))
  | (refine' FR.Ow.get (i := 10) ?w ?e; (case w => assumption); (case e => rfl))
  | (refine' FR.Ow.get (i := 11) ?w ?e; (case w => assumption); (case e => rfl))
  | (refine' FR.Ow.get (i := 12) ?w ?e; (case w => assumption); (case e => rfl))
  | (refine' FR.Ow.get (i := 13) ?w ?e; (case w => assumption); (case e => rfl))
  | assumption)
local macro_rules | `(tactic| walk_at "ar") => `(tactic| first | assumption | omega | decide)
local macro_rules | `(tactic| walk_at "cd") => `(tactic| first
  | assumption | (with_reducible rfl) | exact (rfl : List.length _ = _) | (dsimp only; walk_at "ar") | walk_at "ar"
  | (refine And.intro (a := (_ : Int) < _) ?_ ?_ <;> walk_at "ar")
  | (refine And.intro (a := (0 : Int) ≤ _) ?_ (And.intro ?_ ?_) <;> walk_at "ar")
  | exact FR.size_le (by omega) | exact FR.size_ok (by omega)
  | (refine Or.inl (And.intro ?_ ?_) <;> walk_at "ar")
  | (refine Or.inr (And.intro ?_ ?_) <;> walk_at "ar"))
local macro_rules | `(tactic| walk_at "ty") => `(tactic| first
  | exact L2.TyOf.int _
  | exact L2.TyOf.str _
  | exact L2.TyOf.bl _
  | exact L2.TyOf.non
  | (refine' L2.TyOf.lst ?e; (case e => walk_at "hp"))
  | (refine' L2.TyOf.tup ?e; (case e => walk_at "hp"))
  | (refine' L2.TyOf.dK ?e; (case e => walk_at "hp")))
local macro_rules | `(tactic| walk_at "kit") => `(tactic| first
  | exact FR.ki_int_str
  | exact FR.ki_int_int
  | exact FR.ki_int_bool
  | exact FR.ki_int_list
  | exact FR.ki_int_tuple
  | exact FR.ki_int_dict
  | exact FR.ki_str_str
  | exact FR.ki_str_int
  | exact FR.ki_str_bool
  | exact FR.ki_str_list
  | exact FR.ki_str_tuple
  | exact FR.ki_str_dict
  | exact FR.ki_bl_str
  | exact FR.ki_bl_int
  | exact FR.ki_bl_bool
  | exact FR.ki_bl_list
  | exact FR.ki_bl_tuple
  | exact FR.ki_bl_dict
  | exact FR.ki_non_str
  | exact FR.ki_non_int
  | exact FR.ki_non_bool
  | exact FR.ki_non_list
  | exact FR.ki_non_tuple
  | exact FR.ki_non_dict
  | exact FR.ki_lst_str
  | exact FR.ki_lst_int
  | exact FR.ki_lst_bool
  | exact FR.ki_lst_list
  | exact FR.ki_lst_tuple
  | exact FR.ki_lst_dict
  | exact FR.ki_tup_str
  | exact FR.ki_tup_int
  | exact FR.ki_tup_bool
  | exact FR.ki_tup_list
  | exact FR.ki_tup_tuple
  | exact FR.ki_tup_dict
  | exact FR.ki_dK_str
  | exact FR.ki_dK_int
  | exact FR.ki_dK_bool
  | exact FR.ki_dK_list
  | exact FR.ki_dK_tuple
  | exact FR.ki_dK_dict)
local macro_rules | `(tactic| walk_at "isi") => `(tactic| (refine' ⟨_, _, _, _, _, rfl, L2.ClsV.ty _, L2.TyX.base ?k1, L2.kit_ty ?k2, ?k3⟩; (case k1 => walk_at "ty"); (case k2 => walk_at "kit")))
local macro_rules | `(tactic| walk_at "w1") => `(tactic| first
  | (refine' FR.with1 0 ?k1 ?k2 (by assumption) (by assumption) ?k3; (case k1 => assumption); (case k2 => rfl); intro W)
  | (refine' FR.with1 1 ?k1 ?k2 (by assumption) (by assumption) ?k3; (case k1 => assumption); (case k2 => rfl); intro W)
  | (refine' FR.with1 2 ?k1 ?k2 (by assumption) (by assumption) ?k3; (case k1 => assumption); (case k2 => rfl); intro W)
  | (refine' FR.with1 3 ?k1 ?k2 (by assumption) (by assumption) ?k3; (case k1 => assumption); (case k2 => rfl); intro W)
  | (refine' FR.with1 4 ?k1 ?k2 (by assumption) (by assumption) ?k3; (case k1 => assumption); (case k2 => rfl); intro W)
  | (refine' FR.with1 5 ?k1 ?k2 (by assumption) (by assumption) ?k3; (case k1 => assumption); (case k2 => rfl); intro W)
  | (refine' FR.with1 6 ?k1 ?k2 (by assumption) (by assumption) ?k3; (case k1 => assumption); (case k2 => rfl); intro W)
  | (refine' FR.with1 7 ?k1 ?k2 (by assumption) (by assumption) ?k3; (case k1 => assumption); (case k2 => rfl); intro W)
  | (refine' FR.with1 8 ?k1 ?k2 (by assumption) (by assumption) ?k3; (case k1 => assumption); (case k2 => rfl); intro W)
  | (refine' FR.with1 9 ?k1 ?k2 (by assumption) (by assumption) ?k3; (case k1 => assumption); (case k2 => rfl); intro W)
  | (refine' FR.with1 10 ?k1 ?k2 (by assumption) (by assumption) ?k3; (case k1 => assumption); (case k2 => rfl); intro W)
  | (refine' FR.with1 11 ?k1 ?k2 (by assumption) (by assumption) ?k3; (case k1 => assumption); (case k2 => rfl); intro W)
  | (refine' FR.with1 12 ?k1 ?k2 (by assumption) (by assumption) ?k3; (case k1 => assumption); (case k2 => rfl); intro W)
  | (refine' FR.with1 13 ?k1 ?k2 (by assumption) (by assumption) ?k3; (case k1 => assumption); (case k2 => rfl); intro W))
local macro_rules | `(tactic| walk_at "obj") => `(tactic| first
  | (refine FR.NewO.mk ?_; intro p H np kp hp; refine' FR.withN ?k1 np kp hp ?k2; (case k1 => assumption); intro W)
  | (refine FR.NewS.mk ?_; intro p H np sp kp hp; refine' FR.withN ?k1 np kp hp ?k2; (case k1 => assumption); intro W)
  | (refine FR.MutO.mk ?_; intro H kp hp; walk_at "w1"))
local macro_rules | `(tactic| walk_at "sz") => `(tactic| exact FR.size_ok (by (try simp only [List.length_map, List.length_append, List.length_cons, List.length_nil]); omega))
local macro_rules | `(tactic| walk_at "rd1") => `(tactic| first
  | (refine ⟨_, rfl, ?_⟩)
  | (refine ⟨_, _, rfl, rfl, ?_⟩)
  | (refine ⟨_, _, rfl, ?_⟩)
  | (refine' ⟨_, _, _, _, rfl, rfl, ?k1, ?k2, ?k3⟩; (case k1 => walk_at "hp"); (case k2 => rfl); walk_at "obj")
  | (refine' ⟨_, _, _, _, rfl, rfl, ?k1, ?k2, ?k3⟩; (case k1 => walk_at "sq"); (case k2 => rfl))
  | walk_at "obj"
  | (refine' ⟨_, _, _, rfl, rfl, ?k1, ?k2, ?k3⟩; (case k1 => walk_at "hp"); (case k2 => walk_at "sz"); walk_at "obj")
  | (refine And.intro (show List.length _ ≤ PySem.sizeLine from Nat.le_of_ble_eq_true rfl) ?_; walk_at "obj")
  | (refine' ⟨_, _, rfl, Or.inl ?k1, ?k2⟩; (case k1 => walk_at "sq"))
  | (refine FR.ifT rfl ?_) | (refine FR.ifF rfl ?_)
  | (refine And.intro (show L2.scal _ _ = true from rfl) ?_)
  | (refine And.intro (show L2.tyV _ "str" (L2.V.str _) _ from rfl) ?_)
  | (refine' And.intro (show L2.tyV _ "list" (L2.V.ref _) _ from Or.inl ⟨rfl, _, ?k1⟩) ?k2; (case k1 => walk_at "sq"))
  | (refine And.intro (Exists.intro _ rfl) ?_)
  | (refine And.intro (show L2.wipe _ _ = L2.wipe _ _ from rfl) ?_)
  | (refine And.intro (by walk_at "cd") ?_)
  | walk_at "isi")
local macro_rules | `(tactic| walk_at "rd") => `(tactic| repeat walk_at "rd1")
local macro_rules | `(tactic| walk_at "take") => `(tactic| (refine' ⟨_, _, _, _, _, _, rfl, ?k1, ?k2, ?k3, ?k4, ?k5, ?k6⟩; (case k1 => walk_at "hp"); (case k2 => assumption); (case k3 => omega); (case k4 => first | decide | omega); (case k5 => first | decide | omega); intro d x y z H d0 d1 ok kp hb; walk_at "w1"))
set_option Elab.async false
set_option linter.all false
set_option maxRecDepth 100000
namespace K41
open PySem PySem.Spec PyProof.Rows L2 FR
def top (i : Nat) : Stmt := PySem.Challenge.pw_filerights_k41_values_that_are_deeds.main.body.getD i (.Pass ⟨0, 0, 0, 0⟩)
def inCls (s : Stmt) (j : Nat) : Stmt := match s with
  | .ClassDef _ _ _ b _ _ _ _ _ _ _ => b.getD j (.Pass ⟨0, 0, 0, 0⟩)
  | _ => .Pass ⟨0, 0, 0, 0⟩
abbrev s__wall : Stmt := top 0
abbrev N__wall : List Str := ["k"]
theorem sc__wall : FnScope N__wall ["k"] (defScope s__wall) := ⟨rfl, rfl, rfl, by decide +kernel, rfl, by decide +kernel, by decide +kernel⟩
abbrev s_is_integer : Stmt := top 12
abbrev N_is_integer : List Str := ["value", "low", "high"]
theorem sc_is_integer : FnScope N_is_integer ["value", "low", "high"] (defScope s_is_integer) := ⟨rfl, rfl, rfl, by decide +kernel, rfl, by decide +kernel, by decide +kernel⟩
abbrev s_is_name : Stmt := top 13
abbrev N_is_name : List Str := ["value"]
theorem sc_is_name : FnScope N_is_name ["value"] (defScope s_is_name) := ⟨rfl, rfl, rfl, by decide +kernel, rfl, by decide +kernel, by decide +kernel⟩
abbrev s_is_user_name : Stmt := top 14
abbrev N_is_user_name : List Str := ["value"]
theorem sc_is_user_name : FnScope N_is_user_name ["value"] (defScope s_is_user_name) := ⟨rfl, rfl, rfl, by decide +kernel, rfl, by decide +kernel, by decide +kernel⟩
abbrev s_is_path : Stmt := top 15
abbrev N_is_path : List Str := ["value", "letters", "part"]
theorem sc_is_path : FnScope N_is_path ["value"] (defScope s_is_path) := ⟨rfl, rfl, rfl, by decide +kernel, rfl, by decide +kernel, by decide +kernel⟩
abbrev s_as_rights : Stmt := top 22
abbrev N_as_rights : List Str := ["value"]
theorem sc_as_rights : FnScope N_as_rights ["value"] (defScope s_as_rights) := ⟨rfl, rfl, rfl, by decide +kernel, rfl, by decide +kernel, by decide +kernel⟩
abbrev s__is_letters : Stmt := top 23
abbrev N__is_letters : List Str := ["value"]
theorem sc__is_letters : FnScope N__is_letters ["value"] (defScope s__is_letters) := ⟨rfl, rfl, rfl, by decide +kernel, rfl, by decide +kernel, by decide +kernel⟩
abbrev s__digit_of : Stmt := top 24
abbrev N__digit_of : List Str := ["value"]
theorem sc__digit_of : FnScope N__digit_of ["value"] (defScope s__digit_of) := ⟨rfl, rfl, rfl, by decide +kernel, rfl, by decide +kernel, by decide +kernel⟩
abbrev s_is_digits : Stmt := top 31
abbrev N_is_digits : List Str := ["value", "digit"]
theorem sc_is_digits : FnScope N_is_digits ["value"] (defScope s_is_digits) := ⟨rfl, rfl, rfl, by decide +kernel, rfl, by decide +kernel, by decide +kernel⟩
abbrev s__three_rights : Stmt := top 32
abbrev N__three_rights : List Str := ["digits", "digit"]
theorem sc__three_rights : FnScope N__three_rights ["digits"] (defScope s__three_rights) := ⟨rfl, rfl, rfl, by decide +kernel, rfl, by decide +kernel, by decide +kernel⟩
abbrev s__named_rights : Stmt := top 33
abbrev N__named_rights : List Str := ["value", "named", "name"]
theorem sc__named_rights : FnScope N__named_rights ["value"] (defScope s__named_rights) := ⟨rfl, rfl, rfl, by decide +kernel, rfl, by decide +kernel, by decide +kernel⟩
abbrev s__keys_in_order : Stmt := top 34
abbrev N__keys_in_order : List Str := ["value", "strings", "key"]
theorem sc__keys_in_order : FnScope N__keys_in_order ["value"] (defScope s__keys_in_order) := ⟨rfl, rfl, rfl, by decide +kernel, rfl, by decide +kernel, by decide +kernel⟩
abbrev s__is_entry : Stmt := top 35
abbrev N__is_entry : List Str := ["kind", "name"]
theorem sc__is_entry : FnScope N__is_entry ["kind", "name"] (defScope s__is_entry) := ⟨rfl, rfl, rfl, by decide +kernel, rfl, by decide +kernel, by decide +kernel⟩
abbrev s__named_in : Stmt := top 36
abbrev N__named_in : List Str := ["entries", "kind", "word", "name"]
theorem sc__named_in : FnScope N__named_in ["entries", "kind"] (defScope s__named_in) := ⟨rfl, rfl, rfl, by decide +kernel, rfl, by decide +kernel, by decide +kernel⟩
abbrev s__assembled : Stmt := top 37
abbrev N__assembled : List Str := ["entries"]
theorem sc__assembled : FnScope N__assembled ["entries"] (defScope s__assembled) := ⟨rfl, rfl, rfl, by decide +kernel, rfl, by decide +kernel, by decide +kernel⟩
abbrev s_is_deed : Stmt := top 40
abbrev N_is_deed : List Str := ["value", "user", "word", "parts"]
theorem sc_is_deed : FnScope N_is_deed ["value"] (defScope s_is_deed) := ⟨rfl, rfl, rfl, by decide +kernel, rfl, by decide +kernel, by decide +kernel⟩
abbrev s_are_parts : Stmt := top 41
abbrev N_are_parts : List Str := ["kinds", "values", "kind", "value"]
theorem sc_are_parts : FnScope N_are_parts ["kinds", "values"] (defScope s_are_parts) := ⟨rfl, rfl, rfl, by decide +kernel, rfl, by decide +kernel, by decide +kernel⟩
abbrev s__is_part : Stmt := top 42
abbrev N__is_part : List Str := ["kind", "value"]
theorem sc__is_part : FnScope N__is_part ["kind", "value"] (defScope s__is_part) := ⟨rfl, rfl, rfl, by decide +kernel, rfl, by decide +kernel, by decide +kernel⟩
abbrev s_cell : Stmt := top 44
abbrev N_cell : List Str := ["_law_script", "_law_k"]
theorem sc_cell : FnScope N_cell ["_law_script", "_law_k"] (defScope s_cell) := ⟨rfl, rfl, rfl, by decide +kernel, rfl, by decide +kernel, by decide +kernel⟩
abbrev s_bag : Stmt := top 45
abbrev N_bag : List Str := ["_law_number"]
theorem sc_bag : FnScope N_bag ["_law_number"] (defScope s_bag) := ⟨rfl, rfl, rfl, by decide +kernel, rfl, by decide +kernel, by decide +kernel⟩
abbrev s_take : Stmt := top 46
abbrev N_take : List Str := ["_law_bag_here", "_law_count", "_law_digit", "_law_mixed"]
theorem sc_take : FnScope N_take ["_law_bag_here", "_law_count"] (defScope s_take) := ⟨rfl, rfl, rfl, by decide +kernel, rfl, by decide +kernel, by decide +kernel⟩
abbrev s_word : Stmt := top 47
abbrev N_word : List Str := ["_law_bag_here", "_law_letters", "_law_k"]
theorem sc_word : FnScope N_word ["_law_bag_here"] (defScope s_word) := ⟨rfl, rfl, rfl, by decide +kernel, rfl, by decide +kernel, by decide +kernel⟩
abbrev s_path : Stmt := top 48
abbrev N_path : List Str := ["_law_bag_here", "_law_k"]
theorem sc_path : FnScope N_path ["_law_bag_here"] (defScope s_path) := ⟨rfl, rfl, rfl, by decide +kernel, rfl, by decide +kernel, by decide +kernel⟩
abbrev s_digits : Stmt := top 49
abbrev N_digits : List Str := ["_law_bag_here", "_law_k"]
theorem sc_digits : FnScope N_digits ["_law_bag_here"] (defScope s_digits) := ⟨rfl, rfl, rfl, by decide +kernel, rfl, by decide +kernel, by decide +kernel⟩
abbrev s_forms : Stmt := top 50
abbrev N_forms : List Str := ["_law_forms_here"]
theorem sc_forms : FnScope N_forms [] (defScope s_forms) := ⟨rfl, rfl, rfl, by decide +kernel, rfl, by decide +kernel, by decide +kernel⟩
abbrev s_of_kind : Stmt := top 51
abbrev N_of_kind : List Str := ["_law_bag_here", "_law_kind"]
theorem sc_of_kind : FnScope N_of_kind ["_law_bag_here", "_law_kind"] (defScope s_of_kind) := ⟨rfl, rfl, rfl, by decide +kernel, rfl, by decide +kernel, by decide +kernel⟩
abbrev s_l_is_name : Stmt := top 52
abbrev N_l_is_name : List Str := ["_law_thing", "_law_sign"]
theorem sc_l_is_name : FnScope N_l_is_name ["_law_thing"] (defScope s_l_is_name) := ⟨rfl, rfl, rfl, by decide +kernel, rfl, by decide +kernel, by decide +kernel⟩
abbrev s_fits : Stmt := top 53
abbrev N_fits : List Str := ["_law_kind", "_law_thing", "_law_name", "_law_sign"]
theorem sc_fits : FnScope N_fits ["_law_kind", "_law_thing"] (defScope s_fits) := ⟨rfl, rfl, rfl, by decide +kernel, rfl, by decide +kernel, by decide +kernel⟩
abbrev s_due : Stmt := top 54
abbrev N_due : List Str := ["_law_thing", "_law_form", "_law_k", "_law_kind"]
theorem sc_due : FnScope N_due ["_law_thing"] (defScope s_due) := ⟨rfl, rfl, rfl, by decide +kernel, rfl, by decide +kernel, by decide +kernel⟩
abbrev s_odd : Stmt := top 55
abbrev N_odd : List Str := ["_law_bag_here", "_law_some"]
theorem sc_odd : FnScope N_odd ["_law_bag_here"] (defScope s_odd) := ⟨rfl, rfl, rfl, by decide +kernel, rfl, by decide +kernel, by decide +kernel⟩
abbrev s_law : Stmt := top 56
abbrev N_law : List Str := ["_law_script", "_law_k", "_law_bag_here", "_law_word_here", "_law_form", "_law_deed", "_law_at", "_law_odd_here", "_law_things", "_law_thing", "_law_found", "_law_kind"]
theorem sc_law : FnScope N_law ["_law_script"] (defScope s_law) := ⟨rfl, rfl, rfl, by decide +kernel, rfl, by decide +kernel, by decide +kernel⟩
abbrev s_Rights___init__ : Stmt := inCls (top 21) 0
abbrev N_Rights___init__ : List Str := ["self", "letters"]
theorem sc_Rights___init__ : FnScope N_Rights___init__ ["self", "letters"] (defScope s_Rights___init__) := ⟨rfl, rfl, rfl, by decide +kernel, rfl, by decide +kernel, by decide +kernel⟩
abbrev s_Rights_of : Stmt := inCls (top 21) 1
abbrev N_Rights_of : List Str := ["cls", "parts", "whole", "part"]
theorem sc_Rights_of : FnScope N_Rights_of ["cls", "parts"] (defScope s_Rights_of) := ⟨rfl, rfl, rfl, by decide +kernel, rfl, by decide +kernel, by decide +kernel⟩
abbrev s_Rights_from_digit : Stmt := inCls (top 21) 2
abbrev N_Rights_from_digit : List Str := ["cls", "digit"]
theorem sc_Rights_from_digit : FnScope N_Rights_from_digit ["cls", "digit"] (defScope s_Rights_from_digit) := ⟨rfl, rfl, rfl, by decide +kernel, rfl, by decide +kernel, by decide +kernel⟩
abbrev s_Rights_digit : Stmt := inCls (top 21) 3
abbrev N_Rights_digit : List Str := ["self"]
theorem sc_Rights_digit : FnScope N_Rights_digit ["self"] (defScope s_Rights_digit) := ⟨rfl, rfl, rfl, by decide +kernel, rfl, by decide +kernel, by decide +kernel⟩
abbrev s_Rights_listed : Stmt := inCls (top 21) 4
abbrev N_Rights_listed : List Str := ["self"]
theorem sc_Rights_listed : FnScope N_Rights_listed ["self"] (defScope s_Rights_listed) := ⟨rfl, rfl, rfl, by decide +kernel, rfl, by decide +kernel, by decide +kernel⟩
abbrev s_Rights_covers : Stmt := inCls (top 21) 5
abbrev N_Rights_covers : List Str := ["self", "other"]
theorem sc_Rights_covers : FnScope N_Rights_covers ["self", "other"] (defScope s_Rights_covers) := ⟨rfl, rfl, rfl, by decide +kernel, rfl, by decide +kernel, by decide +kernel⟩
abbrev s_Rights___or__ : Stmt := inCls (top 21) 6
abbrev N_Rights___or__ : List Str := ["self", "other"]
theorem sc_Rights___or__ : FnScope N_Rights___or__ ["self", "other"] (defScope s_Rights___or__) := ⟨rfl, rfl, rfl, by decide +kernel, rfl, by decide +kernel, by decide +kernel⟩
abbrev s_Rights___and__ : Stmt := inCls (top 21) 7
abbrev N_Rights___and__ : List Str := ["self", "other"]
theorem sc_Rights___and__ : FnScope N_Rights___and__ ["self", "other"] (defScope s_Rights___and__) := ⟨rfl, rfl, rfl, by decide +kernel, rfl, by decide +kernel, by decide +kernel⟩
abbrev s_Rights___sub__ : Stmt := inCls (top 21) 8
abbrev N_Rights___sub__ : List Str := ["self", "other"]
theorem sc_Rights___sub__ : FnScope N_Rights___sub__ ["self", "other"] (defScope s_Rights___sub__) := ⟨rfl, rfl, rfl, by decide +kernel, rfl, by decide +kernel, by decide +kernel⟩
abbrev s_Rights___xor__ : Stmt := inCls (top 21) 9
abbrev N_Rights___xor__ : List Str := ["self", "other"]
theorem sc_Rights___xor__ : FnScope N_Rights___xor__ ["self", "other"] (defScope s_Rights___xor__) := ⟨rfl, rfl, rfl, by decide +kernel, rfl, by decide +kernel, by decide +kernel⟩
abbrev s_Rights___invert__ : Stmt := inCls (top 21) 10
abbrev N_Rights___invert__ : List Str := ["self"]
theorem sc_Rights___invert__ : FnScope N_Rights___invert__ ["self"] (defScope s_Rights___invert__) := ⟨rfl, rfl, rfl, by decide +kernel, rfl, by decide +kernel, by decide +kernel⟩
abbrev s_Rights___eq__ : Stmt := inCls (top 21) 11
abbrev N_Rights___eq__ : List Str := ["self", "other"]
theorem sc_Rights___eq__ : FnScope N_Rights___eq__ ["self", "other"] (defScope s_Rights___eq__) := ⟨rfl, rfl, rfl, by decide +kernel, rfl, by decide +kernel, by decide +kernel⟩
abbrev s_Rights___contains__ : Stmt := inCls (top 21) 12
abbrev N_Rights___contains__ : List Str := ["self", "value"]
theorem sc_Rights___contains__ : FnScope N_Rights___contains__ ["self", "value"] (defScope s_Rights___contains__) := ⟨rfl, rfl, rfl, by decide +kernel, rfl, by decide +kernel, by decide +kernel⟩
abbrev s_Rights___len__ : Stmt := inCls (top 21) 13
abbrev N_Rights___len__ : List Str := ["self"]
theorem sc_Rights___len__ : FnScope N_Rights___len__ ["self"] (defScope s_Rights___len__) := ⟨rfl, rfl, rfl, by decide +kernel, rfl, by decide +kernel, by decide +kernel⟩
abbrev s_Rights___bool__ : Stmt := inCls (top 21) 14
abbrev N_Rights___bool__ : List Str := ["self"]
theorem sc_Rights___bool__ : FnScope N_Rights___bool__ ["self"] (defScope s_Rights___bool__) := ⟨rfl, rfl, rfl, by decide +kernel, rfl, by decide +kernel, by decide +kernel⟩
abbrev s_Rights___str__ : Stmt := inCls (top 21) 15
abbrev N_Rights___str__ : List Str := ["self", "letter"]
theorem sc_Rights___str__ : FnScope N_Rights___str__ ["self"] (defScope s_Rights___str__) := ⟨rfl, rfl, rfl, by decide +kernel, rfl, by decide +kernel, by decide +kernel⟩
abbrev s_Rights___repr__ : Stmt := inCls (top 21) 16
abbrev N_Rights___repr__ : List Str := ["self"]
theorem sc_Rights___repr__ : FnScope N_Rights___repr__ ["self"] (defScope s_Rights___repr__) := ⟨rfl, rfl, rfl, by decide +kernel, rfl, by decide +kernel, by decide +kernel⟩
abbrev s_AccessList___init__ : Stmt := inCls (top 30) 0
abbrev N_AccessList___init__ : List Str := ["self", "owner", "group", "other", "users", "groups", "mask"]
theorem sc_AccessList___init__ : FnScope N_AccessList___init__ ["self", "owner", "group", "other", "users", "groups", "mask"] (defScope s_AccessList___init__) := ⟨rfl, rfl, rfl, by decide +kernel, rfl, by decide +kernel, by decide +kernel⟩
abbrev s_AccessList__first_mask : Stmt := inCls (top 30) 1
abbrev N_AccessList__first_mask : List Str := ["self", "named"]
theorem sc_AccessList__first_mask : FnScope N_AccessList__first_mask ["self"] (defScope s_AccessList__first_mask) := ⟨rfl, rfl, rfl, by decide +kernel, rfl, by decide +kernel, by decide +kernel⟩
abbrev s_AccessList_plain : Stmt := inCls (top 30) 2
abbrev N_AccessList_plain : List Str := ["cls", "digits", "owner", "group", "other"]
theorem sc_AccessList_plain : FnScope N_AccessList_plain ["cls", "digits"] (defScope s_AccessList_plain) := ⟨rfl, rfl, rfl, by decide +kernel, rfl, by decide +kernel, by decide +kernel⟩
abbrev s_AccessList_everything : Stmt := inCls (top 30) 3
abbrev N_AccessList_everything : List Str := []
theorem sc_AccessList_everything : FnScope N_AccessList_everything [] (defScope s_AccessList_everything) := ⟨rfl, rfl, rfl, by decide +kernel, rfl, by decide +kernel, by decide +kernel⟩
abbrev s_AccessList_from_text : Stmt := inCls (top 30) 4
abbrev N_AccessList_from_text : List Str := ["cls", "text"]
theorem sc_AccessList_from_text : FnScope N_AccessList_from_text ["cls", "text"] (defScope s_AccessList_from_text) := ⟨rfl, rfl, rfl, by decide +kernel, rfl, by decide +kernel, by decide +kernel⟩
abbrev s_AccessList_owner : Stmt := inCls (top 30) 5
abbrev N_AccessList_owner : List Str := ["self"]
theorem sc_AccessList_owner : FnScope N_AccessList_owner ["self"] (defScope s_AccessList_owner) := ⟨rfl, rfl, rfl, by decide +kernel, rfl, by decide +kernel, by decide +kernel⟩
abbrev s_AccessList_group : Stmt := inCls (top 30) 6
abbrev N_AccessList_group : List Str := ["self"]
theorem sc_AccessList_group : FnScope N_AccessList_group ["self"] (defScope s_AccessList_group) := ⟨rfl, rfl, rfl, by decide +kernel, rfl, by decide +kernel, by decide +kernel⟩
abbrev s_AccessList_other : Stmt := inCls (top 30) 7
abbrev N_AccessList_other : List Str := ["self"]
theorem sc_AccessList_other : FnScope N_AccessList_other ["self"] (defScope s_AccessList_other) := ⟨rfl, rfl, rfl, by decide +kernel, rfl, by decide +kernel, by decide +kernel⟩
abbrev s_AccessList_mask : Stmt := inCls (top 30) 8
abbrev N_AccessList_mask : List Str := ["self"]
theorem sc_AccessList_mask : FnScope N_AccessList_mask ["self"] (defScope s_AccessList_mask) := ⟨rfl, rfl, rfl, by decide +kernel, rfl, by decide +kernel, by decide +kernel⟩
abbrev s_AccessList_digits : Stmt := inCls (top 30) 9
abbrev N_AccessList_digits : List Str := ["self"]
theorem sc_AccessList_digits : FnScope N_AccessList_digits ["self"] (defScope s_AccessList_digits) := ⟨rfl, rfl, rfl, by decide +kernel, rfl, by decide +kernel, by decide +kernel⟩
abbrev s_AccessList__middle : Stmt := inCls (top 30) 10
abbrev N_AccessList__middle : List Str := ["self"]
theorem sc_AccessList__middle : FnScope N_AccessList__middle ["self"] (defScope s_AccessList__middle) := ⟨rfl, rfl, rfl, by decide +kernel, rfl, by decide +kernel, by decide +kernel⟩
abbrev s_AccessList_users : Stmt := inCls (top 30) 11
abbrev N_AccessList_users : List Str := ["self"]
theorem sc_AccessList_users : FnScope N_AccessList_users ["self"] (defScope s_AccessList_users) := ⟨rfl, rfl, rfl, by decide +kernel, rfl, by decide +kernel, by decide +kernel⟩
abbrev s_AccessList_groups : Stmt := inCls (top 30) 12
abbrev N_AccessList_groups : List Str := ["self"]
theorem sc_AccessList_groups : FnScope N_AccessList_groups ["self"] (defScope s_AccessList_groups) := ⟨rfl, rfl, rfl, by decide +kernel, rfl, by decide +kernel, by decide +kernel⟩
abbrev s_AccessList_entries : Stmt := inCls (top 30) 13
abbrev N_AccessList_entries : List Str := ["self", "masks", "name"]
theorem sc_AccessList_entries : FnScope N_AccessList_entries ["self"] (defScope s_AccessList_entries) := ⟨rfl, rfl, rfl, by decide +kernel, rfl, by decide +kernel, by decide +kernel⟩
abbrev s_AccessList_with_entry : Stmt := inCls (top 30) 14
abbrev N_AccessList_with_entry : List Str := ["self", "kind", "rights", "name"]
theorem sc_AccessList_with_entry : FnScope N_AccessList_with_entry ["self", "kind", "rights", "name"] (defScope s_AccessList_with_entry) := ⟨rfl, rfl, rfl, by decide +kernel, rfl, by decide +kernel, by decide +kernel⟩
abbrev s_AccessList_without : Stmt := inCls (top 30) 15
abbrev N_AccessList_without : List Str := ["self", "kind", "name", "entries", "kinds"]
theorem sc_AccessList_without : FnScope N_AccessList_without ["self", "kind", "name"] (defScope s_AccessList_without) := ⟨rfl, rfl, rfl, by decide +kernel, rfl, by decide +kernel, by decide +kernel⟩
abbrev s_AccessList_with_digits : Stmt := inCls (top 30) 16
abbrev N_AccessList_with_digits : List Str := ["self", "digits"]
theorem sc_AccessList_with_digits : FnScope N_AccessList_with_digits ["self", "digits"] (defScope s_AccessList_with_digits) := ⟨rfl, rfl, rfl, by decide +kernel, rfl, by decide +kernel, by decide +kernel⟩
abbrev s_AccessList_narrowed : Stmt := inCls (top 30) 17
abbrev N_AccessList_narrowed : List Str := ["self", "digits"]
theorem sc_AccessList_narrowed : FnScope N_AccessList_narrowed ["self", "digits"] (defScope s_AccessList_narrowed) := ⟨rfl, rfl, rfl, by decide +kernel, rfl, by decide +kernel, by decide +kernel⟩
abbrev s_AccessList__with_three : Stmt := inCls (top 30) 18
abbrev N_AccessList__with_three : List Str := ["self", "owner", "middle", "other"]
theorem sc_AccessList__with_three : FnScope N_AccessList__with_three ["self", "owner", "middle", "other"] (defScope s_AccessList__with_three) := ⟨rfl, rfl, rfl, by decide +kernel, rfl, by decide +kernel, by decide +kernel⟩
abbrev s_AccessList__by_entry : Stmt := inCls (top 30) 19
abbrev N_AccessList__by_entry : List Str := ["self", "kind", "name", "rights"]
theorem sc_AccessList__by_entry : FnScope N_AccessList__by_entry ["self"] (defScope s_AccessList__by_entry) := ⟨rfl, rfl, rfl, by decide +kernel, rfl, by decide +kernel, by decide +kernel⟩
abbrev s_AccessList___eq__ : Stmt := inCls (top 30) 20
abbrev N_AccessList___eq__ : List Str := ["self", "other"]
theorem sc_AccessList___eq__ : FnScope N_AccessList___eq__ ["self", "other"] (defScope s_AccessList___eq__) := ⟨rfl, rfl, rfl, by decide +kernel, rfl, by decide +kernel, by decide +kernel⟩
abbrev s_AccessList___len__ : Stmt := inCls (top 30) 21
abbrev N_AccessList___len__ : List Str := ["self"]
theorem sc_AccessList___len__ : FnScope N_AccessList___len__ ["self"] (defScope s_AccessList___len__) := ⟨rfl, rfl, rfl, by decide +kernel, rfl, by decide +kernel, by decide +kernel⟩
abbrev s_AccessList___str__ : Stmt := inCls (top 30) 22
abbrev N_AccessList___str__ : List Str := ["self", "kind", "name", "rights"]
theorem sc_AccessList___str__ : FnScope N_AccessList___str__ ["self"] (defScope s_AccessList___str__) := ⟨rfl, rfl, rfl, by decide +kernel, rfl, by decide +kernel, by decide +kernel⟩
abbrev s_AccessList___repr__ : Stmt := inCls (top 30) 23
abbrev N_AccessList___repr__ : List Str := ["self"]
theorem sc_AccessList___repr__ : FnScope N_AccessList___repr__ ["self"] (defScope s_AccessList___repr__) := ⟨rfl, rfl, rfl, by decide +kernel, rfl, by decide +kernel, by decide +kernel⟩
structure Ads where
  f_is_integer : Addr
  d_is_integer : FuncData
  f_is_name : Addr
  d_is_name : FuncData
  f_is_user_name : Addr
  d_is_user_name : FuncData
  f_is_path : Addr
  d_is_path : FuncData
  f_as_rights : Addr
  d_as_rights : FuncData
  f__is_letters : Addr
  d__is_letters : FuncData
  f_is_digits : Addr
  d_is_digits : FuncData
  f__three_rights : Addr
  d__three_rights : FuncData
  f__named_rights : Addr
  d__named_rights : FuncData
  f_is_deed : Addr
  d_is_deed : FuncData
  f_are_parts : Addr
  d_are_parts : FuncData
  f__is_part : Addr
  d__is_part : FuncData
  f_cell : Addr
  d_cell : FuncData
  f_bag : Addr
  d_bag : FuncData
  f_take : Addr
  d_take : FuncData
  f_word : Addr
  d_word : FuncData
  f_path : Addr
  d_path : FuncData
  f_digits : Addr
  d_digits : FuncData
  f_forms : Addr
  d_forms : FuncData
  f_of_kind : Addr
  d_of_kind : FuncData
  f_l_is_name : Addr
  d_l_is_name : FuncData
  f_fits : Addr
  d_fits : FuncData
  f_due : Addr
  d_due : FuncData
  f_odd : Addr
  d_odd : FuncData
  f_law : Addr
  d_law : FuncData
  f_Rights___init__ : Addr
  d_Rights___init__ : FuncData
  f_Rights_from_digit : Addr
  d_Rights_from_digit : FuncData
  P_Rights_from_digit : Addr
  f_AccessList___init__ : Addr
  d_AccessList___init__ : FuncData
  f_AccessList__first_mask : Addr
  d_AccessList__first_mask : FuncData
  f_AccessList_plain : Addr
  d_AccessList_plain : FuncData
  P_AccessList_plain : Addr
  C_Rights : Addr
  C_AccessList : Addr
  K_DIGITS : Addr
  K_WORDS : Addr
  K_PARTS : Addr
structure Txt (w : World) (K : PySem.W.Frag) (mg : Str → Option Value) (A : Ads) : Prop where
  F_is_integer : Fun K "is_integer" "is_integer" s_is_integer A.f_is_integer A.d_is_integer
  B_is_integer : Binds K A.d_is_integer ["value", "low", "high"] []
  g_is_integer : mg "is_integer" = some (.ref A.f_is_integer)
  F_is_name : Fun K "is_name" "is_name" s_is_name A.f_is_name A.d_is_name
  B_is_name : Binds K A.d_is_name ["value"] []
  g_is_name : mg "is_name" = some (.ref A.f_is_name)
  F_is_user_name : Fun K "is_user_name" "is_user_name" s_is_user_name A.f_is_user_name A.d_is_user_name
  B_is_user_name : Binds K A.d_is_user_name ["value"] []
  g_is_user_name : mg "is_user_name" = some (.ref A.f_is_user_name)
  F_is_path : Fun K "is_path" "is_path" s_is_path A.f_is_path A.d_is_path
  B_is_path : Binds K A.d_is_path ["value"] []
  g_is_path : mg "is_path" = some (.ref A.f_is_path)
  F_as_rights : Fun K "as_rights" "as_rights" s_as_rights A.f_as_rights A.d_as_rights
  B_as_rights : Binds K A.d_as_rights ["value"] []
  g_as_rights : mg "as_rights" = some (.ref A.f_as_rights)
  F__is_letters : Fun K "_is_letters" "_is_letters" s__is_letters A.f__is_letters A.d__is_letters
  B__is_letters : Binds K A.d__is_letters ["value"] []
  g__is_letters : mg "_is_letters" = some (.ref A.f__is_letters)
  F_is_digits : Fun K "is_digits" "is_digits" s_is_digits A.f_is_digits A.d_is_digits
  B_is_digits : Binds K A.d_is_digits ["value"] []
  g_is_digits : mg "is_digits" = some (.ref A.f_is_digits)
  F__three_rights : Fun K "_three_rights" "_three_rights" s__three_rights A.f__three_rights A.d__three_rights
  B__three_rights : Binds K A.d__three_rights ["digits"] []
  g__three_rights : mg "_three_rights" = some (.ref A.f__three_rights)
  F__named_rights : Fun K "_named_rights" "_named_rights" s__named_rights A.f__named_rights A.d__named_rights
  B__named_rights : Binds K A.d__named_rights ["value"] []
  g__named_rights : mg "_named_rights" = some (.ref A.f__named_rights)
  F_is_deed : Fun K "is_deed" "is_deed" s_is_deed A.f_is_deed A.d_is_deed
  B_is_deed : Binds K A.d_is_deed ["value"] []
  g_is_deed : mg "is_deed" = some (.ref A.f_is_deed)
  F_are_parts : Fun K "are_parts" "are_parts" s_are_parts A.f_are_parts A.d_are_parts
  B_are_parts : Binds K A.d_are_parts ["kinds", "values"] []
  g_are_parts : mg "are_parts" = some (.ref A.f_are_parts)
  F__is_part : Fun K "_is_part" "_is_part" s__is_part A.f__is_part A.d__is_part
  B__is_part : Binds K A.d__is_part ["kind", "value"] []
  g__is_part : mg "_is_part" = some (.ref A.f__is_part)
  F_cell : Fun K "_law_cell" "_law_cell" s_cell A.f_cell A.d_cell
  B_cell : Binds K A.d_cell ["_law_script", "_law_k"] []
  g_cell : mg "_law_cell" = some (.ref A.f_cell)
  F_bag : Fun K "_law_bag" "_law_bag" s_bag A.f_bag A.d_bag
  B_bag : Binds K A.d_bag ["_law_number"] []
  g_bag : mg "_law_bag" = some (.ref A.f_bag)
  F_take : Fun K "_law_take" "_law_take" s_take A.f_take A.d_take
  B_take : Binds K A.d_take ["_law_bag_here", "_law_count"] []
  g_take : mg "_law_take" = some (.ref A.f_take)
  F_word : Fun K "_law_word" "_law_word" s_word A.f_word A.d_word
  B_word : Binds K A.d_word ["_law_bag_here"] []
  g_word : mg "_law_word" = some (.ref A.f_word)
  F_path : Fun K "_law_path" "_law_path" s_path A.f_path A.d_path
  B_path : Binds K A.d_path ["_law_bag_here"] []
  g_path : mg "_law_path" = some (.ref A.f_path)
  F_digits : Fun K "_law_digits" "_law_digits" s_digits A.f_digits A.d_digits
  B_digits : Binds K A.d_digits ["_law_bag_here"] []
  g_digits : mg "_law_digits" = some (.ref A.f_digits)
  F_forms : Fun K "_law_forms" "_law_forms" s_forms A.f_forms A.d_forms
  B_forms : Binds K A.d_forms [] []
  g_forms : mg "_law_forms" = some (.ref A.f_forms)
  F_of_kind : Fun K "_law_of_kind" "_law_of_kind" s_of_kind A.f_of_kind A.d_of_kind
  B_of_kind : Binds K A.d_of_kind ["_law_bag_here", "_law_kind"] []
  g_of_kind : mg "_law_of_kind" = some (.ref A.f_of_kind)
  F_l_is_name : Fun K "_law_is_name" "_law_is_name" s_l_is_name A.f_l_is_name A.d_l_is_name
  B_l_is_name : Binds K A.d_l_is_name ["_law_thing"] []
  g_l_is_name : mg "_law_is_name" = some (.ref A.f_l_is_name)
  F_fits : Fun K "_law_fits" "_law_fits" s_fits A.f_fits A.d_fits
  B_fits : Binds K A.d_fits ["_law_kind", "_law_thing"] []
  g_fits : mg "_law_fits" = some (.ref A.f_fits)
  F_due : Fun K "_law_due" "_law_due" s_due A.f_due A.d_due
  B_due : Binds K A.d_due ["_law_thing"] []
  g_due : mg "_law_due" = some (.ref A.f_due)
  F_odd : Fun K "_law_odd" "_law_odd" s_odd A.f_odd A.d_odd
  B_odd : Binds K A.d_odd ["_law_bag_here"] []
  g_odd : mg "_law_odd" = some (.ref A.f_odd)
  F_law : Fun K "law" "law" s_law A.f_law A.d_law
  B_law : Binds K A.d_law ["_law_script"] []
  g_law : mg "law" = some (.ref A.f_law)
  F_Rights___init__ : FunD K "__init__" "Rights.__init__" (defArgs s_Rights___init__) (defBody s_Rights___init__) (defScope s_Rights___init__) [.str ""] [] A.f_Rights___init__ A.d_Rights___init__
  me_Rights___init__ : Meth K A.C_Rights "__init__" A.f_Rights___init__
  F_Rights_from_digit : Fun K "from_digit" "Rights.from_digit" s_Rights_from_digit A.f_Rights_from_digit A.d_Rights_from_digit
  B_Rights_from_digit : Binds K A.d_Rights_from_digit ["cls", "digit"] []
  cm_Rights_from_digit : ClX.CMet K A.C_Rights (.type "type") "from_digit" A.P_Rights_from_digit A.f_Rights_from_digit
  F_AccessList___init__ : FunD K "__init__" "AccessList.__init__" (defArgs s_AccessList___init__) (defBody s_AccessList___init__) (defScope s_AccessList___init__) [] [("users", .non), ("groups", .non), ("mask", .non)] A.f_AccessList___init__ A.d_AccessList___init__
  me_AccessList___init__ : Meth K A.C_AccessList "__init__" A.f_AccessList___init__
  F_AccessList__first_mask : Fun K "_first_mask" "AccessList._first_mask" s_AccessList__first_mask A.f_AccessList__first_mask A.d_AccessList__first_mask
  B_AccessList__first_mask : Binds K A.d_AccessList__first_mask ["self"] []
  me_AccessList__first_mask : Meth K A.C_AccessList "_first_mask" A.f_AccessList__first_mask
  F_AccessList_plain : Fun K "plain" "AccessList.plain" s_AccessList_plain A.f_AccessList_plain A.d_AccessList_plain
  B_AccessList_plain : Binds K A.d_AccessList_plain ["cls", "digits"] []
  cm_AccessList_plain : ClX.CMet K A.C_AccessList (.type "type") "plain" A.P_AccessList_plain A.f_AccessList_plain
  gC_Rights : mg "Rights" = some (.ref A.C_Rights)
  c_Rights : ∃ u, mg "Rights" = some u ∧ RelV (.ref A.C_Rights) u
  cl_Rights : Cls K A.C_Rights
  mk_Rights : Mk K A.C_Rights A.f_Rights___init__
  cr_Rights : ClX.CRead K A.C_Rights (.type "type")
  in_Rights : C8.InsC K A.C_Rights
  sf_Rights : PySem.W.selfFirst K A.C_Rights = true
  cd_Rights : ∃ cd, PySem.W.clsIn K A.C_Rights = some cd ∧ cd.mro = [.ref A.C_Rights, .type "object"]
  ne_Rights : PySem.W.findIn K (.ref A.C_Rights) "__ne__" = some (some (.builtin "object.__ne__"))
  na_Rights__digit : NoAttr K A.C_Rights "_digit"
  nf_Rights_str : PySem.W.notFirst K A.C_Rights (.type "str") = true
  kt_Rights_str : PySem.W.kitOne K (.type "str") (.ref A.C_Rights) = some false
  ki_Rights_str : PySem.W.kitOne K (.ref A.C_Rights) (.type "str") = some false
  gC_AccessList : mg "AccessList" = some (.ref A.C_AccessList)
  c_AccessList : ∃ u, mg "AccessList" = some u ∧ RelV (.ref A.C_AccessList) u
  cl_AccessList : Cls K A.C_AccessList
  mk_AccessList : Mk K A.C_AccessList A.f_AccessList___init__
  cr_AccessList : ClX.CRead K A.C_AccessList (.type "type")
  in_AccessList : C8.InsC K A.C_AccessList
  sf_AccessList : PySem.W.selfFirst K A.C_AccessList = true
  cd_AccessList : ∃ cd, PySem.W.clsIn K A.C_AccessList = some cd ∧ cd.mro = [.ref A.C_AccessList, .type "object"]
  ne_AccessList : PySem.W.findIn K (.ref A.C_AccessList) "__ne__" = some (some (.builtin "object.__ne__"))
  na_AccessList__owner : NoAttr K A.C_AccessList "_owner"
  na_AccessList__group : NoAttr K A.C_AccessList "_group"
  na_AccessList__other : NoAttr K A.C_AccessList "_other"
  na_AccessList__users : NoAttr K A.C_AccessList "_users"
  na_AccessList__groups : NoAttr K A.C_AccessList "_groups"
  na_AccessList__mask : NoAttr K A.C_AccessList "_mask"
  nf_AccessList_str : PySem.W.notFirst K A.C_AccessList (.type "str") = true
  kt_AccessList_str : PySem.W.kitOne K (.type "str") (.ref A.C_AccessList) = some false
  nf_AccessList_int : PySem.W.notFirst K A.C_AccessList (.type "int") = true
  kt_AccessList_int : PySem.W.kitOne K (.type "int") (.ref A.C_AccessList) = some false
  nf_AccessList_bool : PySem.W.notFirst K A.C_AccessList (.type "bool") = true
  kt_AccessList_bool : PySem.W.kitOne K (.type "bool") (.ref A.C_AccessList) = some false
  nf_AccessList_NoneType : PySem.W.notFirst K A.C_AccessList (.type "NoneType") = true
  kt_AccessList_NoneType : PySem.W.kitOne K (.type "NoneType") (.ref A.C_AccessList) = some false
  nf_AccessList_list : PySem.W.notFirst K A.C_AccessList (.type "list") = true
  kt_AccessList_list : PySem.W.kitOne K (.type "list") (.ref A.C_AccessList) = some false
  nf_AccessList_tuple : PySem.W.notFirst K A.C_AccessList (.type "tuple") = true
  kt_AccessList_tuple : PySem.W.kitOne K (.type "tuple") (.ref A.C_AccessList) = some false
  nf_AccessList_dict : PySem.W.notFirst K A.C_AccessList (.type "dict") = true
  kt_AccessList_dict : PySem.W.kitOne K (.type "dict") (.ref A.C_AccessList) = some false
  ki_AccessList_str : PySem.W.kitOne K (.ref A.C_AccessList) (.type "str") = some false
  ki_AccessList_bool : PySem.W.kitOne K (.ref A.C_AccessList) (.type "bool") = some false
  ki_AccessList_tuple : PySem.W.kitOne K (.ref A.C_AccessList) (.type "tuple") = some false
  ki_AccessList_int : PySem.W.kitOne K (.ref A.C_AccessList) (.type "int") = some false
  c_LONGEST_NAME : ∃ u, mg "LONGEST_NAME" = some u ∧ RelV (.int 8) u
  c_ALL_DIGIT : ∃ u, mg "ALL_DIGIT" = some u ∧ RelV (.int 7) u
  c_DIGITS : ∃ u, mg "DIGITS" = some u ∧ RelV (.ref A.K_DIGITS) u
  kd_DIGITS : ∃ es n, KDict K w A.K_DIGITS es n
  at_DIGITS_ : KDct K w A.K_DIGITS "" (.int 0)
  at_DIGITS_x : KDct K w A.K_DIGITS "x" (.int 1)
  at_DIGITS_w : KDct K w A.K_DIGITS "w" (.int 2)
  at_DIGITS_wx : KDct K w A.K_DIGITS "wx" (.int 3)
  at_DIGITS_xw : KDct K w A.K_DIGITS "xw" (.int 3)
  at_DIGITS_r : KDct K w A.K_DIGITS "r" (.int 4)
  at_DIGITS_rx : KDct K w A.K_DIGITS "rx" (.int 5)
  at_DIGITS_xr : KDct K w A.K_DIGITS "xr" (.int 5)
  at_DIGITS_rw : KDct K w A.K_DIGITS "rw" (.int 6)
  at_DIGITS_wr : KDct K w A.K_DIGITS "wr" (.int 6)
  at_DIGITS_rwx : KDct K w A.K_DIGITS "rwx" (.int 7)
  at_DIGITS_rxw : KDct K w A.K_DIGITS "rxw" (.int 7)
  at_DIGITS_wrx : KDct K w A.K_DIGITS "wrx" (.int 7)
  at_DIGITS_wxr : KDct K w A.K_DIGITS "wxr" (.int 7)
  at_DIGITS_xrw : KDct K w A.K_DIGITS "xrw" (.int 7)
  at_DIGITS_xwr : KDct K w A.K_DIGITS "xwr" (.int 7)
  c_WORDS : ∃ u, mg "WORDS" = some u ∧ RelV (.ref A.K_WORDS) u
  tu_WORDS : ∃ o its n, List.lookup A.K_WORDS K = some o ∧ o.cls = .type "tuple" ∧ o.data = .seq its n ∧ its.size ≤ sizeLine ∧ Vals [.str "", .str "x", .str "w", .str "wx", .str "r", .str "rx", .str "rw", .str "rwx"] its.toList
  c_MOST_NAMED : ∃ u, mg "MOST_NAMED" = some u ∧ RelV (.int 6) u
  c_PARTS : ∃ u, mg "PARTS" = some u ∧ RelV (.ref A.K_PARTS) u
  kd_PARTS : ∃ es n, KDict K w A.K_PARTS es n
  ms_PARTS : ∀ z : Str, z ∉ (["read", "write", "file", "folder", "move", "remove", "allow", "default", "mark", "give", "umask"] : List Str) → PySem.W.nsIn K A.K_PARTS z = some none
  at_PARTS_read : ∃ p, KDct K w A.K_PARTS "read" (.ref p) ∧ ∃ o its n, List.lookup p K = some o ∧ o.cls = .type "tuple" ∧ o.data = .seq its n ∧ its.size ≤ sizeLine ∧ Vals [.str "path"] its.toList
  at_PARTS_write : ∃ p, KDct K w A.K_PARTS "write" (.ref p) ∧ ∃ o its n, List.lookup p K = some o ∧ o.cls = .type "tuple" ∧ o.data = .seq its n ∧ its.size ≤ sizeLine ∧ Vals [.str "path", .str "content"] its.toList
  at_PARTS_file : ∃ p, KDct K w A.K_PARTS "file" (.ref p) ∧ ∃ o its n, List.lookup p K = some o ∧ o.cls = .type "tuple" ∧ o.data = .seq its n ∧ its.size ≤ sizeLine ∧ Vals [.str "path", .str "digits"] its.toList
  at_PARTS_folder : ∃ p, KDct K w A.K_PARTS "folder" (.ref p) ∧ ∃ o its n, List.lookup p K = some o ∧ o.cls = .type "tuple" ∧ o.data = .seq its n ∧ its.size ≤ sizeLine ∧ Vals [.str "path", .str "digits"] its.toList
  at_PARTS_move : ∃ p, KDct K w A.K_PARTS "move" (.ref p) ∧ ∃ o its n, List.lookup p K = some o ∧ o.cls = .type "tuple" ∧ o.data = .seq its n ∧ its.size ≤ sizeLine ∧ Vals [.str "path", .str "path"] its.toList
  at_PARTS_remove : ∃ p, KDct K w A.K_PARTS "remove" (.ref p) ∧ ∃ o its n, List.lookup p K = some o ∧ o.cls = .type "tuple" ∧ o.data = .seq its n ∧ its.size ≤ sizeLine ∧ Vals [.str "path"] its.toList
  at_PARTS_allow : ∃ p, KDct K w A.K_PARTS "allow" (.ref p) ∧ ∃ o its n, List.lookup p K = some o ∧ o.cls = .type "tuple" ∧ o.data = .seq its n ∧ its.size ≤ sizeLine ∧ Vals [.str "path", .str "access"] its.toList
  at_PARTS_default : ∃ p, KDct K w A.K_PARTS "default" (.ref p) ∧ ∃ o its n, List.lookup p K = some o ∧ o.cls = .type "tuple" ∧ o.data = .seq its n ∧ its.size ≤ sizeLine ∧ Vals [.str "path", .str "default"] its.toList
  at_PARTS_mark : ∃ p, KDct K w A.K_PARTS "mark" (.ref p) ∧ ∃ o its n, List.lookup p K = some o ∧ o.cls = .type "tuple" ∧ o.data = .seq its n ∧ its.size ≤ sizeLine ∧ Vals [.str "path", .str "mark", .str "mark"] its.toList
  at_PARTS_give : ∃ p, KDct K w A.K_PARTS "give" (.ref p) ∧ ∃ o its n, List.lookup p K = some o ∧ o.cls = .type "tuple" ∧ o.data = .seq its n ∧ its.size ≤ sizeLine ∧ Vals [.str "path", .str "group"] its.toList
  at_PARTS_umask : ∃ p, KDct K w A.K_PARTS "umask" (.ref p) ∧ ∃ o its n, List.lookup p K = some o ∧ o.cls = .type "tuple" ∧ o.data = .seq its n ∧ its.size ≤ sizeLine ∧ Vals [.str "digits"] its.toList
  b_all : mg "all" = none
  b_bool : mg "bool" = none
  b_dict : mg "dict" = none
  b_enumerate : mg "enumerate" = none
  b_int : mg "int" = none
  b_isinstance : mg "isinstance" = none
  b_len : mg "len" = none
  b_list : mg "list" = none
  b_max : mg "max" = none
  b_min : mg "min" = none
  b_range : mg "range" = none
  b_sorted : mg "sorted" = none
  b_str : mg "str" = none
  b_tuple : mg "tuple" = none
  b_zip : mg "zip" = none


end K41
namespace K41
open PySem PySem.Spec PyProof.Rows L2 FR TL
open C8 (pss_cut pe_gc)
open StX (pe_callS2 pa_star)
section
variable {P : Program} {w : World} {K : PySem.W.Frag} {mg : Str → Option Value} {base : Heap} {A : Ads}
set_option pp.maxSteps 120
/-- the letters of a digit -/
def lw (d : Int) : Str := if d = 0 then "" else if d = 1 then "x" else if d = 2 then "w" else if d = 3 then "wx" else if d = 4 then "r" else if d = 5 then "rx" else if d = 6 then "rw" else "rwx"
def bv (k : Str) : Int := if k = "r" then 4 else if k = "w" then 2 else 1
def bit (d : Int) (k : Str) : Bool := Builtin.bitAnd d (bv k) != 0
def keysL : List Str := ["r", "w", "x"]
theorem eight {F : Int → Prop} (h : F 0 ∧ F 1 ∧ F 2 ∧ F 3 ∧ F 4 ∧ F 5 ∧ F 6 ∧ F 7) {d : Int} (d0 : 0 ≤ d) (d1 : d ≤ 7) : F d := by
  have : d = 0 ∨ d = 1 ∨ d = 2 ∨ d = 3 ∨ d = 4 ∨ d = 5 ∨ d = 6 ∨ d = 7 := by omega
  obtain ⟨a0, a1, a2, a3, a4, a5, a6, a7⟩ := h
  rcases this with rfl | rfl | rfl | rfl | rfl | rfl | rfl | rfl <;> assumption
/-- the texts of unlike letters, with their digits -/
def goodT : List (Str × Int) := [("", 0), ("x", 1), ("w", 2), ("wx", 3), ("xw", 3), ("r", 4), ("rx", 5), ("xr", 5), ("rw", 6), ("wr", 6), ("rwx", 7), ("rxw", 7), ("wrx", 7), ("wxr", 7), ("xrw", 7), ("xwr", 7)]
theorem dg_at (T : Txt w K mg A) {t : Str} {d : Int} (h : (t, d) ∈ goodT) : KDct K w A.K_DIGITS t (.int d) := by
  simp only [goodT, List.mem_cons, List.not_mem_nil, or_false, Prod.mk.injEq] at h
  rcases h with ⟨rfl, rfl⟩ | ⟨rfl, rfl⟩ | ⟨rfl, rfl⟩ | ⟨rfl, rfl⟩ | ⟨rfl, rfl⟩ | ⟨rfl, rfl⟩ | ⟨rfl, rfl⟩ | ⟨rfl, rfl⟩ | ⟨rfl, rfl⟩ | ⟨rfl, rfl⟩ | ⟨rfl, rfl⟩ | ⟨rfl, rfl⟩ | ⟨rfl, rfl⟩ | ⟨rfl, rfl⟩ | ⟨rfl, rfl⟩ | ⟨rfl, rfl⟩
  · exact T.at_DIGITS_
  · exact T.at_DIGITS_x
  · exact T.at_DIGITS_w
  · exact T.at_DIGITS_wx
  · exact T.at_DIGITS_xw
  · exact T.at_DIGITS_r
  · exact T.at_DIGITS_rx
  · exact T.at_DIGITS_xr
  · exact T.at_DIGITS_rw
  · exact T.at_DIGITS_wr
  · exact T.at_DIGITS_rwx
  · exact T.at_DIGITS_rxw
  · exact T.at_DIGITS_wrx
  · exact T.at_DIGITS_wxr
  · exact T.at_DIGITS_xrw
  · exact T.at_DIGITS_xwr
theorem dg_in (T : Txt w K mg A) {t : Str} {d : Int} (h : (t, d) ∈ goodT) : ∃ u, PySem.W.nsIn K A.K_DIGITS t = some (some u) := by
  obtain ⟨_, _, u, _, _, hu, _⟩ := dg_at T h
  exact ⟨u, hu⟩
def wordsL : List V := [.str "", .str "x", .str "w", .str "wx", .str "r", .str "rx", .str "rw", .str "rwx"]
theorem wd_at {d : Int} (d0 : 0 ≤ d) (d1 : d ≤ 7) : atI wordsL d = some (.str (lw d)) := by
  have : d = 0 ∨ d = 1 ∨ d = 2 ∨ d = 3 ∨ d = 4 ∨ d = 5 ∨ d = 6 ∨ d = 7 := by omega
  rcases this with rfl | rfl | rfl | rfl | rfl | rfl | rfl | rfl <;> rfl
theorem wd_sq (T : Txt w K mg A) (H : Hp) : SqT K H A.K_WORDS wordsL := .inr T.tu_WORDS
theorem lw_good {d : Int} (d0 : 0 ≤ d) (d1 : d ≤ 7) : (lw d, d) ∈ goodT := eight (F := fun d => (lw d, d) ∈ goodT) (by decide +kernel) d0 d1
theorem good_in {t : Str} {d : Int} (h : (t, d) ∈ goodT) : 0 ≤ d ∧ d ≤ 7 := by
  have : goodT.all (fun p => decide (0 ≤ p.2) && decide (p.2 ≤ 7)) = true := by decide +kernel
  simpa using List.all_eq_true.mp this _ h
/-- a rights object of this digit -/
def RgO (A : Ads) (dx : Addr) (d : Int) : HO := .ins A.C_Rights dx [("_digit", .int d)]
def IsR (A : Ads) (H : Hp) (v : V) (d : Int) : Prop := ∃ a dx, v = .ref a ∧ H a = some (RgO A dx d) ∧ 0 ≤ d ∧ d ≤ 7
theorem ok__is_letters (T : Txt w K mg A) : FnOk P w K mg base CX0 1 A.f__is_letters A.d__is_letters ["value"] (fun vs H Q _ => ∃ t d, vs = [.str t] ∧ (t, d) ∈ goodT ∧ Q (.bl true) H) := by
  refine T.F__is_letters.ok sc__is_letters (fun vs H Q E h => ?_) (fun cdv A_ outer s H vs Q E hr h => ?_)
  · obtain ⟨t, d, rfl, _⟩ := h
    rfl
  · obtain ⟨t, d, rfl, g, q⟩ := h
    refine ⟨_, (pss_one (ps_ret (pe_and (pe_callB call_isi (by rfl) T.b_isinstance (by decide +kernel) (pa_cons (pv 0) (pa_cons (pe_bltn (v := .ty "str") rfl T.b_str (by decide +kernel) rfl) pa_nil))) (pe_one (pe_cmpR (op_inW (K := K) (w := w) rfl rfl T.kd_DIGITS) (pv 0) (pe_gc rfl T.c_DIGITS) rfl))))), ?_⟩
    walk_at "rd"
    obtain ⟨u, hu⟩ := dg_in T g
    exact ⟨_, _, rfl, rfl, hu, q⟩
def spInit (A : Ads) : Sp := fun vs H Q _ => ∃ x dx t d, vs = [.ref x, .str t] ∧ H x = some (.ins A.C_Rights dx []) ∧ (t, d) ∈ goodT ∧ ∀ H1, Keep [x] H H1 → H1 x = some (RgO A dx d) → Q .non H1
theorem ok_Rights___init__ (T : Txt w K mg A) : FnOk P w K mg base CX0 2 A.f_Rights___init__ A.d_Rights___init__ ["self", "letters"] (spInit A) := by
  refine (T.F_Rights___init__.ok (CX := CX0) sc_Rights___init__ (fun vs H Q E h => ?_) (fun cdv A_ outer s H vs Q E hr h => ?_))
  · obtain ⟨x, dx, t, d, rfl, _⟩ := h
    rfl
  · obtain ⟨x, dx, t, d, rfl, hx, g, q⟩ := h
    refine ⟨_, (pss_cons (ps_if (pt_not (pt_val (pe_call (ok__is_letters T) (hr.mono (by decide)) (by rfl) T.g__is_letters T.F__is_letters.kp T.B__is_letters .nil pass0 (pa_cons (pv 1) pa_nil)))) (pss_one ps_never) pss_nil)
  (pss_one (ps_fld (pv 0) (pe_ix (ix_kdictK (K := K) (w := w) rfl rfl) (pe_gc rfl T.c_DIGITS) (pv 1) (fun _ _ => rfl)) rfl))), ?_⟩
    walk_at "rd"
    refine ⟨t, d, rfl, g, ?_⟩
    walk_at "rd"
    refine ⟨_, _, _, rfl, rfl, dg_at T g, ?_⟩
    refine ⟨_, rfl, x, _, dx, _, rfl, hx, T.cl_Rights, T.na_Rights__digit, by decide, ?_⟩
    exact q _ keep_upd upd_same
theorem bd_Rights___init___1 (T : Txt w K mg A) : Vals [] [] ∧ Binds K A.d_Rights___init__ ["self", "letters"] [] := by
  obtain ⟨ds, h1, h2⟩ := T.F_Rights___init__.binds1 (ps := ["self", "letters"]) 2 1 (by simp) rfl fun Tt kV doc pm an cdv ct us its h1 h2 => match us, its, h1, h2 with
    | [_, _], [_], _, _ => ⟨_, rfl, rfl⟩
  cases h1
  exact ⟨.nil, h2⟩
/-- a new rights object of this digit -/
def NewR (A : Ads) (d : Int) (Q : VK) (H : Hp) : Prop := ∀ (x dx : Addr) (H1 : Hp), H x = none → H dx = none → Keep [] H H1 → H1 x = some (RgO A dx d) → Q (.ref x) H1
theorem keep_of_new {H H1 H2 : Hp} {x dx : Addr} {o o' : HO} (k1 : Keep [] H H1) (hx : H1 x = none) (hdx : H1 dx = none) (k2 : Keep [x] (upd (upd H1 dx o) x o') H2) : Keep [] H H2 := fun b u e _ => by
  have e1 := k1 b u e (by simp)
  have n1 : b ≠ dx := ne_of_none e1 hdx
  have n2 : b ≠ x := ne_of_none e1 hx
  refine k2 b u ?_ (by simpa using n2)
  rw [upd_ne n2, upd_ne n1]
  exact e1
theorem ok_is_integer (T : Txt w K mg A) : FnOk P w K mg base CX0 1 A.f_is_integer A.d_is_integer ["value", "low", "high"] (fun vs H Q _ => ∃ i lo hi : Int, vs = [.int i, .int lo, .int hi] ∧ lo ≤ i ∧ i ≤ hi ∧ Q (.bl true) H) := by
  refine T.F_is_integer.ok sc_is_integer (fun vs H Q E h => ?_) (fun cdv A_ outer s H vs Q E hr h => ?_)
  · obtain ⟨i, lo, hi, rfl, _⟩ := h
    rfl
  · obtain ⟨i, lo, hi, rfl, h0, h1, q⟩ := h
    refine ⟨_, (pss_one (ps_ret (pe_and (pe_callB call_isi (by rfl) T.b_isinstance (by decide +kernel) (pa_cons (pv 0) (pa_cons (pe_bltn (v := .ty "int") rfl T.b_int (by decide +kernel) rfl) pa_nil))) (pe_and (pe_not (pe_callB call_isi (by rfl) T.b_isinstance (by decide +kernel) (pa_cons (pv 0) (pa_cons (pe_bltn (v := .ty "bool") rfl T.b_bool (by decide +kernel) rfl) pa_nil)))) (pe_one (pe_chain op_le op_le (pv 1) (pv 0) (pv 2))))))), ?_⟩
    walk_at "rd"
    refine ifT (decide_eq_true h0) ?_
    refine ⟨_, rfl, ?_⟩
    refine ⟨_, _, rfl, rfl, ?_⟩
    show Q (V.bl (decide (i ≤ hi))) H
    rw [show decide (i ≤ hi) = true from decide_eq_true h1]
    exact q
theorem IsR.keep {H H' : Hp} {v : V} {d : Int} (h : IsR A H v d) (k : Keep [] H H') : IsR A H' v d := by
  obtain ⟨a, dx, rfl, ha, r⟩ := h
  exact ⟨a, dx, rfl, k _ _ ha (by simp), r⟩
theorem ok_Rights_from_digit (T : Txt w K mg A) : FnOk P w K mg base CX0 5 A.f_Rights_from_digit A.d_Rights_from_digit ["cls", "digit"] (fun vs H Q _ => ∃ d : Int, vs = [.ref A.C_Rights, .int d] ∧ 0 ≤ d ∧ d ≤ 7 ∧ NewR A d Q H) := by
  refine T.F_Rights_from_digit.ok sc_Rights_from_digit (fun vs H Q E h => ?_) (fun cdv A_ outer s H vs Q E hr h => ?_)
  · obtain ⟨d, rfl, _⟩ := h
    rfl
  · obtain ⟨d, rfl, d0, d1, q⟩ := h
    refine ⟨_, (pss_cons (ps_if (pt_not (pt_val (pe_call (ok_is_integer T) (hr.mono (by decide)) (by rfl) T.g_is_integer T.F_is_integer.kp T.B_is_integer .nil pass0 (pa_cons (pv 1) (pa_cons pe_int (pa_cons (pe_gc rfl T.c_ALL_DIGIT) pa_nil)))))) (pss_one ps_never) pss_nil)
  (pss_one (ps_ret (pe_makeL (pv 0) T.mk_Rights (ok_Rights___init__ T) (hr.mono (by decide)) (bd_Rights___init___1 T).2 (bd_Rights___init___1 T).1 pass0 (pa_cons (pe_ix ix_tup (pe_gc rfl T.c_WORDS) (pv 1) (fun _ _ => rfl)) pa_nil))))), ?_⟩
    walk_at "rd"
    refine ⟨d, 0, 7, rfl, d0, d1, ?_⟩
    refine ⟨_, rfl, ?_⟩
    refine ifF rfl ?_
    refine ⟨rfl, ?_⟩
    refine ⟨_, rfl, _, _, _, _, rfl, rfl, wd_sq T H, wd_at d0 d1, ?_⟩
    intro x dy hx hdy hne
    refine ⟨x, dy, _, _, rfl, upd_same, lw_good d0 d1, fun H2 k2 h2 => ⟨rfl, ?_⟩⟩
    exact q x dy H2 hx hdy (keep_of_new Keep.refl hx hdy k2) h2
theorem ok_as_rights (T : Txt w K mg A) : FnOk P w K mg base CX0 4 A.f_as_rights A.d_as_rights ["value"] (fun vs H Q _ => ∃ v d, vs = [v] ∧ IsR A H v d ∧ Q v H) := by
  refine T.F_as_rights.ok sc_as_rights (fun vs H Q E h => ?_) (fun cdv A_ outer s H vs Q E hr h => ?_)
  · obtain ⟨v, d, rfl, _⟩ := h
    rfl
  · obtain ⟨_, d, rfl, ⟨a, dx, rfl, ha, _⟩, q⟩ := h
    refine ⟨_, (pss_one (ps_ret (pe_ifExp (pt_val (pe_callB (call_isA T.in_Rights) (by rfl) T.b_isinstance (by decide +kernel) (pa_cons (pv 0) (pa_cons (pe_gc rfl T.c_Rights) pa_nil)))) (pv 0) (pe_make T.mk_Rights (ok_Rights___init__ T) (hr.mono (by decide)) (by rfl) T.gC_Rights (bd_Rights___init___1 T).2 (bd_Rights___init___1 T).1 pass0 (pa_cons (pv 0) pa_nil))))), ?_⟩
    walk_at "rd"
    refine .inl ⟨a, dx, _, rfl, ha, ?_⟩
    refine ⟨true, rfl, ?_⟩
    refine ifT rfl ?_
    exact ⟨_, rfl, q⟩
theorem ok_take (T : Txt w K mg A) : FnOk P w K mg base CX0 1 A.f_take A.d_take ["_law_bag_here", "_law_count"] spTake := by
  refine T.F_take.ok sc_take (fun vs H Q E h => ?_) (fun cdv A_ outer s H vs Q E hr h => ?_)
  · obtain ⟨b, k, n, x, y, z, rfl, _⟩ := h
    rfl
  · obtain ⟨b, k, n, x, y, z, rfl, hb, ok, hn, k0, k1, q⟩ := h
    have W := Ow.start1 hb
    have y0 := ok.y0; have y1 := ok.y1; have z0 := ok.z0; have z1 := ok.z1
    refine ⟨_, (pss_cons (ps_if (pt_cmpR op_gt (pe_ix ix_list (pv 0) pe_int (fun _ _ => rfl)) pe_int (nomark _)) (pss_cons (ps_set (i := 2) sc_take.nd rfl (.inl rfl) (pe_op op_mod (pe_ix ix_list (pv 0) pe_int (fun _ _ => rfl)) (pv 1)))
  (pss_cons (ps_asg (pe_op op_fdiv (pe_ix ix_list (pv 0) pe_int (fun _ _ => rfl)) (pv 1)) (pg_sub (pv 0) pe_int set_listN))
  (pss_one (ps_ret (pv 2))))) pss_nil)
  (pss_cons (ps_asg (pe_op op_add (pe_ix ix_list (pv 0) pe_int (fun _ _ => rfl)) pe_int) (pg_sub (pv 0) pe_int set_listN))
  (pss_cons (ps_set (i := 3) sc_take.nd rfl (.inl rfl) (pe_op op_mod (pe_op op_pow (pe_op op_add (pe_op op_add (pe_ix ix_list (pv 0) pe_int (fun _ _ => rfl)) (pe_op op_mul pe_int (pe_ix ix_list (pv 0) pe_int (fun _ _ => rfl)))) pe_int) pe_int) pe_int))
  (pss_cons (ps_set (i := 3) sc_take.nd rfl (.inl rfl) (pe_op op_mod (pe_op op_pow (pe_op op_add (pv 3) (pe_op op_mul pe_int (pe_ix ix_list (pv 0) pe_int (fun _ _ => rfl)))) pe_int) pe_int))
  (pss_one (ps_ret (pe_op op_mod (pe_op op_fdiv (pv 3) pe_int) (pv 1)))))))), ?_⟩
    walk_at "rd"
    refine ite2 (fun c => ?_) (fun c => ?_)
    · have c' : 0 < x := of_decide_eq_true c
      walk_at "rd"
      rename_i H1 kp hp W1
      exact q _ (x / k) y z H1 (Int.emod_nonneg _ (by omega)) (Int.emod_lt_of_pos _ k0) ⟨Int.ediv_nonneg ok.x0 (by omega), y0, y1, z0, by omega⟩ kp hp
    · walk_at "rd"
      rename_i H1 kp hp W1
      exact q _ x y (z + 1) H1 (Int.emod_nonneg _ (by omega)) (Int.emod_lt_of_pos _ k0) ⟨ok.x0, y0, y1, by omega, by omega⟩ kp hp
def spCell (K : PySem.W.Frag) : Sp := fun vs H Q _ => ∃ (a : Addr) (ns : List Int) (k : Int), vs = [.ref a, .int k] ∧ SqL K H a (ns.map V.int) ∧ 0 ≤ k ∧ k < 1000 ∧ ∀ n, Q (.int n) H
theorem ok_cell (T : Txt w K mg A) : FnOk P w K mg base CX0 1 A.f_cell A.d_cell ["_law_script", "_law_k"] (spCell K) := by
  refine T.F_cell.ok sc_cell (fun vs H Q E h => ?_) (fun cdv A_ outer s H vs Q E hr h => ?_)
  · obtain ⟨a, ns, k, rfl, _⟩ := h
    rfl
  · obtain ⟨a, ns, k, rfl, hS, h0, hk, q⟩ := h
    obtain ⟨j, rfl⟩ := Int.eq_ofNat_of_zero_le h0
    refine ⟨_, (pss_cons (ps_if (pt_cmpR op_lt (pv 1) (pe_callB call_len_seq (by rfl) T.b_len PySem.boot_len (pa_cons (pv 0) pa_nil)) (nomark _)) (pss_one (ps_ret (pe_ix ix_list (pv 0) (pv 1) (fun _ _ => rfl)))) pss_nil)
  (pss_one (ps_ret (pe_op op_add (pe_op op_mul pe_int (pv 1)) pe_int)))), ?_⟩
    walk_at "rd"
    refine ifD (fun c => ?_) (fun c => ?_)
    · have c2 : j < ns.length := by rw [List.length_map] at c; omega
      refine ⟨_, rfl, _, rfl, _, _, _, .int ns[j], rfl, rfl, hS, atI_nat (by rw [List.getElem?_map, List.getElem?_eq_getElem c2]; rfl), q _⟩
    · walk_at "rd"
      exact q _
def spBag : Sp := fun vs H Q _ => ∃ n : Int, vs = [.int n] ∧ ∀ x y z, BagOk 0 x y z → NewO (bagO x y z) Q H
theorem ok_bag (T : Txt w K mg A) : FnOk P w K mg base CX0 1 A.f_bag A.d_bag ["_law_number"] spBag := by
  refine T.F_bag.ok sc_bag (fun vs H Q E h => ?_) (fun cdv A_ outer s H vs Q E hr h => ?_)
  · obtain ⟨n, rfl, _⟩ := h
    rfl
  · obtain ⟨n, rfl, q⟩ := h
    have W : Ow H [] H [] := Ow.start0
    refine ⟨_, (pss_one (ps_ret (pe_lstS (pa_cons (pe_callB (call_max2 rfl) (by rfl) T.b_max (by decide +kernel) (pa_cons pe_int (pa_cons (pe_op op_sub (pv 0) (pe_op op_pow pe_int pe_int)) pa_nil))) (pa_cons (pe_op op_mod (pv 0) pe_int) (pa_cons pe_int pa_nil)))))), ?_⟩
    have q' := q (if n - 10 ^ 18 > 0 then n - 10 ^ 18 else 0) (n % 2147483629) 0 ⟨by split <;> omega, Int.emod_nonneg _ (by decide), Int.lt_trans (Int.emod_lt_of_pos _ (by decide)) (by decide), by omega, by omega⟩
    walk_at "rd"
    rename_i p H1 np sp kp hp W1
    exact q'.to p H1 np kp hp
end
end K41
namespace K41
open PySem PySem.Spec PyProof.Rows L2 FR TL
open C8 (pss_cut pe_gc)
open StX (pe_callS2 pa_star)
/-- a word's name: one to eight small letters -/
def nm (s : Str) : Bool := decide (s ≠ Str.ofString "" ∧ s.length ≤ 8) && (tl s).all lc
theorem alpha_lc : ∀ c : Fin 128, Unicode.isAlpha c.1 = true → (Unicode.isUpper c.1 || Unicode.isTitle c.1) = false → lc c.1 = true := by decide +kernel
theorem empty_iff (s : Str) : s = Str.ofString "" ↔ tl s = [] := ⟨fun h => by rw [h]; decide +kernel, fun h => ext_tl (by rw [h]; decide +kernel)⟩
theorem name_eq {s : Str} (a : Asc s) : (Txt.isalpha s && Txt.islower s) = (decide (s ≠ Str.ofString "") && (tl s).all lc) := by
  show ((decide (s.length > 0) && s.cps.all Unicode.isAlpha) && (s.cps.any Unicode.isLower && !s.cps.any fun c => Unicode.isUpper c || Unicode.isTitle c)) = _
  rw [all_tl, any_tl, any_tl, len_tl, show decide (s ≠ Str.ofString "") = decide (tl s ≠ []) from decide_eq_decide.mpr (not_congr (empty_iff s))]
  have ha := a
  unfold Asc at ha
  generalize tl s = l at ha
  rw [Bool.eq_iff_iff]
  simp only [Bool.and_eq_true, decide_eq_true_eq, List.all_eq_true, List.any_eq_true, Bool.not_eq_true', List.any_eq_false]
  constructor
  · rintro ⟨⟨h0, h1⟩, _, h3⟩
    exact ⟨fun e => by subst e; simp at h0, fun c hc => alpha_lc ⟨c, ha c hc⟩ (h1 c hc) (by simpa using h3 c hc)⟩
  · rintro ⟨h0, h1⟩
    refine ⟨⟨List.length_pos_iff.mpr h0, fun c hc => (lc_alpha ⟨c, ha c hc⟩ (h1 c hc)).1⟩, ?_, fun c hc => by have := (lc_alpha ⟨c, ha c hc⟩ (h1 c hc)).2.2; simpa using this⟩
    obtain ⟨c, hc⟩ := List.exists_mem_of_ne_nil _ h0
    exact ⟨c, hc, (lc_alpha ⟨c, ha c hc⟩ (h1 c hc)).2.1⟩
/-- a text, or something else -/
def Thing (K : PySem.W.Frag) (H : Hp) (v : V) (qs : Str → Prop) (qo : Prop) : Prop := (∃ s, v = .str s ∧ s.length ≤ 100000 ∧ Asc s ∧ qs s) ∨ ((∃ t, TyX K H v t ∧ PySem.W.kitOne K t (.type "str") = some false) ∧ qo)
section
variable {P : Program} {w : World} {K : PySem.W.Frag} {mg : Str → Option Value} {base : Heap} {A : Ads}
set_option pp.maxSteps 120
def spName (K : PySem.W.Frag) : Sp := fun vs H Q _ => ∃ v, vs = [v] ∧ Thing K H v (fun s => Q (.bl (nm s)) H) (Q (.bl false) H)
theorem ok_is_name (T : Txt w K mg A) : FnOk P w K mg base CX0 1 A.f_is_name A.d_is_name ["value"] (spName K) := by
  refine T.F_is_name.ok sc_is_name (fun vs H Q E h => ?_) (fun cdv A_ outer s_ H vs Q E hr h => ?_)
  · obtain ⟨v, rfl, _⟩ := h
    rfl
  · obtain ⟨v, rfl, q⟩ := h
    refine ⟨_, (pss_cons (ps_if (PW.pt (pw_or (pt_not (pt_val (pe_callB call_isi (by rfl) T.b_isinstance (by decide +kernel) (pa_cons (pv 0) (pa_cons (pe_bltn (v := .ty "str") rfl T.b_str (by decide +kernel) rfl) pa_nil))))) (pw_or1 (pt_cmpR op_gt (pe_callB call_len_str (by rfl) T.b_len PySem.boot_len (pa_cons (pv 0) pa_nil)) (pe_gc rfl T.c_LONGEST_NAME) (nomark _))))) (pss_one (ps_ret pe_bl)) pss_nil)
  (pss_one (ps_ret (pe_and (pe_bm0 PySem.F.plainAttrs_str PySem.F.slot_str_isascii PySem.F.type_str_isascii mt_isascii (pv 0)) (pe_and (pe_bm0 PySem.F.plainAttrs_str PySem.F.slot_str_isalpha PySem.F.type_str_isalpha mt_isalpha (pv 0)) (pe_one (pe_bm0 PySem.F.plainAttrs_str PySem.F.slot_str_islower PySem.F.type_str_islower mt_islower (pv 0)))))))), ?_⟩
    rcases q with ⟨s, rfl, hl, ha, q⟩ | ⟨⟨t, ty, kt⟩, q⟩
    · have hz : s.length ≤ sizeLine := size_le (by omega)
      have en := name_eq ha
      have ea := isascii_asc ha
      walk_at "rd"
      refine ifD (fun c => ?_) (fun c => ?_)
      · walk_at "rd"
        rw [show nm s = false by unfold nm; rw [decide_eq_false (fun h => by have := h.2; omega)]; rfl] at q
        exact q
      · walk_at "rd"
        have hn : nm s = (Txt.isalpha s && Txt.islower s) := by
          rw [en]
          unfold nm
          by_cases h : s = Str.ofString ""
          · rw [decide_eq_false (fun z => z.1 h), decide_eq_false (fun z => z h)]
          · rw [decide_eq_true ⟨h, by omega⟩, decide_eq_true h]
        rw [hn] at q
        refine ifT ea ?_
        walk_at "rd"
        refine ifB (fun c1 => ?_) (fun c1 => ?_)
        · rw [c1] at q
          walk_at "rd"
          exact q
        · rw [c1] at q
          exact q
    · walk_at "rd"
      refine ⟨_, _, _, _, _, rfl, .ty _, ty, kt, ?_⟩
      walk_at "rd"
      exact q
end
theorem cut_hd (s : Str) : tl (cutS s none (some 1)) = (tl s).take 1 := by
  rw [tl_cutS]
  show ((tl s).drop 0).take (HT.sIx s.length s.length (some ((1 : Nat) : Int)) - 0) = _
  rw [HT.sIx_nat, len_tl]
  cases tl s with
  | nil => simp
  | cons c r => rw [List.length_cons, show min 1 (r.length + 1) = 1 by omega]; rfl
theorem cut_tl (s : Str) : tl (cutS s (some 1) none) = (tl s).drop 1 := by
  rw [tl_cutS]
  show ((tl s).drop (HT.sIx s.length 0 (some ((1 : Nat) : Int)))).take (s.length - HT.sIx s.length 0 (some ((1 : Nat) : Int))) = _
  rw [HT.sIx_nat, len_tl]
  cases tl s with
  | nil => simp
  | cons c r => rw [List.length_cons, show min 1 (r.length + 1) = 1 by omega]; simp
theorem cutV_tl (xs : List V) : cutV xs (some 1) none = xs.drop 1 := by
  show (xs.drop (HT.sIx xs.length 0 (some ((1 : Nat) : Int)))).take (xs.length - HT.sIx xs.length 0 (some ((1 : Nat) : Int))) = _
  rw [HT.sIx_nat]
  cases xs with
  | nil => simp
  | cons c r => rw [List.length_cons, show min 1 (r.length + 1) = 1 by omega]; simp
theorem hd_eq (s : Str) : cutS s none (some 1) = Str.ofString "/" ↔ Txt.startswith s ⟨#[47]⟩ = true := by
  rw [starts_one, slash]
  constructor
  · intro h
    have := congrArg tl h
    rw [cut_hd] at this
    cases e : tl s with
    | nil => rw [e] at this; cases this
    | cons c r =>
      rw [e] at this
      have : c = 47 := (List.cons.inj (show [c] = [47] from this)).1
      rw [this]; rfl
  · intro h
    refine ext_tl ?_
    rw [cut_hd]
    cases e : tl s with
    | nil => rw [e] at h; cases h
    | cons c r =>
      rw [e] at h
      have : c = 47 := by simpa using h
      rw [this]; rfl
theorem split_from {s : Str} (h : Txt.startswith s ⟨#[47]⟩ = true) : (Txt.split s ⟨#[47]⟩).drop 1 = Txt.split (cutS s (some 1) none) ⟨#[47]⟩ := by
  rw [starts_one] at h
  refine map_tl_inj ?_
  rw [List.map_drop, split_tl _ (by decide), split_tl _ (by decide), cut_tl]
  cases e : tl s with
  | nil => rw [e] at h; cases h
  | cons c r =>
    rw [e] at h
    have : c = 47 := by simpa using h
    rw [this, spl_hit (by rw [pre_one]; rfl)]
    rfl
theorem spl_le : ∀ (l acc : List Nat) (c : Nat), ∀ p ∈ spl [c] 0 acc l, p.length ≤ acc.length + l.length
  | [], acc, c, p, hp => by
    rw [spl_nil] at hp
    rw [List.mem_singleton.mp hp]
    exact Nat.le_add_right _ _
  | x :: r, acc, c, p, hp => by
    by_cases e : pre [c] (x :: r) = true
    · rw [spl_hit e] at hp
      rcases List.mem_cons.mp hp with rfl | hp
      · exact Nat.le_add_right _ _
      · have := spl_le r [] c p hp
        rw [List.length_cons]
        have h0 : ([] : List Nat).length = 0 := rfl
        omega
    · rw [spl_miss (by simpa using e)] at hp
      have := spl_le r (acc ++ [x]) c p hp
      rw [List.length_append] at this
      rw [List.length_cons]
      have h0 : [x].length = 1 := rfl
      omega
theorem split_le {s : Str} {c : Nat} (h : c < 256) : ∀ w ∈ Txt.split s ⟨#[c]⟩, w.length ≤ s.length := fun w hw => by
  have : tl w ∈ (Txt.split s ⟨#[c]⟩).map tl := List.mem_map_of_mem hw
  rw [split_tl s h] at this
  have := spl_le (tl s) [] c _ this
  rw [len_tl, len_tl s]
  simpa using this
/-- a path: / alone, or / and names with / between them -/
def pth (s : Str) : Bool := Txt.startswith s ⟨#[47]⟩ && (decide (s = ⟨#[47]⟩) || ((Txt.split s ⟨#[47]⟩).drop 1).all nm)
section
variable {P : Program} {w : World} {K : PySem.W.Frag} {mg : Str → Option Value} {base : Heap} {A : Ads}
set_option pp.maxSteps 120
def spPath (K : PySem.W.Frag) : Sp := fun vs H Q _ => ∃ v, vs = [v] ∧ Thing K H v (fun s => ∀ H', Keep [] H H' → Q (.bl (pth s)) H') (Q (.bl false) H)
theorem ok_is_path (T : Txt w K mg A) : FnOk P w K mg base CX0 1 A.f_is_path A.d_is_path ["value"] (spPath K) := by
  refine okT T.F_is_path sc_is_path (by decide +kernel) (by decide) (fun vs H Q E h => ?_) (fun cdv A_ outer s_ H vs Q E hr h => ?_)
  · obtain ⟨v, rfl, _⟩ := h
    rfl
  · obtain ⟨v, rfl, q⟩ := h
    have W : Ow H [] H [] := Ow.start0
    refine ⟨_, (psst_cons (PST.of (ps_if (PW.pt (pw_or (pt_not (pt_val (pe_callB call_isi (by rfl) T.b_isinstance (by decide +kernel) (pa_cons (pv 0) (pa_cons (pe_bltn (v := .ty "str") rfl T.b_str (by decide +kernel) rfl) pa_nil))))) (pw_or1 (pt_not (pt_val (pe_m1 PySem.F.slot_str_startswith PySem.F.type_str_startswith mt_startswith (pv 0) pe_str)))))) (pss_one (ps_ret pe_bl)) pss_nil))
  (psst_cons (PST.of (ps_if (pt_cmpR op_eq (pv 0) pe_str (nomark _)) (pss_one (ps_ret pe_bl)) pss_nil))
  (psst_cons (FR.pst_asg (CwR.pet_replC (pv 0)) (pg_name (i := 1) sc_is_path.nd rfl (.inl rfl)))
  (PSsT.of (pss_cons (ps_if (PW.pt (pw_or (pt_not (pt_val (pe_bm0 PySem.F.plainAttrs_str PySem.F.slot_str_isascii PySem.F.type_str_isascii mt_isascii (pv 1)))) (pw_or (pt_not (pt_val (pe_bm0 PySem.F.plainAttrs_str PySem.F.slot_str_isalpha PySem.F.type_str_isalpha mt_isalpha (pv 1)))) (pw_or1 (pt_not (pt_val (pe_bm0 PySem.F.plainAttrs_str PySem.F.slot_str_islower PySem.F.type_str_islower mt_islower (pv 1)))))))) (pss_one (ps_ret pe_bl)) pss_nil)
  (pss_one (ps_ret (pe_callB (cr_all rfl) (by rfl) T.b_all (by decide +kernel) (pa_cons (pe_lc (own := [("part", 2)]) (g := gName 2) rfl sc_is_path.nd (pi_list (pe_slice sl_listN (pe_m1 PySem.F.slot_str_split PySem.F.type_str_split mt_splN (pv 0) pe_str) (po_some pe_int) po_none)) (blkOk_by (own := [("part", 2)]) (N := N_is_path) (sc := defScope s_is_path) (by decide +kernel)) (fun _ _ _ _ _ => pg_name (i := 2) sc_is_path.nd rfl (Or.inl rfl)) (fun _ _ _ _ _ => pts_nil) (fun _ _ _ _ _ => (pe_chain op_le op_le pe_int (pe_callB call_len_str (by rfl) T.b_len PySem.boot_len (pa_cons (pv 2) pa_nil)) (pe_gc rfl T.c_LONGEST_NAME)))) pa_nil))))))))), ?_⟩
    rcases q with ⟨s, rfl, hl, ha, q⟩ | ⟨⟨t, ty, kt⟩, q⟩
    · have hz : s.length ≤ sizeLine := size_le (by omega)
      unfold pth at q
      walk_at "rd"
      refine ifNB (b := Txt.startswith s (Str.ofString "/")) (fun c => ?_) (fun c => ?_)
      · walk_at "rd"
        rw [slash] at c
        rw [c] at q
        exact q H Keep.refl
      rw [slash] at c
      have hsp : ((Txt.split s ⟨#[47]⟩).drop 1).all nm = _ := path_split c lc
      rw [c, hsp] at q
      walk_at "rd"
      refine ifVS (fun e => ?_) (fun e => ?_)
      · walk_at "rd"
        rw [decide_eq_true (e.trans slash)] at q
        exact q H Keep.refl
      rw [decide_eq_false (fun h => e (h.trans slash.symm))] at q
      walk_at "rd"
      have hna := noSl_asc ha
      have hne := name_eq hna
      refine ifNB (b := Txt.isascii (noSl s)) (fun c => absurd (isascii_asc hna) (by rw [c]; decide)) (fun c => ?_)
      walk_at "rd"
      refine ifNB (b := Txt.isalpha (noSl s)) (fun c => ?_) (fun c => ?_)
      · walk_at "rd"
        rw [← hne, c] at q
        exact q H Keep.refl
      rw [c] at hne
      walk_at "rd"
      refine ifNB (b := Txt.islower (noSl s)) (fun c => ?_) (fun c => ?_)
      · walk_at "rd"
        rw [← hne, c] at q
        exact q H Keep.refl
      rw [c] at hne
      rw [← hne] at q
      walk_at "rd"
      rename_i p1 H1 np1 kp1 hp1 W1
      refine ⟨_, _, rfl, W1.sq 0 rfl, ?_⟩
      rw [cutV_tl, slash, ← List.map_drop]
      have hpl : ∀ x ∈ (Txt.split s ⟨#[47]⟩).drop 1, x.length ≤ s.length ∧ Asc x := fun x hx => ⟨split_le (by decide) x (List.mem_of_mem_drop hx), split_asc (by decide) ha x (List.mem_of_mem_drop hx)⟩
      have hpn : ((Txt.split s ⟨#[47]⟩).drop 1).length ≤ s.length + 1 := by
        rw [List.length_drop]
        have := split_len (s := s) (c := 47) (by decide)
        omega
      generalize (Txt.split s ⟨#[47]⟩).drop 1 = ps at q hpl hpn
      walk_at "obj"
      rename_i p2 H2 np2 kp2 hp2 W2
      refine ⟨_, rfl, ⟨_, W2.sq 0 rfl⟩, fun D hD => ?_⟩
      refine lc_li (a := p2) (xs := ps.map V.str) (fun pre H' => ∃ ws : List Str, pre = ws.map V.str ∧ Ow H [] H' [(D, .lst ((ws.map (fun u => decide (1 ≤ u.length ∧ u.length ≤ 8))).map V.bl)), (p2, .lst (ps.map V.str)), (p1, _)]) ⟨[], rfl, W2.new hD⟩ ?_ ?_ ?_
      · rintro pre post H3 e ⟨ws, _, W3⟩
        exact W3.sq 1 rfl
      · rintro pre x post H3 e ⟨ws, rfl, W3⟩
        obtain ⟨u, hu, rfl⟩ := List.mem_map.mp (show x ∈ ps.map V.str by rw [e]; simp)
        have hwl : ws.length ≤ ps.length := by
          have := congrArg List.length e
          rw [List.length_append, List.length_map, List.length_map] at this
          omega
        have hul := (hpl u hu).1
        walk_at "rd"
        refine ite2 (fun c => ?_) (fun c => ?_)
        · have c' : 1 ≤ u.length := by have := of_decide_eq_true c; omega
          refine ⟨_, _, rfl, rfl, ?_⟩
          refine ⟨_, W3.get 0 rfl, size_ok (by rw [List.length_map, List.length_map]; omega), ws ++ [u], by rw [List.map_append]; rfl, ?_⟩
          rw [List.map_append, List.map_append]
          show Ow H [] (upd H3 D (.lst (_ ++ [V.bl (decide ((u.length : Int) ≤ 8))]))) _
          rw [show decide ((u.length : Int) ≤ 8) = decide (1 ≤ u.length ∧ u.length ≤ 8) from decide_eq_decide.mpr ⟨fun h => ⟨c', by omega⟩, fun h => by omega⟩]
          exact W3.set 0 rfl
        · refine ⟨_, W3.get 0 rfl, size_ok (by rw [List.length_map, List.length_map]; omega), ws ++ [u], by rw [List.map_append]; rfl, ?_⟩
          rw [List.map_append, List.map_append]
          have c' : ¬ 1 ≤ (u.length : Int) := fun h => c (decide_eq_true h)
          show Ow H [] (upd H3 D (.lst (_ ++ [V.bl false]))) _
          rw [show false = decide (1 ≤ u.length ∧ u.length ≤ 8) from (decide_eq_false (fun h => c' (by omega))).symm]
          exact W3.set 0 rfl
      · rintro H3 ⟨ws, e, W3⟩
        have e' : ps = ws := by
          have : ps.map V.str = ws.map V.str := e
          exact (List.map_inj_right (fun a b h => V.str.inj h)).mp this
        subst e'
        refine ⟨_, _, rfl, W3.sq 0 rfl, ?_⟩
        rw [List.all_map]
        exact q H3 W3.keep
    · walk_at "rd"
      refine ⟨_, _, _, _, _, rfl, .ty _, ty, kt, ?_⟩
      walk_at "rd"
      exact q
end
/-- what stands in a deed, or in its place -/
inductive S0 | non | bl | int | str (s : Str) | lst | tup | dct | acc
def El (A : Ads) (H : Hp) (v : V) : S0 → Prop
  | .non => v = .non
  | .bl => ∃ b, v = .bl b
  | .int => ∃ i, v = .int i
  | .str s => v = .str s ∧ s.length ≤ 1000 ∧ Asc s
  | .lst => ∃ a xs, v = .ref a ∧ H a = some (.lst xs)
  | .tup => ∃ a xs, v = .ref a ∧ H a = some (.tup xs)
  | .dct => ∃ a d, v = .ref a ∧ H a = some (.dK d)
  | .acc => ∃ a dx fs, v = .ref a ∧ H a = some (.ins A.C_AccessList dx fs)
def S0.isStr : S0 → Bool | .str _ => true | _ => false
def S0.isBl : S0 → Bool | .bl => true | _ => false
def S0.isNon : S0 → Bool | .non => true | _ => false
def S0.isAcc : S0 → Bool | .acc => true | _ => false
theorem El.keep {A : Ads} {H H' : Hp} {v : V} {s : S0} (h : El A H v s) (k : Keep [] H H') : El A H' v s := by
  cases s with
  | lst => obtain ⟨a, xs, rfl, e⟩ := h; exact ⟨a, xs, rfl, k _ _ e (by simp)⟩
  | tup => obtain ⟨a, xs, rfl, e⟩ := h; exact ⟨a, xs, rfl, k _ _ e (by simp)⟩
  | dct => obtain ⟨a, xs, rfl, e⟩ := h; exact ⟨a, xs, rfl, k _ _ e (by simp)⟩
  | acc => obtain ⟨a, dx, fs, rfl, e⟩ := h; exact ⟨a, dx, fs, rfl, k _ _ e (by simp)⟩
  | non => exact h
  | bl => exact h
  | int => exact h
  | str s => exact h
/-- a step that changes one list -/
theorem El.keep1 {A : Ads} {H H' : Hp} {v : V} {s : S0} {b : Addr} {ys zs : List V} (h : El A H v s) (eb : H b = some (.lst ys)) (k : Keep [b] H H') (eb' : H' b = some (.lst zs)) : El A H' v s := by
  have ne : ∀ (a : Addr) (o : HO), H a = some o → (∀ xs, o ≠ .lst xs) → a ∉ [b] := fun a o e n m => by
    rw [List.mem_singleton.mp m, eb] at e
    exact n ys (Option.some.inj e).symm
  cases s with
  | lst =>
    obtain ⟨a, xs, rfl, e⟩ := h
    by_cases hab : a = b
    · subst hab; exact ⟨a, zs, rfl, eb'⟩
    · exact ⟨a, xs, rfl, k _ _ e (by simpa using hab)⟩
  | tup => obtain ⟨a, xs, rfl, e⟩ := h; exact ⟨a, xs, rfl, k _ _ e (ne _ _ e fun _ z => by cases z)⟩
  | dct => obtain ⟨a, xs, rfl, e⟩ := h; exact ⟨a, xs, rfl, k _ _ e (ne _ _ e fun _ z => by cases z)⟩
  | acc => obtain ⟨a, dx, fs, rfl, e⟩ := h; exact ⟨a, dx, fs, rfl, k _ _ e (ne _ _ e fun _ z => by cases z)⟩
  | non => exact h
  | bl => exact h
  | int => exact h
  | str s => exact h
section
variable {P : Program} {w : World} {K : PySem.W.Frag} {mg : Str → Option Value} {base : Heap} {A : Ads}
set_option pp.maxSteps 120

/-- its type, and what isinstance says -/
theorem El.ty (T : Txt w K mg A) {H : Hp} {v : V} {s : S0} (h : El A H v s) : ∃ t, TyX K H v t ∧ PySem.W.kitOne K t (.type "str") = some s.isStr ∧ PySem.W.kitOne K t (.type "bool") = some s.isBl := by
  cases s with
  | non => cases h; exact ⟨_, .base .non, kit_ty ki_non_str, kit_ty ki_non_bool⟩
  | bl => obtain ⟨b, rfl⟩ := h; exact ⟨_, .base (.bl _), kit_ty ki_bl_str, kit_ty ki_bl_bool⟩
  | int => obtain ⟨b, rfl⟩ := h; exact ⟨_, .base (.int _), kit_ty ki_int_str, kit_ty ki_int_bool⟩
  | str s => obtain ⟨rfl, _⟩ := h; exact ⟨_, .base (.str _), kit_ty ki_str_str, kit_ty ki_str_bool⟩
  | lst => obtain ⟨a, xs, rfl, e⟩ := h; exact ⟨_, .base (.lst e), kit_ty ki_lst_str, kit_ty ki_lst_bool⟩
  | tup => obtain ⟨a, xs, rfl, e⟩ := h; exact ⟨_, .base (.tup e), kit_ty ki_tup_str, kit_ty ki_tup_bool⟩
  | dct => obtain ⟨a, xs, rfl, e⟩ := h; exact ⟨_, .base (.dK e), kit_ty ki_dK_str, kit_ty ki_dK_bool⟩
  | acc => obtain ⟨a, dx, fs, rfl, e⟩ := h; exact ⟨_, .base (.ins e T.cl_AccessList T.in_AccessList.ha T.in_AccessList.hn T.in_AccessList.htk T.in_AccessList.hm), T.ki_AccessList_str, T.ki_AccessList_bool⟩
theorem El.isAccess (T : Txt w K mg A) {H : Hp} {v : V} {s : S0} (h : El A H v s) {Q : VK} (q : Q (.bl s.isAcc) H) : rIsA K A.C_AccessList [v, .ref A.C_AccessList] H Q := by
  have no : ∀ n, TyX K H v (.type n) → PySem.W.kitOne K (.type n) (.ref A.C_AccessList) = some false → Q (.bl false) H → rIsA K A.C_AccessList [v, .ref A.C_AccessList] H Q := fun n ty k q => .inr ⟨_, _, _, _, _, rfl, .own _, ty, k, q⟩
  cases s with
  | non => cases h; exact no _ (.base .non) T.kt_AccessList_NoneType q
  | bl => obtain ⟨b, rfl⟩ := h; exact no _ (.base (.bl _)) T.kt_AccessList_bool q
  | int => obtain ⟨b, rfl⟩ := h; exact no _ (.base (.int _)) T.kt_AccessList_int q
  | str s => obtain ⟨rfl, _⟩ := h; exact no _ (.base (.str _)) T.kt_AccessList_str q
  | lst => obtain ⟨a, xs, rfl, e⟩ := h; exact no _ (.base (.lst e)) T.kt_AccessList_list q
  | tup => obtain ⟨a, xs, rfl, e⟩ := h; exact no _ (.base (.tup e)) T.kt_AccessList_tuple q
  | dct => obtain ⟨a, xs, rfl, e⟩ := h; exact no _ (.base (.dK e)) T.kt_AccessList_dict q
  | acc => obtain ⟨a, dx, fs, rfl, e⟩ := h; exact .inl ⟨a, dx, fs, rfl, e, q⟩
def nmS : S0 → Bool | .str s => nm s | _ => false
def pthS : S0 → Bool | .str s => pth s | _ => false
def usrS : S0 → Bool | .str s => nm s && decide (s ≠ Str.ofString "root") | _ => false
theorem El.thing (T : Txt w K mg A) {H : Hp} {v : V} {s : S0} (h : El A H v s) {qs : Str → Prop} {qo : Prop} (q1 : ∀ t, v = .str t → s = .str t → qs t) (q2 : s.isStr = false → qo) : Thing K H v qs qo := by
  obtain ⟨t, ty, k, _⟩ := h.ty T
  cases s with
  | str s => obtain ⟨rfl, h1, h2⟩ := h; exact .inl ⟨s, rfl, by omega, h2, q1 s rfl rfl⟩
  | _ => exact .inr ⟨⟨t, ty, k⟩, q2 rfl⟩
namespace X
theorem ok_is_name (T : Txt w K mg A) : FnOk P w K mg base CX0 1 A.f_is_name A.d_is_name ["value"] (fun vs H Q _ => ∃ v s, vs = [v] ∧ El A H v s ∧ Q (.bl (nmS s)) H) :=
  (K41.ok_is_name T).imp fun vs H Q E h => by
    obtain ⟨v, s, rfl, hv, q⟩ := h
    refine ⟨v, rfl, hv.thing T (fun t e1 e2 => by subst e2; exact q) (fun hn => ?_)⟩
    rw [show nmS s = false by cases s <;> first | rfl | cases hn] at q
    exact q
theorem ok_is_path (T : Txt w K mg A) : FnOk P w K mg base CX0 1 A.f_is_path A.d_is_path ["value"] (fun vs H Q _ => ∃ v s, vs = [v] ∧ El A H v s ∧ ∀ H', Keep [] H H' → Q (.bl (pthS s)) H') :=
  (K41.ok_is_path T).imp fun vs H Q E h => by
    obtain ⟨v, s, rfl, hv, q⟩ := h
    refine ⟨v, rfl, hv.thing T (fun t e1 e2 => by subst e2; exact q) (fun hn => ?_)⟩
    have q := q H Keep.refl
    rw [show pthS s = false by cases s <;> first | rfl | cases hn] at q
    exact q
theorem ok_is_user_name (T : Txt w K mg A) : FnOk P w K mg base CX0 2 A.f_is_user_name A.d_is_user_name ["value"] (fun vs H Q _ => ∃ v s, vs = [v] ∧ El A H v s ∧ Q (.bl (usrS s)) H) := by
  refine T.F_is_user_name.ok sc_is_user_name (fun vs H Q E h => ?_) (fun cdv A_ outer s_ H vs Q E hr h => ?_)
  · obtain ⟨v, s, rfl, _⟩ := h
    rfl
  · obtain ⟨v, s, rfl, hv, q⟩ := h
    refine ⟨_, (pss_one (ps_ret (pe_and (pe_call (ok_is_name T) (hr.mono (by decide)) (by rfl) T.g_is_name T.F_is_name.kp T.B_is_name .nil pass0 (pa_cons (pv 0) pa_nil)) (pe_one (pe_cmpR op_ne (pv 0) pe_str (nomark _)))))), ?_⟩
    walk_at "rd"
    refine ⟨v, s, rfl, hv, ?_⟩
    refine ⟨_, rfl, ?_⟩
    cases s with
    | str s =>
      obtain ⟨rfl, h1, h2⟩ := hv
      refine ifB (b := nm s) (fun c => ?_) (fun c => ?_)
      · walk_at "rd"
        show Q (.bl (!decide (V.str s = V.str (Str.ofString "root")))) H
        rw [show (!decide (V.str s = V.str (Str.ofString "root"))) = usrS (.str s) from by
          show _ = (nm s && decide (s ≠ Str.ofString "root"))
          rw [c, Bool.true_and]
          by_cases h : s = Str.ofString "root" <;> simp [h]]
        exact q
      · rw [show usrS (.str s) = false from by
          show (nm s && decide (s ≠ Str.ofString "root")) = false
          rw [c]
          rfl] at q
        exact q
    | _ => exact ifF rfl q
end X
end
end K41
namespace K41
open PySem PySem.Spec PyProof.Rows L2 FR TL
open C8 (pss_cut pe_gc)
open StX (pe_callS2 pa_star)
/-- a digit from 0 to 7 -/
def dg (c : Nat) : Bool := decide (c ∈ (Str.ofString "01234567").cps.toList)
def digs (s : Str) : Bool := decide (s.length = 3) && (tl s).all dg
def digS : S0 → Bool | .str s => digs s | _ => false
theorem dg_int : ∀ c : Fin 128, dg c.1 = true → ∃ n : Fin 8, PySem.intText? ⟨#[c.1]⟩ = some ((n.1 : Nat) : Int) := by decide +kernel
theorem dg_lt {c : Nat} (h : dg c = true) : c < 128 := by
  have : (Str.ofString "01234567").cps.toList.all (fun c => decide (c < 128)) = true := by decide +kernel
  exact of_decide_eq_true (List.all_eq_true.mp this c (of_decide_eq_true h))
section
variable {P : Program} {w : World} {K : PySem.W.Frag} {mg : Str → Option Value} {base : Heap} {A : Ads}
set_option pp.maxSteps 120
theorem ok_is_digits (T : Txt w K mg A) : FnOk P w K mg base CX0 1 A.f_is_digits A.d_is_digits ["value"] (fun vs H Q _ => ∃ v s, vs = [v] ∧ El A H v s ∧ ∀ H', Keep [] H H' → Q (.bl (digS s)) H') := by
  refine T.F_is_digits.ok sc_is_digits (fun vs H Q E h => ?_) (fun cdv A_ outer s_ H vs Q E hr h => ?_)
  · obtain ⟨v, s, rfl, _⟩ := h
    rfl
  · obtain ⟨v, s, rfl, hv, q⟩ := h
    have W : Ow H [] H [] := Ow.start0
    refine ⟨_, (pss_one (ps_ret (pe_and (pe_callB call_isi (by rfl) T.b_isinstance (by decide +kernel) (pa_cons (pv 0) (pa_cons (pe_bltn (v := .ty "str") rfl T.b_str (by decide +kernel) rfl) pa_nil))) (pe_and (pe_cmpR op_eq (pe_callB call_len_str (by rfl) T.b_len PySem.boot_len (pa_cons (pv 0) pa_nil)) pe_int (nomark _)) (pe_one (pe_callB (cr_all rfl) (by rfl) T.b_all (by decide +kernel) (pa_cons (pe_lc (own := [("digit", 1)]) (g := gName 1) rfl sc_is_digits.nd (pi_str (pv 0)) (blkOk_by (own := [("digit", 1)]) (N := N_is_digits) (sc := defScope s_is_digits) (by decide +kernel)) (fun _ _ _ _ _ => pg_name (i := 1) sc_is_digits.nd rfl (Or.inl rfl)) (fun _ _ _ _ _ => pts_nil) (fun _ _ _ _ _ => (pe_cmpR op_in_sign (pv 1) pe_str rfl))) pa_nil))))))), ?_⟩
    obtain ⟨t, ty, k1, _⟩ := hv.ty T
    walk_at "rd"
    refine ⟨_, _, _, _, _, rfl, .ty _, ty, k1, ?_⟩
    refine ⟨_, rfl, ?_⟩
    cases s with
    | str s =>
      obtain ⟨rfl, hl, ha⟩ := hv
      have hlen := len_tl s
      have q : ∀ H', Keep [] H H' → Q (.bl (digs s)) H' := q
      unfold digs at q
      refine ifT rfl ?_
      walk_at "rd"
      refine ifQ (p := s.length = 3) (decide_eq_decide.mpr ⟨fun h => by have := V.int.inj h; omega, fun h => by rw [h]; rfl⟩) (fun h3 => ?_) (fun h3 => ?_)
      · rw [decide_eq_true h3, Bool.true_and] at q
        walk_at "rd"
        intro D hD
        refine lc_str (s := s) (fun pre H' => Ow H [] H' [(D, .lst ((pre.map dg).map V.bl))]) (W.new hD) ?_ ?_
        · rintro pre d post H8 e8 W8
          have hpre : pre.length ≤ 3 := by
            have h2 : pre.length ≤ (tl s).length := by rw [e8, List.length_append]; omega
            omega
          walk_at "rd"
          refine ⟨_, W8.get 0 rfl, size_ok (by rw [List.length_map, List.length_map]; omega), ?_⟩
          rw [List.map_append, List.map_append]
          exact W8.set 0 rfl
        · intro H9 W9
          refine ⟨_, _, rfl, W9.sq 0 rfl, ?_⟩
          rw [List.all_map]
          exact q H9 W9.keep
      · rw [decide_eq_false h3, Bool.false_and] at q
        exact q H Keep.refl
    | _ => exact ifF rfl (q H Keep.refl)
/-- three new rights -/
def New3 (A : Ads) (Q : VK) (H : Hp) : Prop := ∀ (p : Addr) (v1 v2 v3 : V) (d1 d2 d3 : Int) (H1 : Hp), Keep [] H H1 → H1 p = some (.lst [v1, v2, v3]) → IsR A H1 v1 d1 → IsR A H1 v2 d2 → IsR A H1 v3 d3 → Q (.ref p) H1
theorem ok__three_rights (T : Txt w K mg A) : FnOk P w K mg base CX0 6 A.f__three_rights A.d__three_rights ["digits"] (fun vs H Q _ => ∃ s, vs = [.str s] ∧ digs s = true ∧ s.length ≤ 1000 ∧ Asc s ∧ New3 A Q H) := by
  refine T.F__three_rights.ok sc__three_rights (fun vs H Q E h => ?_) (fun cdv A_ outer s_ H vs Q E hr h => ?_)
  · obtain ⟨s, rfl, _⟩ := h
    rfl
  · obtain ⟨s, rfl, hd, hl, ha, q⟩ := h
    refine ⟨_, (pss_cons (ps_if (pt_not (pt_val (pe_call (ok_is_digits T) (hr.mono (by decide)) (by rfl) T.g_is_digits T.F_is_digits.kp T.B_is_digits .nil pass0 (pa_cons (pv 0) pa_nil)))) (pss_one ps_never) pss_nil)
  (pss_one (ps_ret (pe_lc (own := [("digit", 1)]) (g := gName 1) rfl sc__three_rights.nd (pi_str (pv 0)) (blkOk_by (own := [("digit", 1)]) (N := N__three_rights) (sc := defScope s__three_rights) (by decide +kernel)) (fun _ _ _ _ _ => pg_name (i := 1) sc__three_rights.nd rfl (Or.inl rfl)) (fun _ _ _ _ _ => pts_nil) (fun _ _ _ _ _ => (ClX.pe_cmeth (pe_gc rfl T.c_Rights) T.cr_Rights T.cm_Rights_from_digit ((ok_Rights_from_digit T).raw T.B_Rights_from_digit .nil) (hr.mono (by decide)) pass0 (pa_cons (pe_callTy call_int_str (by rfl) T.b_int (by decide +kernel) (pa_cons (pv 1) pa_nil)) pa_nil))))))), ?_⟩
    walk_at "rd"
    refine ⟨.str s, .str s, rfl, ⟨rfl, hl, ha⟩, fun H1 k1 => ?_⟩
    refine ⟨_, rfl, ?_⟩
    rw [show digS (.str s) = true from hd]
    refine ifF rfl ?_
    unfold digs at hd
    rw [Bool.and_eq_true, decide_eq_true_eq, List.all_eq_true] at hd
    obtain ⟨h3, hdg⟩ := hd
    have hlen := len_tl s
    have W1 : Ow H1 [] H1 [] := Ow.start0
    walk_at "rd"
    intro D hD
    refine lc_str (s := s) (fun pre H' => ∃ us : List V, us.length = pre.length ∧ (∀ u ∈ us, ∃ d, IsR A H' u d) ∧ Ow H1 [] H' [(D, .lst us)]) ⟨[], rfl, fun _ h => by simp at h, W1.new hD⟩ ?_ ?_
    · rintro pre c post H8 e8 ⟨us, ul, hus, W8⟩
      have hpre : pre.length < 3 := by
        have h2 : (tl s).length = pre.length + (post.length + 1) := by rw [e8, List.length_append, List.length_cons]
        omega
      have hc : dg c = true := hdg c (by rw [e8]; simp)
      obtain ⟨n, hn⟩ := dg_int ⟨c, dg_lt hc⟩ hc
      walk_at "rd"
      refine ⟨⟨#[c]⟩, (n.1 : Int), rfl, hn, Nat.le_of_ble_eq_true rfl, ?_⟩
      refine ⟨_, rfl, by omega, by have := n.2; omega, fun x dx H9 hx hdx k9 h9 => ?_⟩
      have W9 := W8.call0 k9
      have hD8 := W8.get 0 rfl
      have nx : x ≠ D := fun e => by rw [e, hD8] at hx; cases hx
      refine ⟨us, W9.get 0 rfl, size_ok (by omega), us ++ [.ref x], by rw [List.length_append, List.length_append, ul]; rfl, fun u hu => ?_, W9.set 0 rfl⟩
      rcases List.mem_append.mp hu with hu | hu
      · obtain ⟨d, a, dy, rfl, ea, r⟩ := hus u hu
        have na : a ≠ D := fun e => by rw [e, hD8] at ea; cases ea
        exact ⟨d, a, dy, rfl, by rw [upd_ne na]; exact k9 _ _ ea (by simp), r⟩
      · rw [List.mem_singleton.mp hu]
        exact ⟨(n.1 : Int), x, dx, rfl, by rw [upd_ne nx]; exact h9, by omega, by have := n.2; omega⟩
    · rintro H8 ⟨us, ul, hus, W8⟩
      rw [← hlen, h3] at ul
      match us, ul with
      | [u1, u2, u3], _ =>
        obtain ⟨d1, r1⟩ := hus u1 (by simp)
        obtain ⟨d2, r2⟩ := hus u2 (by simp)
        obtain ⟨d3, r3⟩ := hus u3 (by simp)
        exact q D u1 u2 u3 d1 d2 d3 H8 (k1.trans W8.keep) (W8.get 0 rfl) r1 r2 r3
theorem ok__named_rights (T : Txt w K mg A) : FnOk P w K mg base CX0 5 A.f__named_rights A.d__named_rights ["value"] (fun vs H Q _ => vs = [.non] ∧ NewO (.dK []) Q H) := by
  refine T.F__named_rights.ok sc__named_rights (fun vs H Q E h => ?_) (fun cdv A_ outer s_ H vs Q E hr h => ?_)
  · obtain ⟨rfl, _⟩ := h
    rfl
  · obtain ⟨rfl, q⟩ := h
    refine ⟨_, (pss_cons (ps_if (pt_cmpR op_isN (pv 0) pe_non (nomark _)) (pss_one (ps_ret pe_dnewN)) pss_nil)
  pss_never), ?_⟩
    walk_at "rd"
    exact q
def spMask (A : Ads) : Sp := fun vs H Q _ => ∃ x dx fs u g, vs = [.ref x] ∧ H x = some (.ins A.C_AccessList dx fs) ∧ fs.lookup ("_users" : Str) = some (.ref u) ∧ fs.lookup ("_groups" : Str) = some (.ref g) ∧ H u = some (.dK []) ∧ H g = some (.dK []) ∧ ∀ H', Keep [] H H' → Q .non H'
theorem ok_AccessList__first_mask (T : Txt w K mg A) : FnOk P w K mg base CX0 1 A.f_AccessList__first_mask A.d_AccessList__first_mask ["self"] (spMask A) := by
  refine T.F_AccessList__first_mask.ok sc_AccessList__first_mask (fun vs H Q E h => ?_) (fun cdv A_ outer s_ H vs Q E hr h => ?_)
  · obtain ⟨x, dx, fs, u, g, rfl, _⟩ := h
    rfl
  · obtain ⟨x, dx, fs, u, g, rfl, hx, lu, lg, hu, hg, q⟩ := h
    refine ⟨_, (pss_cons (ps_set (i := 1) sc_AccessList__first_mask.nd rfl (.inl rfl) (pe_op op_catN (pe_callTy (call_lVals rfl) (by rfl) T.b_list (by decide +kernel) (pa_cons (pe_bm0 PySem.F.plainAttrs_dict PySem.F.slot_dict_values PySem.F.type_dict_values mt_valuesK (pe_fld (pv 0) rfl)) pa_nil)) (pe_callTy (call_lVals rfl) (by rfl) T.b_list (by decide +kernel) (pa_cons (pe_bm0 PySem.F.plainAttrs_dict PySem.F.slot_dict_values PySem.F.type_dict_values mt_valuesK (pe_fld (pv 0) rfl)) pa_nil))))
  (pss_one (ps_ret (pe_ifExp (pt_truth (pv 1) (by intro _; rfl)) pe_nev pe_non)))), ?_⟩
    have W : Ow H [] H [] := Ow.start0
    walk_at "rd"
    refine ⟨x, _, dx, fs, _, rfl, hx, T.cl_AccessList, T.na_AccessList__users, lu, ?_⟩
    refine ⟨.inr (.inr (.inl ⟨rfl, .inl ⟨_, hu⟩⟩)), u, [], rfl, rfl, hu, fun p1 np1 => ?_⟩
    have W1 := W.new (o := valuesO p1 u) np1
    refine ⟨p1, u, [], rfl, upd_same, W1.keep _ _ hu (by simp), ?_⟩
    walk_at "obj"
    rename_i p2 H2 np2 kp2 hp2 W2
    refine ⟨_, rfl, x, _, dx, fs, _, rfl, W2.keep _ _ hx (by simp), T.cl_AccessList, T.na_AccessList__groups, lg, ?_⟩
    refine ⟨.inr (.inr (.inl ⟨rfl, .inl ⟨_, W2.keep _ _ hg (by simp)⟩⟩)), g, [], rfl, rfl, W2.keep _ _ hg (by simp), fun p3 np3 => ?_⟩
    have W3 := W2.new (o := valuesO p3 g) np3
    refine ⟨p3, g, [], rfl, upd_same, W3.keep _ _ hg (by simp), ?_⟩
    walk_at "obj"
    rename_i p4 H4 np4 kp4 hp4 W4
    refine ⟨p2, p4, _, _, rfl, rfl, W4.get 2 rfl, W4.get 0 rfl, Nat.zero_le _, ?_⟩
    walk_at "obj"
    rename_i p5 H5 np5 kp5 hp5 W5
    refine ⟨_, rfl, false, .inl ⟨_, .inl (.inl hp5), rfl⟩, ?_⟩
    refine ifF rfl ?_
    exact q H5 W5.keep
def NewA (A : Ads) (Q : VK) (H : Hp) : Prop := ∀ (x dx : Addr) (fs : List (Str × V)) (H1 : Hp), H x = none → Keep [] H H1 → H1 x = some (.ins A.C_AccessList dx fs) → Q (.ref x) H1
def spAInit (A : Ads) : Sp := fun vs H Q _ => ∃ x dx v1 v2 v3 d1 d2 d3, vs = [.ref x, v1, v2, v3, .non, .non, .non] ∧ H x = some (.ins A.C_AccessList dx []) ∧ IsR A H v1 d1 ∧ IsR A H v2 d2 ∧ IsR A H v3 d3 ∧ ∀ H1 fs, Keep [x] H H1 → H1 x = some (.ins A.C_AccessList dx fs) → Q .non H1
theorem ok_AccessList___init__ (T : Txt w K mg A) : FnOk P w K mg base CX0 6 A.f_AccessList___init__ A.d_AccessList___init__ ["self", "owner", "group", "other", "users", "groups", "mask"] (spAInit A) := by
  refine (T.F_AccessList___init__.ok (CX := CX0) sc_AccessList___init__ (fun vs H Q E h => ?_) (fun cdv A_ outer s H vs Q E hr h => ?_))
  · obtain ⟨x, dx, v1, v2, v3, d1, d2, d3, rfl, _⟩ := h
    rfl
  · obtain ⟨x, dx, v1, v2, v3, d1, d2, d3, rfl, hx, r1, r2, r3, q⟩ := h
    obtain ⟨a1, dx1, rfl, ha1, b1⟩ := id r1
    obtain ⟨a2, dx2, rfl, ha2, b2⟩ := id r2
    obtain ⟨a3, dx3, rfl, ha3, b3⟩ := id r3
    have n2 : a2 ≠ x := ne_of ha2 hx fun z => by have := (HO.ins.inj z).2.2; cases this
    have n3 : a3 ≠ x := ne_of ha3 hx fun z => by have := (HO.ins.inj z).2.2; cases this
    have W := Ow.start1 hx
    refine ⟨_, (pss_cons (ps_fld (pv 0) (pe_call (ok_as_rights T) (hr.mono (by decide)) (by rfl) T.g_as_rights T.F_as_rights.kp T.B_as_rights .nil pass0 (pa_cons (pv 1) pa_nil)) rfl)
  (pss_cons (ps_fld (pv 0) (pe_call (ok_as_rights T) (hr.mono (by decide)) (by rfl) T.g_as_rights T.F_as_rights.kp T.B_as_rights .nil pass0 (pa_cons (pv 2) pa_nil)) rfl)
  (pss_cons (ps_fld (pv 0) (pe_call (ok_as_rights T) (hr.mono (by decide)) (by rfl) T.g_as_rights T.F_as_rights.kp T.B_as_rights .nil pass0 (pa_cons (pv 3) pa_nil)) rfl)
  (pss_cons (ps_fld (pv 0) (pe_call (ok__named_rights T) (hr.mono (by decide)) (by rfl) T.g__named_rights T.F__named_rights.kp T.B__named_rights .nil pass0 (pa_cons (pv 4) pa_nil)) rfl)
  (pss_cons (ps_fld (pv 0) (pe_call (ok__named_rights T) (hr.mono (by decide)) (by rfl) T.g__named_rights T.F__named_rights.kp T.B__named_rights .nil pass0 (pa_cons (pv 5) pa_nil)) rfl)
  (pss_one (ps_fld (pv 0) (pe_ifExp (pt_cmpR op_isN (pv 6) pe_non (nomark _)) (pe_meth0 (pv 0) T.cl_AccessList T.me_AccessList__first_mask (ok_AccessList__first_mask T) (hr.mono (by decide)) T.B_AccessList__first_mask .nil pass0) (pe_call (ok_as_rights T) (hr.mono (by decide)) (by rfl) T.g_as_rights T.F_as_rights.kp T.B_as_rights .nil pass0 (pa_cons (pv 6) pa_nil))) rfl))))))), ?_⟩
    walk_at "rd"
    refine ⟨_, d1, rfl, r1, _, rfl, x, _, dx, _, rfl, hx, T.cl_AccessList, T.na_AccessList__owner, Nat.le_of_ble_eq_true rfl, ?_⟩
    have W1 := W.set (o' := .ins A.C_AccessList dx (putF "_owner" (.ref a1) [])) 0 rfl
    have l1 : (putF "_owner" (V.ref a1) []).length ≤ 1 := length_putF _ _ _
    have m1 : (putF "_owner" (V.ref a1) []).lookup ("_first_mask" : Str) = none := by rw [lookup_putF, if_neg (by decide)]; exact rfl
    generalize putF "_owner" (.ref a1) [] = f1 at W1 l1 m1 ⊢
    walk_at "rd"
    refine ⟨_, d2, rfl, ⟨a2, dx2, rfl, (upd_ne n2).trans ha2, b2⟩, _, rfl, x, _, dx, _, rfl, upd_same, T.cl_AccessList, T.na_AccessList__group, by omega, ?_⟩
    have W2 := W1.set (o' := .ins A.C_AccessList dx (putF "_group" (.ref a2) f1)) 0 rfl
    have l2 : (putF "_group" (V.ref a2) f1).length ≤ f1.length + 1 := length_putF _ _ _
    have m2 : (putF "_group" (V.ref a2) f1).lookup ("_first_mask" : Str) = none := by rw [lookup_putF, if_neg (by decide)]; exact m1
    generalize putF "_group" (.ref a2) f1 = f2 at W2 l2 m2 ⊢
    walk_at "rd"
    refine ⟨_, d3, rfl, ⟨a3, dx3, rfl, (upd_ne n3).trans ((upd_ne n3).trans ha3), b3⟩, _, rfl, x, _, dx, _, rfl, upd_same, T.cl_AccessList, T.na_AccessList__other, by omega, ?_⟩
    have W3 := W2.set (o' := .ins A.C_AccessList dx (putF "_other" (.ref a3) f2)) 0 rfl
    have l3 : (putF "_other" (V.ref a3) f2).length ≤ f2.length + 1 := length_putF _ _ _
    have m3 : (putF "_other" (V.ref a3) f2).lookup ("_first_mask" : Str) = none := by rw [lookup_putF, if_neg (by decide)]; exact m2
    generalize putF "_other" (.ref a3) f2 = f3 at W3 l3 m3 ⊢
    walk_at "rd"
    rename_i p4 H4 np4 kp4 hp4 W4
    refine ⟨x, _, dx, _, rfl, W4.get 1 rfl, T.cl_AccessList, T.na_AccessList__users, by omega, ?_⟩
    have W5 := W4.set (o' := .ins A.C_AccessList dx (putF "_users" (.ref p4) f3)) 1 rfl
    have l5 : (putF "_users" (V.ref p4) f3).length ≤ f3.length + 1 := length_putF _ _ _
    have u5 : (putF "_users" (V.ref p4) f3).lookup ("_users" : Str) = some (.ref p4) := by rw [lookup_putF, if_pos rfl]
    have m5 : (putF "_users" (V.ref p4) f3).lookup ("_first_mask" : Str) = none := by rw [lookup_putF, if_neg (by decide)]; exact m3
    generalize putF "_users" (.ref p4) f3 = f5 at W5 l5 m5 u5 ⊢
    walk_at "rd"
    rename_i p6 H6 np6 kp6 hp6 W6
    refine ⟨x, _, dx, _, rfl, W6.get 2 rfl, T.cl_AccessList, T.na_AccessList__groups, by omega, ?_⟩
    have W7 := W6.set (o' := .ins A.C_AccessList dx (putF "_groups" (.ref p6) f5)) 2 rfl
    have l7 : (putF "_groups" (V.ref p6) f5).length ≤ f5.length + 1 := length_putF _ _ _
    have u7 : (putF "_groups" (V.ref p6) f5).lookup ("_users" : Str) = some (.ref p4) := by rw [lookup_putF, if_neg (by decide), u5]
    have g7 : (putF "_groups" (V.ref p6) f5).lookup ("_groups" : Str) = some (.ref p6) := by rw [lookup_putF, if_pos rfl]
    have m7 : (putF "_groups" (V.ref p6) f5).lookup ("_first_mask" : Str) = none := by rw [lookup_putF, if_neg (by decide)]; exact m5
    generalize putF "_groups" (.ref p6) f5 = f7 at W7 l7 m7 u7 g7 ⊢
    walk_at "rd"
    refine ⟨x, dx, _, rfl, W7.get 2 rfl, m7, ?_⟩
    refine ⟨x, dx, f7, p4, p6, rfl, W7.get 2 rfl, u7, g7, W7.get 1 rfl, W7.get 0 rfl, fun H8 k8 => ?_⟩
    have W8 := W7.call0 k8
    refine ⟨_, rfl, x, _, dx, _, rfl, W8.get 2 rfl, T.cl_AccessList, T.na_AccessList__mask, by omega, ?_⟩
    have W9 := W8.set (o' := .ins A.C_AccessList dx (putF "_mask" .non f7)) 2 rfl
    exact q _ _ W9.keep upd_same
theorem bd_AccessList___init___3 (T : Txt w K mg A) : Vals [.non, .non, .non] [.none, .none, .none] ∧ Binds K A.d_AccessList___init__ ["self", "owner", "group", "other", "users", "groups", "mask"] [.none, .none, .none] := by
  obtain ⟨ds, h1, h2⟩ := T.F_AccessList___init__.binds0 (ps := ["self", "owner", "group", "other", "users", "groups", "mask"]) 4 (by simp) rfl fun D doc pm an cdv ct us its h1 h2 => match us, its, h1, h2 with
    | [_, _, _, _], [_, _, _], _, _ => ⟨_, _, _, _, _, _, rfl, rfl, ⟨_, _, _, _, _, _, rfl, rfl, ⟨_, _, _, _, _, _, rfl, rfl, rfl⟩⟩⟩
  match ds, h1, h2 with
  | [_, _, _], .cons a (.cons b (.cons c .nil)), h2 =>
    cases a
    cases b
    cases c
    exact ⟨.cons rfl (.cons rfl (.cons rfl .nil)), h2⟩
theorem ok_AccessList_plain (T : Txt w K mg A) : FnOk P w K mg base CX0 9 A.f_AccessList_plain A.d_AccessList_plain ["cls", "digits"] (fun vs H Q _ => ∃ s, vs = [.ref A.C_AccessList, .str s] ∧ digs s = true ∧ s.length ≤ 1000 ∧ Asc s ∧ NewA A Q H) := by
  refine T.F_AccessList_plain.ok sc_AccessList_plain (fun vs H Q E h => ?_) (fun cdv A_ outer s_ H vs Q E hr h => ?_)
  · obtain ⟨s, rfl, _⟩ := h
    rfl
  · obtain ⟨s, rfl, hd, hl, ha, q⟩ := h
    refine ⟨_, (pss_cons (ps_asg (pe_call (ok__three_rights T) (hr.mono (by decide)) (by rfl) T.g__three_rights T.F__three_rights.kp T.B__three_rights .nil pass0 (pa_cons (pv 1) pa_nil)) (pg_unl rfl (pgs_cons (pg_name (i := 2) sc_AccessList_plain.nd rfl (.inl rfl)) (pgs_cons (pg_name (i := 3) sc_AccessList_plain.nd rfl (.inl rfl)) (pgs_cons (pg_name (i := 4) sc_AccessList_plain.nd rfl (.inl rfl)) pgs_nil)))))
  (pss_one (ps_ret (pe_makeL (pv 0) T.mk_AccessList (ok_AccessList___init__ T) (hr.mono (by decide)) (bd_AccessList___init___3 T).2 (bd_AccessList___init___3 T).1 pass0 (pa_cons (pv 2) (pa_cons (pv 3) (pa_cons (pv 4) pa_nil))))))), ?_⟩
    walk_at "rd"
    intro p v1 v2 v3 d1 d2 d3 H1 k1 hp r1 r2 r3
    refine ⟨p, _, rfl, .inl (.inl hp), rfl, ?_⟩
    walk_at "rd"
    refine ⟨rfl, ?_⟩
    refine ⟨_, rfl, _, rfl, _, rfl, ?_⟩
    intro x dx hx hdx hne
    have k2 : Keep [] H1 (upd (upd H1 dx (.own x)) x (.ins A.C_AccessList dx [])) := fun b u e _ => by
      rw [upd_ne (ne_of_none e hx), upd_ne (ne_of_none e hdx)]
      exact e
    refine ⟨x, dx, v1, v2, v3, d1, d2, d3, rfl, upd_same, r1.keep k2, r2.keep k2, r3.keep k2, fun H3 fs k3 h3 => ⟨rfl, ?_⟩⟩
    exact q x dx fs H3 (k1.free hx) (k1.trans (keep_of_new Keep.refl hx hdx k3)) h3
end
end K41
namespace K41
open PySem PySem.Spec PyProof.Rows L2 FR TL
open C8 (pss_cut pe_gc)
open StX (pe_callS2 pa_star)
/-- a part of this kind, by the program's word -/
def partB (k : Str) (s : S0) : Bool :=
  if k = Str.ofString "path" then pthS s else if k = Str.ofString "digits" then digS s else if k = Str.ofString "content" then s.isStr
  else if k = Str.ofString "access" then s.isAcc else if k = Str.ofString "default" then (s.isNon || s.isAcc) else if k = Str.ofString "mark" then s.isBl else nmS s
/-- things in one order with their shapes -/
def Els (A : Ads) (H : Hp) (vs : List V) (xs : List S0) : Prop := Paired (fun v s => El A H v s) vs xs
theorem Els.keep {A : Ads} {H H' : Hp} {vs : List V} {xs : List S0} (h : Els A H vs xs) (k : Keep [] H H') : Els A H' vs xs := Paired.mapP h fun _ _ z => z.keep k
theorem Els.at {A : Ads} {H : Hp} {vs : List V} {xs : List S0} (h : Els A H vs xs) {i : Nat} {v : V} (e : vs[i]? = some v) : ∃ s, xs[i]? = some s ∧ El A H v s := by
  have hl : vs.length = xs.length := Paired.length h
  have hi : i < xs.length := by rw [← hl]; exact (List.getElem?_eq_some_iff.mp e).1
  obtain ⟨v', e', r⟩ := paired_get h (List.getElem?_eq_getElem hi)
  rw [e] at e'
  cases e'
  exact ⟨_, List.getElem?_eq_getElem hi, r⟩
theorem El.isNon {A : Ads} {H : Hp} {v : V} {s : S0} (h : El A H v s) : decide (v = V.non) = s.isNon := by
  cases s with
  | non => cases h; rfl
  | bl => obtain ⟨b, rfl⟩ := h; rfl
  | int => obtain ⟨b, rfl⟩ := h; rfl
  | str s => obtain ⟨rfl, _⟩ := h; rfl
  | lst => obtain ⟨a, xs, rfl, e⟩ := h; rfl
  | tup => obtain ⟨a, xs, rfl, e⟩ := h; rfl
  | dct => obtain ⟨a, xs, rfl, e⟩ := h; rfl
  | acc => obtain ⟨a, dx, fs, rfl, e⟩ := h; rfl
/-- the words of deeds, their parts by letters and by words -/
def forms : List (Str × List Nat × List Str) := [("read", [112], ["path"]), ("write", [112, 99], ["path", "content"]), ("file", [112, 100], ["path", "digits"]), ("folder", [112, 100], ["path", "digits"]), ("move", [112, 112], ["path", "path"]), ("remove", [112], ["path"]),
  ("allow", [112, 97], ["path", "access"]), ("default", [112, 110], ["path", "default"]), ("mark", [112, 98, 98], ["path", "mark", "mark"]), ("give", [112, 103], ["path", "group"]), ("umask", [100], ["digits"])]
def kindsOf (z : Str) : Option (List Str) := (forms.find? fun f => f.1 = z).map (·.2.2)
def restB (z : Str) (r : List S0) : Bool := match kindsOf z with
  | some ks => decide (r.length = ks.length) && (ks.zip r).all fun p => partB p.1 p.2
  | none => false
/-- a deed's form -/
def deedB : List S0 → Bool
  | .str u :: .str z :: r => usrS (.str u) && restB z r
  | _ => false
theorem rest_nil (z : Str) : restB z [] = false := by
  unfold restB kindsOf
  cases e : forms.find? fun f => f.1 = z with
  | none => rfl
  | some f =>
    have hm := List.mem_of_find?_eq_some e
    have all : forms.all (fun f => decide (0 ≠ f.2.2.length)) = true := by decide +kernel
    have := of_decide_eq_true (List.all_eq_true.mp all f hm)
    show (decide (0 = f.2.2.length) && _) = false
    rw [decide_eq_false this]
    rfl
theorem deed_two (u z : Str) : deedB [.str u, .str z] = false := by
  show (usrS (.str u) && restB z []) = false
  rw [rest_nil, Bool.and_false]
theorem deed_few {xs : List S0} (h : xs.length < 3) : deedB xs = false := by
  match xs, h with
  | [], _ => rfl
  | [a], _ => cases a <;> rfl
  | [a, b], _ =>
    cases a with
    | str u => cases b with
      | str z => exact deed_two u z
      | _ => rfl
    | _ => rfl
section
variable {P : Program} {w : World} {K : PySem.W.Frag} {mg : Str → Option Value} {base : Heap} {A : Ads}
set_option pp.maxSteps 120
theorem ok__is_part (T : Txt w K mg A) : FnOk P w K mg base CX0 2 A.f__is_part A.d__is_part ["kind", "value"] (fun vs H Q _ => ∃ k v s, vs = [.str k, v] ∧ El A H v s ∧ ∀ H', Keep [] H H' → Q (.bl (partB k s)) H') := by
  refine T.F__is_part.ok sc__is_part (fun vs H Q E h => ?_) (fun cdv A_ outer s_ H vs Q E hr h => ?_)
  · obtain ⟨k, v, s, rfl, _⟩ := h
    rfl
  · obtain ⟨k, v, s, rfl, hv, q⟩ := h
    have ok_is_name := fun (T : Txt w K mg A) => X.ok_is_name (P := P) (base := base) T
    have ok_is_path := fun (T : Txt w K mg A) => X.ok_is_path (P := P) (base := base) T
    obtain ⟨t, ty, k1, k2⟩ := hv.ty T
    unfold partB at q
    refine ⟨_, (pss_cons (ps_if (pt_cmpR op_eq (pv 0) pe_str (nomark _)) (pss_one (ps_ret (pe_call (ok_is_path T) (hr.mono (by decide)) (by rfl) T.g_is_path T.F_is_path.kp T.B_is_path .nil pass0 (pa_cons (pv 1) pa_nil)))) pss_nil)
  (pss_cons (ps_if (pt_cmpR op_eq (pv 0) pe_str (nomark _)) (pss_one (ps_ret (pe_call (ok_is_digits T) (hr.mono (by decide)) (by rfl) T.g_is_digits T.F_is_digits.kp T.B_is_digits .nil pass0 (pa_cons (pv 1) pa_nil)))) pss_nil)
  (pss_cons (ps_if (pt_cmpR op_eq (pv 0) pe_str (nomark _)) (pss_one (ps_ret (pe_callB call_isi (by rfl) T.b_isinstance (by decide +kernel) (pa_cons (pv 1) (pa_cons (pe_bltn (v := .ty "str") rfl T.b_str (by decide +kernel) rfl) pa_nil))))) pss_nil)
  (pss_cons (ps_if (pt_cmpR op_eq (pv 0) pe_str (nomark _)) (pss_one (ps_ret (pe_callB (call_isA T.in_AccessList) (by rfl) T.b_isinstance (by decide +kernel) (pa_cons (pv 1) (pa_cons (pe_gc rfl T.c_AccessList) pa_nil))))) pss_nil)
  (pss_cons (ps_if (pt_cmpR op_eq (pv 0) pe_str (nomark _)) (pss_one (ps_ret (pe_or (pe_cmpR op_isN (pv 1) pe_non (nomark _)) (pe_one (pe_callB (call_isA T.in_AccessList) (by rfl) T.b_isinstance (by decide +kernel) (pa_cons (pv 1) (pa_cons (pe_gc rfl T.c_AccessList) pa_nil))))))) pss_nil)
  (pss_cons (ps_if (pt_cmpR op_eq (pv 0) pe_str (nomark _)) (pss_one (ps_ret (pe_callB call_isi (by rfl) T.b_isinstance (by decide +kernel) (pa_cons (pv 1) (pa_cons (pe_bltn (v := .ty "bool") rfl T.b_bool (by decide +kernel) rfl) pa_nil))))) pss_nil)
  (pss_one (ps_ret (pe_call (ok_is_name T) (hr.mono (by decide)) (by rfl) T.g_is_name T.F_is_name.kp T.B_is_name .nil pass0 (pa_cons (pv 1) pa_nil)))))))))), ?_⟩
    walk_at "rd"
    refine ifVS (fun e => ?_) (fun e => ?_)
    · rw [if_pos e] at q
      walk_at "rd"
      exact ⟨v, s, rfl, hv, q⟩
    rw [if_neg e] at q
    walk_at "rd"
    refine ifVS (fun e => ?_) (fun e => ?_)
    · rw [if_pos e] at q
      walk_at "rd"
      exact ⟨v, s, rfl, hv, q⟩
    rw [if_neg e] at q
    walk_at "rd"
    refine ifVS (fun e => ?_) (fun e => ?_)
    · rw [if_pos e] at q
      walk_at "rd"
      exact ⟨_, _, _, _, _, rfl, .ty _, ty, k1, q H Keep.refl⟩
    rw [if_neg e] at q
    walk_at "rd"
    refine ifVS (fun e => ?_) (fun e => ?_)
    · rw [if_pos e] at q
      walk_at "rd"
      exact hv.isAccess T (q H Keep.refl)
    rw [if_neg e] at q
    walk_at "rd"
    refine ifVS (fun e => ?_) (fun e => ?_)
    · rw [if_pos e] at q
      have q := q H Keep.refl
      walk_at "rd"
      rw [hv.isNon]
      refine ifB (b := s.isNon) (fun c => ?_) (fun c => ?_)
      · rw [c] at q
        exact q
      · rw [c] at q
        walk_at "rd"
        exact hv.isAccess T q
    rw [if_neg e] at q
    walk_at "rd"
    refine ifVS (fun e => ?_) (fun e => ?_)
    · rw [if_pos e] at q
      walk_at "rd"
      exact ⟨_, _, _, _, _, rfl, .ty _, ty, k2, q H Keep.refl⟩
    rw [if_neg e] at q
    walk_at "rd"
    exact ⟨v, s, rfl, hv, q H Keep.refl⟩
theorem ok_are_parts (T : Txt w K mg A) : FnOk P w K mg base CX0 3 A.f_are_parts A.d_are_parts ["kinds", "values"] (fun vs H Q _ => ∃ (kp vp : Addr) (ks : List Str) (vl : List V) (xs : List S0), vs = [.ref kp, .ref vp] ∧ (∀ H, SqT K H kp (ks.map V.str)) ∧ ks.length ≤ 1000 ∧ H vp = some (.lst vl) ∧ Els A H vl xs ∧
    ∀ H', Keep [] H H' → Q (.bl (decide (xs.length = ks.length) && (ks.zip xs).all fun p => partB p.1 p.2)) H') := by
  refine T.F_are_parts.ok sc_are_parts (fun vs H Q E h => ?_) (fun cdv A_ outer s_ H vs Q E hr h => ?_)
  · obtain ⟨kp, vp, ks, vl, xs, rfl, _⟩ := h
    rfl
  · obtain ⟨kp, vp, ks, vl, xs, rfl, hk, hkl, hv, he, q⟩ := h
    have hl : vl.length = xs.length := Paired.length he
    refine ⟨_, (pss_one (ps_ret (pe_and (pe_cmpR op_eq (pe_callB call_len_seq (by rfl) T.b_len PySem.boot_len (pa_cons (pv 1) pa_nil)) (pe_callB call_len_seq (by rfl) T.b_len PySem.boot_len (pa_cons (pv 0) pa_nil)) (nomark _)) (pe_one (pe_callB (cr_all rfl) (by rfl) T.b_all (by decide +kernel) (pa_cons (pe_lc (own := [("kind", 2), ("value", 3)]) (g := gTup K 2 (gCons (gName 2) (gCons (gName 3) gNil))) rfl sc_are_parts.nd (pi_zm (by rfl) T.b_zip (pa_cons (pv 0) (pa_cons (pv 1) pa_nil))) (blkOk_by (own := [("kind", 2), ("value", 3)]) (N := N_are_parts) (sc := defScope s_are_parts) (by decide +kernel)) (fun _ _ _ _ _ => (pg_tup rfl (pgs_cons (pg_name (i := 2) sc_are_parts.nd rfl (.inl rfl)) (pgs_cons (pg_name (i := 3) sc_are_parts.nd rfl (.inl rfl)) pgs_nil)))) (fun _ _ _ _ _ => pts_nil) (fun _ _ _ _ _ => (pe_call (ok__is_part T) (hr.mono (by decide)) (by rfl) T.g__is_part T.F__is_part.kp T.B__is_part .nil pass0 (pa_cons (pv 2) (pa_cons (pv 3) pa_nil))))) pa_nil)))))), ?_⟩
    have W : Ow H [] H [] := Ow.start0
    walk_at "rd"
    refine ⟨vp, vl, rfl, .inl (.inl (.inl hv)), ?_⟩
    refine ⟨_, rfl, kp, _, rfl, .inr (hk H), ?_⟩
    refine ⟨rfl, ?_⟩
    rw [List.length_map, show decide (V.int (vl.length : Int) = V.int (ks.length : Int)) = decide (xs.length = ks.length) from decide_eq_decide.mpr ⟨fun h => by have := V.int.inj h; omega, fun h => by rw [← h, hl]⟩]
    refine ⟨_, rfl, ?_⟩
    by_cases hn : xs.length = ks.length
    rotate_left
    · rw [decide_eq_false hn, Bool.false_and] at q
      rw [decide_eq_false hn]
      exact ifF rfl (q H Keep.refl)
    rw [decide_eq_true hn, Bool.true_and] at q
    rw [decide_eq_true hn]
    refine ifT rfl ?_
    walk_at "rd"
    refine ⟨kp, vp, _, vl, rfl, hk H, .inl (.inl hv), fun D hD => ?_⟩
    refine lc_it (walk_zm (K := K) (a := kp) (b := vp) (xs := ks.map V.str) (ys := vl) (n := ks.length) (List.length_map _) (by omega)) (fun i H' => Ow H [] H' [(D, .lst (((ks.zip xs).take i).map fun p => V.bl (partB p.1 p.2)))]) (W.new hD) ?_ ?_ ?_
    · rintro i H3 hi W3
      exact ⟨hk H3, .inl (.inl (W3.keep _ _ hv (by simp)))⟩
    · rintro i x H3 H4 hi W3 ⟨Tp, x1, x2, rfl, nT, rfl, e1, e2⟩
      have W4 := W3.new (o := .tup [x1, x2]) nT
      have ek : ks[i]? = some ks[i] := List.getElem?_eq_getElem hi
      obtain ⟨s, es, rs⟩ := he.at e2
      have e1 : (ks.map V.str)[i]? = some x1 := e1
      rw [List.getElem?_map, ek] at e1
      cases e1
      refine ⟨Tp, _, rfl, .inl (.inl upd_same), rfl, ?_⟩
      walk_at "rd"
      refine ⟨ks[i], x2, s, rfl, rs.keep W4.keep, fun H5 k5 => ?_⟩
      have W5 := W4.call0 k5
      refine ⟨_, W5.get 1 rfl, size_ok (by rw [List.length_map, List.length_take]; omega), ?_⟩
      have ez : (ks.zip xs)[i]? = some (ks[i], s) := by
        rw [List.getElem?_zip_eq_some]
        exact ⟨ek, es⟩
      rw [List.take_add_one, ez, List.map_append]
      exact W5.tail.set 0 rfl
    · rintro H3 W3
      have et : (ks.zip xs).take ks.length = ks.zip xs := List.take_of_length_le (by rw [List.length_zip]; omega)
      rw [et] at W3
      refine ⟨D, (ks.zip xs).map fun p => partB p.1 p.2, rfl, ?_, ?_⟩
      · rw [List.map_map]
        exact W3.sq 0 rfl
      · rw [List.all_map]
        exact q H3 W3.keep
theorem parts_at (T : Txt w K mg A) {z : Str} {f : List Nat} {ks : List Str} (h : (z, f, ks) ∈ forms) : ∃ p, KDct K w A.K_PARTS z (.ref p) ∧ ∀ H, SqT K H p (ks.map V.str) := by
  simp only [forms, List.mem_cons, List.not_mem_nil, or_false, Prod.mk.injEq] at h
  rcases h with ⟨rfl, rfl, rfl⟩ | ⟨rfl, rfl, rfl⟩ | ⟨rfl, rfl, rfl⟩ | ⟨rfl, rfl, rfl⟩ | ⟨rfl, rfl, rfl⟩ | ⟨rfl, rfl, rfl⟩ | ⟨rfl, rfl, rfl⟩ | ⟨rfl, rfl, rfl⟩ | ⟨rfl, rfl, rfl⟩ | ⟨rfl, rfl, rfl⟩ | ⟨rfl, rfl, rfl⟩
  · obtain ⟨p, h1, h2⟩ := T.at_PARTS_read; exact ⟨p, h1, fun H => .inr h2⟩
  · obtain ⟨p, h1, h2⟩ := T.at_PARTS_write; exact ⟨p, h1, fun H => .inr h2⟩
  · obtain ⟨p, h1, h2⟩ := T.at_PARTS_file; exact ⟨p, h1, fun H => .inr h2⟩
  · obtain ⟨p, h1, h2⟩ := T.at_PARTS_folder; exact ⟨p, h1, fun H => .inr h2⟩
  · obtain ⟨p, h1, h2⟩ := T.at_PARTS_move; exact ⟨p, h1, fun H => .inr h2⟩
  · obtain ⟨p, h1, h2⟩ := T.at_PARTS_remove; exact ⟨p, h1, fun H => .inr h2⟩
  · obtain ⟨p, h1, h2⟩ := T.at_PARTS_allow; exact ⟨p, h1, fun H => .inr h2⟩
  · obtain ⟨p, h1, h2⟩ := T.at_PARTS_default; exact ⟨p, h1, fun H => .inr h2⟩
  · obtain ⟨p, h1, h2⟩ := T.at_PARTS_mark; exact ⟨p, h1, fun H => .inr h2⟩
  · obtain ⟨p, h1, h2⟩ := T.at_PARTS_give; exact ⟨p, h1, fun H => .inr h2⟩
  · obtain ⟨p, h1, h2⟩ := T.at_PARTS_umask; exact ⟨p, h1, fun H => .inr h2⟩
theorem parts_no (T : Txt w K mg A) {z : Str} (h : kindsOf z = none) : PySem.W.nsIn K A.K_PARTS z = some none := by
  refine T.ms_PARTS z fun hz => ?_
  unfold kindsOf at h
  rw [Option.map_eq_none_iff, List.find?_eq_none] at h
  have all : (["read", "write", "file", "folder", "move", "remove", "allow", "default", "mark", "give", "umask"] : List Str).all (fun z => forms.any fun f => decide (f.1 = z)) = true := by decide +kernel
  obtain ⟨f, hf, e⟩ := List.any_eq_true.mp (List.all_eq_true.mp all z hz)
  exact h f hf e
theorem kinds_mem {z : Str} {ks : List Str} (h : kindsOf z = some ks) : ∃ f, (z, f, ks) ∈ forms := by
  unfold kindsOf at h
  obtain ⟨f, e, rfl⟩ := Option.map_eq_some_iff.mp h
  have h1 := List.mem_of_find?_eq_some e
  have h2 := List.find?_some e
  have h3 : f.1 = z := of_decide_eq_true h2
  exact ⟨f.2.1, by rw [← h3]; exact h1⟩
def spDeed (K : PySem.W.Frag) (A : Ads) : Sp := fun vs H Q _ => ∃ v, vs = [v] ∧ ((∃ t vl xs, v = .ref t ∧ H t = some (.tup vl) ∧ Els A H vl xs ∧ vl.length ≤ 1000 ∧ ∀ H', Keep [] H H' → Q (.bl (deedB xs)) H') ∨
  ((∃ t, TyX K H v t ∧ PySem.W.kitOne K t (.type "tuple") = some false) ∧ ∀ H', Keep [] H H' → Q (.bl false) H'))
theorem ok_is_deed (T : Txt w K mg A) : FnOk P w K mg base CX0 4 A.f_is_deed A.d_is_deed ["value"] (spDeed K A) := by
  refine T.F_is_deed.ok sc_is_deed (fun vs H Q E h => ?_) (fun cdv A_ outer s_ H vs Q E hr h => ?_)
  · obtain ⟨v, rfl, _⟩ := h
    rfl
  · obtain ⟨v, rfl, h⟩ := h
    have ok_is_user_name := fun (T : Txt w K mg A) => X.ok_is_user_name (P := P) (base := base) T
    have W : Ow H [] H [] := Ow.start0
    refine ⟨_, (pss_cons (ps_if (PW.pt (pw_or (pt_not (pt_val (pe_callB call_isi (by rfl) T.b_isinstance (by decide +kernel) (pa_cons (pv 0) (pa_cons (pe_bltn (v := .ty "tuple") rfl T.b_tuple (by decide +kernel) rfl) pa_nil))))) (pw_or1 (pt_cmpR op_lt (pe_callB call_len_seq (by rfl) T.b_len PySem.boot_len (pa_cons (pv 0) pa_nil)) pe_int (nomark _))))) (pss_one (ps_ret pe_bl)) pss_nil)
  (pss_cons (ps_asg (pv 0) (pg_unS (n := 3) (i := 2) rfl (pgs_cons (pg_name (i := 1) sc_is_deed.nd rfl (.inl rfl)) (pgs_cons (pg_name (i := 2) sc_is_deed.nd rfl (.inl rfl)) (pgs_star (pg_name (i := 3) sc_is_deed.nd rfl (.inl rfl)) pgs_nil)))))
  (pss_cons (ps_if (PW.pt (pw_or (pt_not (pt_val (pe_call (ok_is_user_name T) (hr.mono (by decide)) (by rfl) T.g_is_user_name T.F_is_user_name.kp T.B_is_user_name .nil pass0 (pa_cons (pv 1) pa_nil)))) (pw_or (pt_not (pt_val (pe_callB call_isi (by rfl) T.b_isinstance (by decide +kernel) (pa_cons (pv 2) (pa_cons (pe_bltn (v := .ty "str") rfl T.b_str (by decide +kernel) rfl) pa_nil))))) (pw_or1 (pt_cmpR (op_notKd (K := K) (w := w) rfl rfl T.kd_PARTS) (pv 2) (pe_gc rfl T.c_PARTS) rfl))))) (pss_one (ps_ret pe_bl)) pss_nil)
  (pss_one (ps_ret (pe_call (ok_are_parts T) (hr.mono (by decide)) (by rfl) T.g_are_parts T.F_are_parts.kp T.B_are_parts .nil pass0 (pa_cons (pe_ix (ix_kdictK (K := K) (w := w) rfl rfl) (pe_gc rfl T.c_PARTS) (pv 2) (fun _ _ => rfl)) (pa_cons (pv 3) pa_nil)))))))), ?_⟩
    rcases h with ⟨t, vl, xs, rfl, ht, he, hl, q⟩ | ⟨⟨t, ty, k⟩, q⟩
    rotate_left
    · walk_at "rd"
      refine ⟨_, _, _, _, _, rfl, .ty _, ty, k, ?_⟩
      walk_at "rd"
      exact q H Keep.refl
    have hvx : vl.length = xs.length := Paired.length he
    walk_at "rd"
    refine ⟨t, vl, rfl, .inr (.inl (.inl ht)), ?_⟩
    walk_at "rd"
    refine ifD (fun c => ?_) (fun c => ?_)
    · rw [deed_few (by omega)] at q
      walk_at "rd"
      exact q H Keep.refl
    match vl, xs, he, hvx, c, ht, q with
    | v0 :: v1 :: vr, s0 :: s1 :: r, he, hvx, c, ht, q =>
      have e0 : El A H v0 s0 := by cases he with | cons a b => exact a
      have e1 : El A H v1 s1 := by cases he with | cons a b => cases b with | cons a b => exact a
      have er : Els A H vr r := by cases he with | cons a b => cases b with | cons a b => exact b
      refine ⟨_, rfl, ?_⟩
      refine ⟨t, _, rfl, .inl (.inl ht), by simp, by omega, ?_⟩
      walk_at "obj"
      rename_i p H1 np kp hp W1
      have ep : List.take (v0 :: v1 :: vr).length vr = vr := List.take_of_length_le (by simp; omega)
      have hp' : H1 p = some (.lst vr) := by
        rw [hp]
        simp
      have k1 : Keep [] H H1 := W1.keep
      have W1' : Ow H [] H1 [] := W1.drop
      clear W1 W ep hp
      rw [show List.take 2 (v0 :: v1 :: vr) ++ [V.ref p] ++ List.drop ((v0 :: v1 :: vr).length + 1 - 3) (List.drop 2 (v0 :: v1 :: vr)) = [v0, v1, .ref p] by simp]
      have f0 := e0.keep k1
      have f1 := e1.keep k1
      have fr := er.keep k1
      have hqs : ∀ b : Bool, deedB (s0 :: s1 :: r) = b → ∀ H', Keep [] H1 H' → Q (.bl b) H' := fun b e H' k => by rw [← e]; exact q H' (k1.trans k)
      clear q
      walk_at "rd"
      refine ⟨v0, s0, rfl, f0, ?_⟩
      refine ⟨_, rfl, ifNB (b := usrS s0) (fun cu => ?_) (fun cu => ?_)⟩
      · walk_at "rd"
        refine hqs false ?_ H1 Keep.refl
        cases s0 <;> try rfl
        cases s1 <;> try rfl
        rename_i u z
        show (usrS (.str u) && restB z r) = false
        rw [cu, Bool.false_and]
      walk_at "rd"
      obtain ⟨tt, ty1, kk1, _⟩ := f1.ty T
      refine ⟨_, _, _, _, _, rfl, .ty _, ty1, kk1, ?_⟩
      refine ⟨_, rfl, ifNB (b := s1.isStr) (fun cs => ?_) (fun cs => ?_)⟩
      · walk_at "rd"
        refine hqs false ?_ H1 Keep.refl
        cases s0 <;> try rfl
        cases s1 <;> first | rfl | cases cs
      obtain ⟨u, rfl⟩ : ∃ u, s0 = .str u := by cases s0 <;> first | exact ⟨_, rfl⟩ | cases cu
      obtain ⟨z, rfl⟩ : ∃ z, s1 = .str z := by cases s1 <;> first | exact ⟨_, rfl⟩ | cases cs
      obtain ⟨rfl, _⟩ := f1
      have hd : deedB (.str u :: .str z :: r) = restB z r := by
        show (usrS (.str u) && restB z r) = _
        rw [cu, Bool.true_and]
      cases hks : kindsOf z with
      | none =>
        walk_at "rd"
        refine ⟨z, _, rfl, rfl, parts_no T hks, ?_⟩
        walk_at "rd"
        refine hqs false ?_ H1 Keep.refl
        rw [hd]
        unfold restB
        rw [hks]
      | some ks =>
        obtain ⟨f, hf⟩ := kinds_mem hks
        obtain ⟨kp, hk1, hk2⟩ := parts_at T hf
        obtain ⟨_, _, u0, _, _, hns, _⟩ := id hk1
        walk_at "rd"
        refine ⟨z, _, rfl, rfl, hns, ?_⟩
        walk_at "rd"
        refine ⟨_, z, _, rfl, rfl, hk1, ?_⟩
        have hkl : ks.length ≤ 1000 := by
          have all : forms.all (fun f => decide (f.2.2.length ≤ 1000)) = true := by decide +kernel
          exact of_decide_eq_true (List.all_eq_true.mp all _ hf)
        refine ⟨_, rfl, kp, p, ks, vr, r, rfl, hk2, hkl, hp', fr, fun H2 k2 => hqs _ ?_ H2 k2⟩
        rw [hd]
        unfold restB
        rw [hks]
    | [], xs, he, hvx, c, ht, q => exact absurd (show (0 : Int) < 3 by decide) c
    | [_], xs, he, hvx, c, ht, q => exact absurd (show (1 : Int) < 3 by decide) c
    | _ :: _ :: _, [], he, hvx, c, ht, q => simp at hvx
    | _ :: _ :: _, [_], he, hvx, c, ht, q => simp at hvx
end
end K41
namespace K41
open PySem PySem.Spec PyProof.Rows L2 FR TL
open C8 (pss_cut pe_gc)
open StX (pe_callS2 pa_star)
section
variable {P : Program} {w : World} {K : PySem.W.Frag} {mg : Str → Option Value} {base : Heap} {A : Ads}
set_option pp.maxSteps 120
/-- a text made with the bag: at most m signs, c counts -/
def spTx (lim m c : Nat) (F : Str → Prop) : Sp := fun vs H Q _ => ∃ (b : Addr) (n : Nat) (x y z : Int), vs = [.ref b] ∧ H b = some (bagO x y z) ∧ BagOk n x y z ∧ n < lim ∧
  ∀ (s : Str) (x' y' z' : Int) (H' : Hp), s.length ≤ m → Asc s → F s → BagOk (n + c) x' y' z' → Keep [b] H H' → H' b = some (bagO x' y' z') → Q (.str s) H'
theorem ok_word (T : Txt w K mg A) : FnOk P w K mg base CX0 2 A.f_word A.d_word ["_law_bag_here"] (spTx 800000 8 9 fun _ => True) := by
  refine T.F_word.ok sc_word (fun vs H Q E h => ?_) (fun cdv A_ outer s_ H vs Q E hr h => ?_)
  · obtain ⟨b, n, x, y, z, rfl, _⟩ := h
    rfl
  · obtain ⟨b, n, x, y, z, rfl, hb, ok, hn, q⟩ := h
    have W := Ow.start1 hb
    refine ⟨_, (pss_cons (ps_set (i := 1) sc_word.nd rfl (.inr rfl) pe_str)
  (pss_one (ps_ret (pe_join pe_str (pe_lc (own := [("_law_k", 2)]) (g := gName 2) rfl sc_word.nd (pi_range1 (by rfl) T.b_range (pa_cons (pe_op op_add pe_int (pe_call (ok_take T) (hr.mono (by decide)) (by rfl) T.g_take T.F_take.kp T.B_take .nil pass0 (pa_cons (pv 0) (pa_cons pe_int pa_nil)))) pa_nil)) (blkOk_by (own := [("_law_k", 2)]) (N := N_word) (sc := defScope s_word) (by decide +kernel)) (fun _ _ _ _ _ => pg_name (i := 2) sc_word.nd rfl (Or.inl rfl)) (fun _ _ _ _ _ => pts_nil) (fun _ _ _ _ _ => (pe_ix ix_str (pv 1) (pe_call (ok_take T) (hr.mono (by decide)) (by rfl) T.g_take T.F_take.kp T.B_take .nil pass0 (pa_cons (pv 0) (pa_cons pe_int pa_nil))) (fun _ _ => rfl)))))))), ?_⟩
    walk_at "rd"
    walk_at "take"
    rename_i d1 x1 y1 z1 H1 d10 d11 ok1 kp1 hb1 W1
    walk_at "rd"
    intro D hD
    refine lc_rg (fun i H' => ∃ (ws : List Str) (x y z : Int), ws.length = i ∧ (∀ t ∈ ws, t.length ≤ 1 ∧ Asc t) ∧ BagOk (n + 1 + i) x y z ∧ Ow H [b] H' [(D, .lst (ws.map V.str)), (b, bagO x y z)]) ?_ ?_ ?_
    · exact ⟨[], _, _, _, rfl, by simp, ok1, W1.new hD⟩
    · rintro i H7 hi ⟨ws, x7, y7, z7, hl, hws, ok7, W7⟩
      have hi' : i < 8 := by omega
      walk_at "rd"
      walk_at "take"
      rename_i d8 x8 y8 z8 H8 d80 d81 ok8 kp8 hb8 W8
      obtain ⟨c, hc, hm⟩ := atI_in (xs := tl (Str.ofString "abcdefghijklmnopqrstuvwxyz")) d80 (by rw [show (tl (Str.ofString "abcdefghijklmnopqrstuvwxyz")).length = 26 by decide +kernel]; exact d81)
      have hc8 : c < 128 := Asc.of (x := Str.ofString "abcdefghijklmnopqrstuvwxyz") (by decide +kernel) c hm
      refine ⟨_, _, c, rfl, rfl, size_le (by decide +kernel), hc, ?_⟩
      refine ⟨_, W8.get 0 rfl, size_ok (by rw [List.length_map]; omega), ws ++ [⟨#[c]⟩], x8, y8, z8, by rw [List.length_append, hl]; rfl, fun u hu => ?_, ok8.mono (by omega), ?_⟩
      · rcases List.mem_append.mp hu with h | h
        · exact hws u h
        · rw [List.mem_singleton.mp h]
          exact ⟨Nat.le_refl _, fun e he => by rw [List.mem_singleton.mp (show e ∈ [c] from he)]; exact hc8⟩
      · rw [List.map_append]
        exact W8.set 0 rfl
    · rintro H9 ⟨ws, x9, y9, z9, hl, hws, ok9, W9⟩
      have hwl : ws.length ≤ 8 := by omega
      have hsum : (ws.map (·.length)).sum ≤ 8 * 1 := Nat.le_trans (sum_le fun t ht => (hws t ht).1) (Nat.mul_le_mul_right 1 hwl)
      have h1 : (Str.ofString "").length = 0 := by decide +kernel
      have hjl := join_len (Str.ofString "") ws
      have hja : Asc (Txt.join (Str.ofString "") ws) := Asc.join (Asc.of (by decide +kernel)) fun t ht => (hws t ht).2
      rw [h1] at hjl
      walk_at "rd"
      refine ⟨_, _, ws, rfl, rfl, .inl (W9.sq 0 rfl), by rw [h1]; exact size_le (by omega), ?_⟩
      exact q _ _ _ _ H9 (by omega) hja trivial (ok9.mono (by omega)) W9.keep (W9.get 1 rfl)
theorem ok_path (T : Txt w K mg A) : FnOk P w K mg base CX0 3 A.f_path A.d_path ["_law_bag_here"] (spTx 700000 40 40 fun _ => True) := by
  refine T.F_path.ok sc_path (fun vs H Q E h => ?_) (fun cdv A_ outer s_ H vs Q E hr h => ?_)
  · obtain ⟨b, n, x, y, z, rfl, _⟩ := h
    rfl
  · obtain ⟨b, n, x, y, z, rfl, hb, ok, hn, q⟩ := h
    have W := Ow.start1 hb
    refine ⟨_, (pss_one (ps_ret (pe_op op_add_str pe_str (pe_join pe_str (pe_lc (own := [("_law_k", 1)]) (g := gName 1) rfl sc_path.nd (pi_range1 (by rfl) T.b_range (pa_cons (pe_call (ok_take T) (hr.mono (by decide)) (by rfl) T.g_take T.F_take.kp T.B_take .nil pass0 (pa_cons (pv 0) (pa_cons pe_int pa_nil))) pa_nil)) (blkOk_by (own := [("_law_k", 1)]) (N := N_path) (sc := defScope s_path) (by decide +kernel)) (fun _ _ _ _ _ => pg_name (i := 1) sc_path.nd rfl (Or.inl rfl)) (fun _ _ _ _ _ => pts_nil) (fun _ _ _ _ _ => (pe_call (ok_word T) (hr.mono (by decide)) (by rfl) T.g_word T.F_word.kp T.B_word .nil pass0 (pa_cons (pv 0) pa_nil)))))))), ?_⟩
    walk_at "rd"
    walk_at "take"
    rename_i d1 x1 y1 z1 H1 d10 d11 ok1 kp1 hb1 W1
    walk_at "rd"
    intro D hD
    refine lc_rg (fun i H' => ∃ (ws : List Str) (x y z : Int), ws.length = i ∧ (∀ t ∈ ws, t.length ≤ 8 ∧ Asc t) ∧ BagOk (n + 1 + 9 * i) x y z ∧ Ow H [b] H' [(D, .lst (ws.map V.str)), (b, bagO x y z)]) ?_ ?_ ?_
    · exact ⟨[], _, _, _, rfl, by simp, ok1, W1.new hD⟩
    · rintro i H7 hi ⟨ws, x7, y7, z7, hl, hws, ok7, W7⟩
      have hi' : i < 4 := by omega
      walk_at "rd"
      refine ⟨b, _, _, _, _, rfl, W7.get 1 rfl, ok7, by omega, fun t x8 y8 z8 H8 htl hta _ ok8 kp8 hb8 => ?_⟩
      have W8 := W7.any1 1 rfl kp8 hb8
      refine ⟨_, W8.get 0 rfl, size_ok (by rw [List.length_map]; omega), ws ++ [t], x8, y8, z8, by rw [List.length_append, hl]; rfl, fun u hu => ?_, ok8.mono (by omega), ?_⟩
      · rcases List.mem_append.mp hu with h | h
        · exact hws u h
        · rw [List.mem_singleton.mp h]; exact ⟨htl, hta⟩
      · rw [List.map_append]
        exact W8.set 0 rfl
    · rintro H7 ⟨ws, x7, y7, z7, hl, hws, ok7, W7⟩
      have hwl : ws.length ≤ 3 := by omega
      have hsum : (ws.map (·.length)).sum ≤ 3 * 8 := Nat.le_trans (sum_le fun t ht => (hws t ht).1) (Nat.mul_le_mul_right 8 hwl)
      have h1 : (Str.ofString "/").length = 1 := by decide +kernel
      have h1a : Asc (Str.ofString "/") := Asc.of (by decide +kernel)
      have hjl := join_len (Str.ofString "/") ws
      have hja : Asc (Txt.join (Str.ofString "/") ws) := Asc.join h1a fun t ht => (hws t ht).2
      rw [h1] at hjl
      walk_at "rd"
      refine ⟨_, _, ws, rfl, rfl, .inl (W7.sq 0 rfl), by rw [h1]; exact size_le (by omega), ?_⟩
      generalize Txt.join (Str.ofString "/") ws = jn at hjl hja
      walk_at "rd"
      exact q _ _ _ _ H7 (by rw [len_app, h1]; omega) (h1a.app hja) trivial (ok7.mono (by omega)) W7.keep (W7.get 1 rfl)
theorem ok_digits (T : Txt w K mg A) : FnOk P w K mg base CX0 2 A.f_digits A.d_digits ["_law_bag_here"] (spTx 800000 3 3 fun s => digs s = true) := by
  refine T.F_digits.ok sc_digits (fun vs H Q E h => ?_) (fun cdv A_ outer s_ H vs Q E hr h => ?_)
  · obtain ⟨b, n, x, y, z, rfl, _⟩ := h
    rfl
  · obtain ⟨b, n, x, y, z, rfl, hb, ok, hn, q⟩ := h
    have W := Ow.start1 hb
    refine ⟨_, (pss_one (ps_ret (pe_join pe_str (pe_lc (own := [("_law_k", 1)]) (g := gName 1) rfl sc_digits.nd (pi_range1 (by rfl) T.b_range (pa_cons pe_int pa_nil)) (blkOk_by (own := [("_law_k", 1)]) (N := N_digits) (sc := defScope s_digits) (by decide +kernel)) (fun _ _ _ _ _ => pg_name (i := 1) sc_digits.nd rfl (Or.inl rfl)) (fun _ _ _ _ _ => pts_nil) (fun _ _ _ _ _ => (pe_ix ix_str pe_str (pe_call (ok_take T) (hr.mono (by decide)) (by rfl) T.g_take T.F_take.kp T.B_take .nil pass0 (pa_cons (pv 0) (pa_cons pe_int pa_nil))) (fun _ _ => rfl))))))), ?_⟩
    walk_at "rd"
    intro D hD
    refine lc_rg (fun i H' => ∃ (cs : List Nat) (x y z : Int), cs.length = i ∧ (∀ c ∈ cs, dg c = true) ∧ BagOk (n + i) x y z ∧ Ow H [b] H' [(D, .lst ((sg cs).map V.str)), (b, bagO x y z)]) ?_ ?_ ?_
    · exact ⟨[], _, _, _, rfl, by simp, ok, W.new hD⟩
    · rintro i H7 hi ⟨cs, x7, y7, z7, hl, hws, ok7, W7⟩
      have hi' : i < 3 := hi
      walk_at "rd"
      walk_at "take"
      rename_i d8 x8 y8 z8 H8 d80 d81 ok8 kp8 hb8 W8
      obtain ⟨c, hc, hm⟩ := atI_in (xs := tl (Str.ofString "01234567")) d80 (by rw [show (tl (Str.ofString "01234567")).length = 8 by decide +kernel]; exact d81)
      have hdc : dg c = true := decide_eq_true hm
      refine ⟨_, _, c, rfl, rfl, size_le (by decide +kernel), hc, ?_⟩
      refine ⟨_, W8.get 0 rfl, size_ok (by rw [List.length_map, sg_len]; omega), cs ++ [c], x8, y8, z8, by rw [List.length_append, hl]; rfl, fun u hu => ?_, ok8.mono (by omega), ?_⟩
      · rcases List.mem_append.mp hu with h | h
        · exact hws u h
        · rw [List.mem_singleton.mp h]; exact hdc
      · rw [sg_app]
        exact W8.set 0 rfl
    · rintro H9 ⟨cs, x9, y9, z9, hl, hws, ok9, W9⟩
      have h1 : (Str.ofString "").length = 0 := by decide +kernel
      have hl : cs.length = 3 := hl
      have ht : tl (Txt.join (Str.ofString "") (sg cs)) = cs := tl_joined_sg cs
      have hlen : (Txt.join (Str.ofString "") (sg cs)).length = 3 := by rw [len_tl, ht, hl]
      have hsum : ((sg cs).map (·.length)).sum ≤ 3 := by rw [sum_one sg_one, sg_len, hl]; exact Nat.le_refl 3
      walk_at "rd"
      refine ⟨_, _, sg cs, rfl, rfl, .inl (W9.sq 0 rfl), by rw [h1]; exact size_le (by omega), ?_⟩
      refine q _ _ _ _ H9 (by omega) (fun c hc => dg_lt (hws c (by rw [ht] at hc; exact hc))) ?_ (ok9.mono (by omega)) W9.keep (W9.get 1 rfl)
      show digs _ = true
      unfold digs
      rw [decide_eq_true hlen, ht, Bool.true_and]
      exact List.all_eq_true.mpr hws
end
end K41
namespace K41
open PySem PySem.Spec PyProof.Rows L2 FR TL
open C8 (pss_cut pe_gc)
open StX (pe_callS2 pa_star)
theorem paired_app {α β : Type} {R : α → β → Prop} {a c : List α} {b d : List β} (h : Paired R a b) (g : Paired R c d) : Paired R (a ++ c) (b ++ d) := by
  induction h with
  | nil => exact g
  | cons x _ ih => exact .cons x ih
def lets (f : List Nat) : Str := ⟨f.toArray⟩
/-- the law's own table -/
def formKV : List (L2.Key × V) := forms.map fun f => (.inr f.1, .str (lets f.2.1))
section
variable {P : Program} {w : World} {K : PySem.W.Frag} {mg : Str → Option Value} {base : Heap} {A : Ads}
set_option pp.maxSteps 120
theorem ok_forms (T : Txt w K mg A) : FnOk P w K mg base CX0 1 A.f_forms A.d_forms [] (fun vs H Q _ => vs = [] ∧ NewO (.dK formKV) Q H) := by
  refine T.F_forms.ok sc_forms (fun vs H Q E h => ?_) (fun cdv A_ outer s_ H vs Q E hr h => ?_)
  · obtain ⟨rfl, _⟩ := h
    rfl
  · obtain ⟨rfl, q⟩ := h
    have W : Ow H [] H [] := Ow.start0
    refine ⟨_, (pss_cons (ps_set (i := 0) sc_forms.nd rfl (.inl rfl) (pe_disp (pps_cons pe_str pe_str (pps_cons pe_str pe_str (pps_cons pe_str pe_str (pps_cons pe_str pe_str (pps_cons pe_str pe_str (pps_cons pe_str pe_str (pps_cons pe_str pe_str pps_nil))))))) (by rfl) (by rfl) (fun z => by cases z) (by decide)))
  (pss_one (ps_ret (pe_callTy (call_dictP rfl) (by rfl) T.b_dict (by decide +kernel) (pa_cons (pe_op op_catN (pe_callTy (call_lItems rfl) (by rfl) T.b_list (by decide +kernel) (pa_cons (pe_bm0 PySem.F.plainAttrs_dict PySem.F.slot_dict_items PySem.F.type_dict_items mt_itemsK (pv 0)) pa_nil)) (pe_lstS (pa_cons (pe_tupN (pa_cons pe_str (pa_cons pe_str pa_nil))) (pa_cons (pe_tupN (pa_cons pe_str (pa_cons pe_str pa_nil))) (pa_cons (pe_tupN (pa_cons pe_str (pa_cons pe_str pa_nil))) (pa_cons (pe_tupN (pa_cons pe_str (pa_cons pe_str pa_nil))) pa_nil)))))) pa_nil))))), ?_⟩
    walk_at "rd"
    intro p np
    refine ⟨upd_same, (forms.take 7).map (fun f => (.inr f.1, .str (lets f.2.1))), rfl, by decide, ?_⟩
    have em : mergeK [] ((forms.take 7).map fun f => ((.inr f.1, .str (lets f.2.1)) : L2.Key × V)) = (forms.take 7).map fun f => (.inr f.1, .str (lets f.2.1)) := rfl
    have W1 := (W.new (o := .dK []) np).set (o' := .dK (mergeK [] ((forms.take 7).map fun f => ((.inr f.1, .str (lets f.2.1)) : L2.Key × V)))) 0 rfl
    rw [em] at W1 ⊢
    generalize hk7 : ((forms.take 7).map fun f => ((.inr f.1, .str (lets f.2.1)) : L2.Key × V)) = k7 at W1 ⊢
    walk_at "rd"
    refine ⟨.inr (.inr (.inl ⟨rfl, .inl ⟨_, W1.get 0 rfl⟩⟩)), p, k7, rfl, rfl, W1.get 0 rfl, fun p2 np2 => ?_⟩
    have W2 := W1.new (o := L2.DX.itemsO p2 p) np2
    refine ⟨p2, p, k7, rfl, upd_same, W2.get 1 rfl, fun H3 l ps nl k3 hl3 pr => ?_⟩
    have kH : Keep [] H H3 := (W2.call0 k3).keep
    have nH : ∀ p, H3 p = none → H p = none := fun p n => kH.free n
    have hps : ps.length = 7 := by rw [Paired.length pr, ← hk7]; rfl
    have pr3 : Paired (fun p kv => H3 p = some (.tup [kV kv.1, kv.2])) ps k7 := Paired.mapP pr fun _ _ z => z.2
    clear pr k3 W2 W1
    have W3 : Ow H3 [] H3 [] := Ow.start0
    walk_at "rd"
    rename_i t1 H4 n1 k4 h1 W4 t2 H5 n2 k5 h2 W5 t3 H6 n3 k6 h3 W6 t4 H7 n4 k7' h4 W7 p8 H8 n8 s8 k8 h8 W8
    refine ⟨l, p8, _, _, rfl, rfl, W8.keep _ _ hl3 (by simp), h8, by rw [List.length_map, hps]; exact Nat.le_of_ble_eq_true rfl, ?_⟩
    walk_at "obj"
    rename_i p9 H9 n9 k9 h9 W9
    have k39 : Keep [] H3 H9 := W9.keep
    refine ⟨p9, ps ++ [t1, t2, t3, t4], k7 ++ (forms.drop 7).map (fun f => (.inr f.1, .str (lets f.2.1))), rfl, .inl (.inl ?_), paired_app (Paired.mapP pr3 fun a b z => .inl (.inl (k39 _ _ z (by simp)))) ?_, fun p np => ?_⟩
    · rw [h9, List.map_append]
      rfl
    · exact .cons (.inl (.inl (W9.get 5 rfl))) (.cons (.inl (.inl (W9.get 4 rfl))) (.cons (.inl (.inl (W9.get 3 rfl))) (.cons (.inl (.inl (W9.get 2 rfl))) .nil)))
    · rw [← hk7]
      show Q _ (upd H9 p (.dK formKV))
      have n0 : H p = none := kH.free (k39.free np)
      exact q.to p _ n0 (kH.trans (k39.trans (keep_new np))) upd_same
end
end K41
namespace K41
open PySem PySem.Spec PyProof.Rows L2 FR TL
open C8 (pss_cut pe_gc)
open StX (pe_callS2 pa_star)
section
variable {P : Program} {w : World} {K : PySem.W.Frag} {mg : Str → Option Value} {base : Heap} {A : Ads}
set_option pp.maxSteps 120
theorem filt_asc {p : Nat → Bool} {s : Str} (a : Asc s) : ∀ c ∈ (tl s).filter p, c < 128 := fun c hc => a c (List.mem_filter.mp hc).1
theorem sgn_lt (c d : Nat) : decide ((⟨#[c]⟩ : Str).cps.toList < (⟨#[d]⟩ : Str).cps.toList) = decide (c < d) := by
  refine decide_eq_decide.mpr ?_
  show [c] < [d] ↔ c < d
  rw [List.cons_lt_cons_iff]
  simp
theorem lt_a (d : Nat) : decide ((⟨#[d]⟩ : Str).cps.toList < (Str.ofString "a").cps.toList) = decide (d < 97) := by
  rw [show Str.ofString "a" = ⟨#[97]⟩ by decide +kernel]
  exact sgn_lt d 97
theorem gt_z (d : Nat) : decide ((Str.ofString "z").cps.toList < (⟨#[d]⟩ : Str).cps.toList) = decide (122 < d) := by
  rw [show Str.ofString "z" = ⟨#[122]⟩ by decide +kernel]
  exact sgn_lt 122 d
def spLf (A : Ads) (f : S0 → Bool) : Sp := fun vs H Q _ => ∃ v s, vs = [v] ∧ El A H v s ∧ ∀ H', Keep [] H H' → Q (.bl (f s)) H'
theorem ok_l_is_name (T : Txt w K mg A) : FnOk P w K mg base CX0 1 A.f_l_is_name A.d_l_is_name ["_law_thing"] (spLf A nmS) := by
  refine T.F_l_is_name.ok sc_l_is_name (fun vs H Q E h => ?_) (fun cdv A_ outer s_ H vs Q E hr h => ?_)
  · obtain ⟨v, s, rfl, _⟩ := h
    rfl
  · obtain ⟨v, s, rfl, hv, q⟩ := h
    have W : Ow H [] H [] := Ow.start0
    refine ⟨_, (pss_cons (ps_if (PW.pt (pw_or (pt_not (pt_val (pe_callB call_isi (by rfl) T.b_isinstance (by decide +kernel) (pa_cons (pv 0) (pa_cons (pe_bltn (v := .ty "str") rfl T.b_str (by decide +kernel) rfl) pa_nil))))) (pw_or1 (pt_not (pt_chain op_le op_le pe_int (pe_callB call_len_str (by rfl) T.b_len PySem.boot_len (pa_cons (pv 0) pa_nil)) pe_int))))) (pss_one (ps_ret pe_bl)) pss_nil)
  (pss_one (ps_ret (pe_cmpR (op_eqD hr.units) (pe_lc (own := [("_law_sign", 1)]) (g := gName 1) rfl sc_l_is_name.nd (pi_str (pv 0)) (blkOk_by (own := [("_law_sign", 1)]) (N := N_l_is_name) (sc := defScope s_l_is_name) (by decide +kernel)) (fun _ _ _ _ _ => pg_name (i := 1) sc_l_is_name.nd rfl (Or.inl rfl)) (fun _ _ _ _ _ => (pts_one (PW.pt (pw_or (pt_cmpR op_lt_str (pv 1) pe_str (nomark _)) (pw_or1 (pt_cmpR op_gt_str (pv 1) pe_str (nomark _))))))) (fun _ _ _ _ _ => (pv 1))) (pe_lstS pa_nil) (nomark _))))), ?_⟩
    obtain ⟨tt, ty, kk, _⟩ := hv.ty T
    cases s with
    | str s =>
      obtain ⟨rfl, hl, ha⟩ := hv
      have hz : s.length ≤ sizeLine := size_le (by omega)
      have hlen := len_tl s
      have q : ∀ H', Keep [] H H' → Q (.bl (nm s)) H' := q
      walk_at "rd"
      refine ite2 (fun c1 => ?_) (fun c1 => ?_)
      rotate_left
      · walk_at "rd"
        have hn : nm s = false := by
          unfold nm
          rw [decide_eq_false (fun h => c1 (decide_eq_true (by have e : s.length ≠ 0 := fun e => h.1 ((empty_iff s).mpr (List.length_eq_zero_iff.mp (hlen ▸ e))); omega)))]
          rfl
        have q' := q H Keep.refl
        rw [hn] at q'
        exact q'
      have c1' : 1 ≤ s.length := by have := of_decide_eq_true c1; omega
      have c : s ≠ Str.ofString "" := fun e => by rw [hlen, (empty_iff s).mp e] at c1'; exact absurd c1' (by decide)
      walk_at "rd"
      refine ifNB (b := decide ((s.length : Int) ≤ 8)) (fun c8 => ?_) (fun c8 => ?_)
      · have c8' := of_decide_eq_false c8
        walk_at "rd"
        have q' := q H Keep.refl
        rw [show nm s = false by unfold nm; rw [decide_eq_false (fun h => by have := h.2; omega)]; rfl] at q'
        exact q'
      have c8' := of_decide_eq_true c8
      walk_at "rd"
      intro D hD
      refine lc_str (s := s) (fun pre H' => Ow H [] H' [(D, .lst ((sg (pre.filter (fun d => !lc d))).map V.str))]) (W.new hD) ?_ ?_
      · rintro pre d post H8 e8 W8
        have hpre : (pre.filter (fun d => !lc d)).length ≤ 400 := by
          have h1 := List.length_filter_le (fun d => !lc d) pre
          have h2 : pre.length ≤ (tl s).length := by rw [e8, List.length_append]; omega
          omega
        have hin : lc d = false → (pre ++ [d]).filter (fun d => !lc d) = pre.filter (fun d => !lc d) ++ [d] := fun h => by
          rw [List.filter_append, List.filter_cons, if_pos (by rw [h]; rfl)]; rfl
        walk_at "rd"
        refine ifQ (p := d < 97) (lt_a d) (fun c9 => ?_) (fun c9 => ?_)
        · walk_at "rd"
          refine ⟨_, W8.get 0 rfl, size_ok (by rw [List.length_map, sg_len]; omega), ?_⟩
          rw [hin (decide_eq_false (fun h => by have := h.1; have c9' : d < 97 := c9; omega)), sg_app]
          exact W8.set 0 rfl
        walk_at "rd"
        refine ifQ (p := 122 < d) (gt_z d) (fun c10 => ?_) (fun c10 => ?_)
        · walk_at "rd"
          refine ⟨_, W8.get 0 rfl, size_ok (by rw [List.length_map, sg_len]; omega), ?_⟩
          rw [hin (decide_eq_false (fun h => by have := h.2; have c10' : 122 < d := c10; omega)), sg_app]
          exact W8.set 0 rfl
        · have c9' : ¬ d < 97 := c9
          have c10' : ¬ 122 < d := c10
          rw [show (pre ++ [d]).filter (fun d => !lc d) = pre.filter (fun d => !lc d) by rw [List.filter_append, List.filter_cons, if_neg (by rw [show lc d = true from decide_eq_true ⟨by omega, by omega⟩]; decide)]; simp]
          exact W8
      · intro H9 W9
        have hfa := filt_asc (p := fun d => !lc d) ha
        have hn : nm s = decide (sg ((tl s).filter (fun d => !lc d)) = []) := by
          unfold nm
          rw [decide_eq_true ⟨c, by omega⟩, Bool.true_and, Bool.eq_iff_iff, decide_eq_true_eq, List.all_eq_true]
          unfold sg
          rw [List.map_eq_nil_iff, List.filter_eq_nil_iff]
          simp
        walk_at "rd"
        rename_i p H10 np10 sp10 kp10 hp10 W10
        refine ⟨dStrs (sg ((tl s).filter (fun d => !lc d))), dStrs [], dp_strs (W10.sq 1 rfl), dp_strs (ws := []) (W10.sq 0 rfl), shaped_strs (sg_asc hfa), shaped_strs (by simp), ?_⟩
        rw [eqv_nil, ← hn]
        exact q H10 W10.keep
    | _ =>
      walk_at "rd"
      refine ⟨_, _, _, _, _, rfl, .ty _, ty, kk, ?_⟩
      walk_at "rd"
      exact q H Keep.refl
theorem ifK {X Y : Prop} {c d : Nat} {t : Str} (ht : t = ⟨#[d]⟩) (h1 : c = d → X) (h2 : c ≠ d → Y) : if decide (V.str ⟨#[c]⟩ = V.str t) = true then X else Y := by
  subst ht
  exact ifC h1 h2
theorem El.accOr (T : Txt w K mg A) {H : Hp} {v : V} {s : S0} (h : El A H v s) : (∃ a dx fs, v = .ref a ∧ H a = some (.ins A.C_AccessList dx fs) ∧ s.isAcc = true) ∨ ∃ t, TyX K H v t ∧ PySem.W.kitOne K t (.ref A.C_AccessList) = some false ∧ s.isAcc = false := by
  cases s with
  | non => cases h; exact .inr ⟨_, .base .non, T.kt_AccessList_NoneType, rfl⟩
  | bl => obtain ⟨b, rfl⟩ := h; exact .inr ⟨_, .base (.bl _), T.kt_AccessList_bool, rfl⟩
  | int => obtain ⟨b, rfl⟩ := h; exact .inr ⟨_, .base (.int _), T.kt_AccessList_int, rfl⟩
  | str s => obtain ⟨rfl, _⟩ := h; exact .inr ⟨_, .base (.str _), T.kt_AccessList_str, rfl⟩
  | lst => obtain ⟨a, xs, rfl, e⟩ := h; exact .inr ⟨_, .base (.lst e), T.kt_AccessList_list, rfl⟩
  | tup => obtain ⟨a, xs, rfl, e⟩ := h; exact .inr ⟨_, .base (.tup e), T.kt_AccessList_tuple, rfl⟩
  | dct => obtain ⟨a, xs, rfl, e⟩ := h; exact .inr ⟨_, .base (.dK e), T.kt_AccessList_dict, rfl⟩
  | acc => obtain ⟨a, dx, fs, rfl, e⟩ := h; exact .inl ⟨a, dx, fs, rfl, e, rfl⟩
/-- a part of this kind, by the law's letter -/
def fitB (c : Nat) (s : S0) : Bool :=
  if c = 112 then pthS s else if c = 100 then digS s else if c = 99 then s.isStr else if c = 98 then s.isBl else if c = 103 then nmS s else (s.isAcc || (decide (c = 110) && s.isNon))
theorem ok_fits (T : Txt w K mg A) : FnOk P w K mg base CX0 2 A.f_fits A.d_fits ["_law_kind", "_law_thing"] (fun vs H Q _ => ∃ c v s, vs = [.str ⟨#[c]⟩, v] ∧ El A H v s ∧ ∀ H', Keep [] H H' → Q (.bl (fitB c s)) H') := by
  refine T.F_fits.ok sc_fits (fun vs H Q E h => ?_) (fun cdv A_ outer s_ H vs Q E hr h => ?_)
  · obtain ⟨c, v, s, rfl, _⟩ := h
    rfl
  · obtain ⟨c, v, s, rfl, hv, q⟩ := h
    have W : Ow H [] H [] := Ow.start0
    unfold fitB at q
    obtain ⟨tt, ty, k1, k2⟩ := hv.ty T
    refine ⟨_, (pss_cons (ps_if (pt_cmpR op_eq (pv 0) pe_str (nomark _)) (pss_cons (ps_if (PW.pt (pw_or (pt_not (pt_val (pe_callB call_isi (by rfl) T.b_isinstance (by decide +kernel) (pa_cons (pv 1) (pa_cons (pe_bltn (v := .ty "str") rfl T.b_str (by decide +kernel) rfl) pa_nil))))) (pw_or1 (pt_cmpR op_ne (pe_slice sl_str (pv 1) po_none (po_some pe_int)) pe_str (nomark _))))) (pss_one (ps_ret pe_bl)) pss_nil)
  (pss_one (ps_ret (pe_or (pe_cmpR op_eq (pv 1) pe_str (nomark _)) (pe_one (pe_cmpR (op_eqD hr.units) (pe_lc (own := [("_law_name", 2)]) (g := gName 2) rfl sc_fits.nd (pi_list (pe_m1 PySem.F.slot_str_split PySem.F.type_str_split mt_splN (pe_slice sl_str (pv 1) (po_some pe_int) po_none) pe_str)) (blkOk_by (own := [("_law_name", 2)]) (N := N_fits) (sc := defScope s_fits) (by decide +kernel)) (fun _ _ _ _ _ => pg_name (i := 2) sc_fits.nd rfl (Or.inl rfl)) (fun _ _ _ _ _ => (pts_one (pt_not (pt_val (pe_call (ok_l_is_name T) (hr.mono (by decide)) (by rfl) T.g_l_is_name T.F_l_is_name.kp T.B_l_is_name .nil pass0 (pa_cons (pv 2) pa_nil)))))) (fun _ _ _ _ _ => (pv 2))) (pe_lstS pa_nil) (nomark _))))))) pss_nil)
  (pss_cons (ps_if (pt_cmpR op_eq (pv 0) pe_str (nomark _)) (pss_one (ps_ret (pe_and (pe_callB call_isi (by rfl) T.b_isinstance (by decide +kernel) (pa_cons (pv 1) (pa_cons (pe_bltn (v := .ty "str") rfl T.b_str (by decide +kernel) rfl) pa_nil))) (pe_and (pe_cmpR op_eq (pe_callB call_len_str (by rfl) T.b_len PySem.boot_len (pa_cons (pv 1) pa_nil)) pe_int (nomark _)) (pe_one (pe_cmpR (op_eqD hr.units) (pe_lc (own := [("_law_sign", 3)]) (g := gName 3) rfl sc_fits.nd (pi_str (pv 1)) (blkOk_by (own := [("_law_sign", 3)]) (N := N_fits) (sc := defScope s_fits) (by decide +kernel)) (fun _ _ _ _ _ => pg_name (i := 3) sc_fits.nd rfl (Or.inl rfl)) (fun _ _ _ _ _ => (pts_one (pt_cmpR op_notIn_sign (pv 3) pe_str rfl))) (fun _ _ _ _ _ => (pv 3))) (pe_lstS pa_nil) (nomark _))))))) pss_nil)
  (pss_cons (ps_if (pt_cmpR op_eq (pv 0) pe_str (nomark _)) (pss_one (ps_ret (pe_callB call_isi (by rfl) T.b_isinstance (by decide +kernel) (pa_cons (pv 1) (pa_cons (pe_bltn (v := .ty "str") rfl T.b_str (by decide +kernel) rfl) pa_nil))))) pss_nil)
  (pss_cons (ps_if (pt_cmpR op_eq (pv 0) pe_str (nomark _)) (pss_one (ps_ret (pe_callB call_isi (by rfl) T.b_isinstance (by decide +kernel) (pa_cons (pv 1) (pa_cons (pe_bltn (v := .ty "bool") rfl T.b_bool (by decide +kernel) rfl) pa_nil))))) pss_nil)
  (pss_cons (ps_if (pt_cmpR op_eq (pv 0) pe_str (nomark _)) (pss_one (ps_ret (pe_call (ok_l_is_name T) (hr.mono (by decide)) (by rfl) T.g_l_is_name T.F_l_is_name.kp T.B_l_is_name .nil pass0 (pa_cons (pv 1) pa_nil)))) pss_nil)
  (pss_one (ps_ret (pe_or (pe_callB (call_isA T.in_AccessList) (by rfl) T.b_isinstance (by decide +kernel) (pa_cons (pv 1) (pa_cons (pe_gc rfl T.c_AccessList) pa_nil))) (pe_one (pe_and (pe_cmpR op_eq (pv 0) pe_str (nomark _)) (pe_one (pe_cmpR op_isN (pv 1) pe_non (nomark _))))))))))))), ?_⟩
    walk_at "rd"
    refine ifK (d := 112) (by decide +kernel) (fun e => ?_) (fun e => ?_)
    · rw [if_pos e] at q
      walk_at "rd"
      refine ⟨_, _, _, _, _, rfl, .ty _, ty, k1, ?_⟩
      refine ⟨_, rfl, ?_⟩
      cases s with
      | str s =>
        obtain ⟨rfl, hl, ha⟩ := hv
        have hz : s.length ≤ sizeLine := size_le (by omega)
        have q : ∀ H', Keep [] H H' → Q (.bl (pth s)) H' := q
        refine ifF rfl ?_
        unfold pth at q
        walk_at "rd"
        refine ifVSn (fun c => ?_) (fun c => ?_)
        · walk_at "rd"
          rw [show Txt.startswith s ⟨#[47]⟩ = false by rw [← Bool.not_eq_true]; exact fun h => c ((hd_eq s).mpr h)] at q
          exact q H Keep.refl
        have c1 := (hd_eq s).mp c
        rw [c1, split_from c1] at q
        have hcl := cutS_len s (some 1) none
        have hca := ha.cut (some 1) none
        walk_at "rd"
        refine ifVS (fun e => ?_) (fun e => ?_)
        · rw [decide_eq_true (e.trans slash)] at q
          exact q H Keep.refl
        rw [decide_eq_false (fun h => e (h.trans slash.symm))] at q
        generalize hrr : cutS s (some 1) none = r at q hcl hca ⊢
        have hpl : ∀ x ∈ Txt.split r ⟨#[47]⟩, x.length ≤ r.length ∧ Asc x := fun x hx => ⟨split_le (by decide) x hx, split_asc (by decide) hca x hx⟩
        have hpn : (Txt.split r ⟨#[47]⟩).length ≤ r.length + 1 := split_len (by decide)
        walk_at "rd"
        rw [hrr, slash]
        refine ⟨size_le (by omega), ?_⟩
        generalize Txt.split r ⟨#[47]⟩ = ps at q hpl hpn ⊢
        walk_at "obj"
        rename_i p3 H3 np3 kp3 hp3 W3
        refine ⟨_, rfl, ⟨_, W3.sq 0 rfl⟩, fun D hD => ?_⟩
        refine lc_li (a := p3) (xs := ps.map V.str) (fun pre H' => ∃ vs : List Str, pre = vs.map V.str ∧ Ow H [] H' [(D, .lst ((vs.filter (fun z => !nm z)).map V.str)), (p3, .lst (ps.map V.str))]) ⟨[], rfl, W3.new hD⟩ ?_ ?_ ?_
        · rintro pre post H5 e ⟨vs, _, W5⟩
          exact W5.sq 1 rfl
        · rintro pre x post H5 e ⟨vs, rfl, W5⟩
          obtain ⟨v, hv, rfl⟩ := List.mem_map.mp (show x ∈ ps.map V.str by rw [e]; simp)
          have hwl : vs.length ≤ ps.length := by
            have := congrArg List.length e
            rw [List.length_append, List.length_map, List.length_map] at this
            omega
          have hfl := List.length_filter_le (fun z => !nm z) vs
          walk_at "rd"
          refine ⟨.str v, .str v, rfl, ⟨rfl, by have := (hpl v hv).1; omega, (hpl v hv).2⟩, fun H6 k6 => ?_⟩
          have W6 := W5.call0 k6
          walk_at "rd"
          refine ifNB (b := nm v) (fun c5 => ?_) (fun c5 => ?_)
          · walk_at "rd"
            refine ⟨_, W6.get 0 rfl, size_ok (by rw [List.length_map]; omega), vs ++ [v], by rw [List.map_append]; rfl, ?_⟩
            rw [List.filter_append, List.filter_cons, if_pos (by rw [c5]; rfl), List.map_append]
            exact W6.set 0 rfl
          · refine ⟨vs ++ [v], by rw [List.map_append]; rfl, ?_⟩
            rw [List.filter_append, List.filter_cons, if_neg (by rw [c5]; decide), List.filter_nil, List.append_nil]
            exact W6
        · rintro H5 ⟨vs, e, W5⟩
          have e' : ps = vs := by
            have : ps.map V.str = vs.map V.str := e
            exact (List.map_inj_right (fun a b h => V.str.inj h)).mp this
          subst e'
          have hn : ps.all nm = decide (ps.filter (fun z => !nm z) = []) := by
            rw [Bool.eq_iff_iff, decide_eq_true_eq, List.all_eq_true, List.filter_eq_nil_iff]
            simp
          rw [hn] at q
          walk_at "rd"
          rename_i p6 H6 np6 sp6 kp6 hp6 W6
          refine ⟨dStrs (ps.filter (fun z => !nm z)), dStrs [], dp_strs (W6.sq 1 rfl), dp_strs (ws := []) (W6.sq 0 rfl), shaped_strs (fun z hz => (hpl z (List.mem_filter.mp hz).1).2), shaped_strs (by simp), ?_⟩
          rw [eqv_nil]
          exact q H6 W6.keep
      | _ =>
        refine ifT rfl ?_
        walk_at "rd"
        exact q H Keep.refl
    rw [if_neg e] at q
    walk_at "rd"
    refine ifK (d := 100) (by decide +kernel) (fun e => ?_) (fun e => ?_)
    · rw [if_pos e] at q
      walk_at "rd"
      refine ⟨_, _, _, _, _, rfl, .ty _, ty, k1, ?_⟩
      refine ⟨_, rfl, ?_⟩
      cases s with
      | str s =>
        obtain ⟨rfl, hl, ha⟩ := hv
        have hz : s.length ≤ sizeLine := size_le (by omega)
        have hlen := len_tl s
        have q : ∀ H', Keep [] H H' → Q (.bl (digs s)) H' := q
        unfold digs at q
        refine ifT rfl ?_
        walk_at "rd"
        refine ifQ (p := s.length = 3) (decide_eq_decide.mpr ⟨fun h => by have := V.int.inj h; omega, fun h => by rw [h]; rfl⟩) (fun h3 => ?_) (fun h3 => ?_)
        · rw [decide_eq_true h3, Bool.true_and] at q
          walk_at "rd"
          intro D hD
          refine lc_str (s := s) (fun pre H' => Ow H [] H' [(D, .lst ((sg (pre.filter (fun d => !dg d))).map V.str))]) (W.new hD) ?_ ?_
          · rintro pre d post H8 e8 W8
            have hpre : (pre.filter (fun d => !dg d)).length ≤ 400 := by
              have h1 := List.length_filter_le (fun d => !dg d) pre
              have h2 : pre.length ≤ (tl s).length := by rw [e8, List.length_append]; omega
              omega
            walk_at "rd"
            refine ifNB (b := dg d) (fun c5 => ?_) (fun c5 => ?_)
            · walk_at "rd"
              refine ⟨_, W8.get 0 rfl, size_ok (by rw [List.length_map, sg_len]; omega), ?_⟩
              rw [show (pre ++ [d]).filter (fun d => !dg d) = pre.filter (fun d => !dg d) ++ [d] by rw [List.filter_append, List.filter_cons, if_pos (by rw [c5]; rfl)]; rfl, sg_app]
              exact W8.set 0 rfl
            · rw [show (pre ++ [d]).filter (fun d => !dg d) = pre.filter (fun d => !dg d) by rw [List.filter_append, List.filter_cons, if_neg (by rw [c5]; decide)]; simp]
              exact W8
          · intro H9 W9
            have hfa := filt_asc (p := fun d => !dg d) ha
            have hn : (tl s).all dg = decide (sg ((tl s).filter (fun d => !dg d)) = []) := by
              rw [Bool.eq_iff_iff, decide_eq_true_eq, List.all_eq_true]
              unfold sg
              rw [List.map_eq_nil_iff, List.filter_eq_nil_iff]
              simp
            walk_at "rd"
            rename_i p H10 np10 sp10 kp10 hp10 W10
            refine ⟨dStrs (sg ((tl s).filter (fun d => !dg d))), dStrs [], dp_strs (W10.sq 1 rfl), dp_strs (ws := []) (W10.sq 0 rfl), shaped_strs (sg_asc hfa), shaped_strs (by simp), ?_⟩
            rw [eqv_nil, ← hn]
            exact q H10 W10.keep
        · rw [decide_eq_false h3, Bool.false_and] at q
          exact q H Keep.refl
      | _ =>
        exact ifF rfl (q H Keep.refl)
    rw [if_neg e] at q
    walk_at "rd"
    refine ifK (d := 99) (by decide +kernel) (fun e => ?_) (fun e => ?_)
    · rw [if_pos e] at q
      walk_at "rd"
      exact ⟨_, _, _, _, _, rfl, .ty _, ty, k1, q H Keep.refl⟩
    rw [if_neg e] at q
    walk_at "rd"
    refine ifK (d := 98) (by decide +kernel) (fun e => ?_) (fun e => ?_)
    · rw [if_pos e] at q
      walk_at "rd"
      exact ⟨_, _, _, _, _, rfl, .ty _, ty, k2, q H Keep.refl⟩
    rw [if_neg e] at q
    walk_at "rd"
    refine ifK (d := 103) (by decide +kernel) (fun e => ?_) (fun e => ?_)
    · rw [if_pos e] at q
      walk_at "rd"
      exact ⟨v, s, rfl, hv, q⟩
    rw [if_neg e] at q
    have q := q H Keep.refl
    walk_at "rd"
    rcases hv.accOr T with ⟨a, dx, fs, rfl, ea, ca⟩ | ⟨t, ty, kk, ca⟩
    · rw [ca] at q
      exact .inl ⟨a, dx, fs, rfl, ea, _, rfl, ifT rfl q⟩
    refine .inr ⟨_, _, _, _, _, rfl, .own _, ty, kk, _, rfl, ifF rfl ?_⟩
    rw [ca, Bool.false_or] at q
    walk_at "rd"
    refine ifK (d := 110) (by decide +kernel) (fun e => ?_) (fun e => ?_)
    · rw [decide_eq_true e, Bool.true_and, ← hv.isNon] at q
      walk_at "rd"
      exact q
    · rw [decide_eq_false e, Bool.false_and] at q
      exact q
end
end K41
namespace K41
open PySem PySem.Spec PyProof.Rows L2 FR TL
open C8 (pss_cut pe_gc)
open StX (pe_callS2 pa_star)
/-- the law's form of a deed -/
def restL (z : Str) (r : List S0) : Bool := match forms.find? fun f => f.1 = z with
  | some f => decide (r.length = f.2.1.length) && (f.2.1.zip r).all fun p => fitB p.1 p.2
  | none => false
def kindW (c : Nat) : Str := if c = 112 then "path" else if c = 100 then "digits" else if c = 99 then "content" else if c = 98 then "mark" else if c = 103 then "group" else if c = 110 then "default" else "access"
theorem kind_fit : ∀ c ∈ [112, 100, 99, 98, 103, 110, 97], ∀ s, partB (kindW c) s = fitB c s := by
  intro c hc s
  simp only [List.mem_cons, List.not_mem_nil, or_false] at hc
  unfold partB fitB
  rcases hc with rfl | rfl | rfl | rfl | rfl | rfl | rfl
  · rw [if_pos (by decide +kernel), if_pos rfl]
  · rw [if_neg (by decide +kernel), if_pos (by decide +kernel), if_neg (by decide), if_pos rfl]
  · rw [if_neg (by decide +kernel), if_neg (by decide +kernel), if_pos (by decide +kernel), if_neg (by decide), if_neg (by decide), if_pos rfl]
  · rw [if_neg (by decide +kernel), if_neg (by decide +kernel), if_neg (by decide +kernel), if_neg (by decide +kernel), if_neg (by decide +kernel), if_pos (by decide +kernel), if_neg (by decide), if_neg (by decide), if_neg (by decide), if_pos rfl]
  · rw [if_neg (by decide +kernel), if_neg (by decide +kernel), if_neg (by decide +kernel), if_neg (by decide +kernel), if_neg (by decide +kernel), if_neg (by decide +kernel), if_neg (by decide), if_neg (by decide), if_neg (by decide), if_neg (by decide), if_pos rfl]
  · rw [if_neg (by decide +kernel), if_neg (by decide +kernel), if_neg (by decide +kernel), if_neg (by decide +kernel), if_pos (by decide +kernel), if_neg (by decide), if_neg (by decide), if_neg (by decide), if_neg (by decide), if_neg (by decide), decide_eq_true rfl, Bool.true_and, Bool.or_comm]
  · rw [if_neg (by decide +kernel), if_neg (by decide +kernel), if_neg (by decide +kernel), if_pos (by decide +kernel), if_neg (by decide), if_neg (by decide), if_neg (by decide), if_neg (by decide), if_neg (by decide), decide_eq_false (by decide), Bool.false_and, Bool.or_false]
theorem zip_fit : ∀ (f : List Nat) (r : List S0), (∀ c ∈ f, c ∈ [112, 100, 99, 98, 103, 110, 97]) → ((f.map kindW).zip r).all (fun p => partB p.1 p.2) = (f.zip r).all fun p => fitB p.1 p.2
  | [], r, _ => rfl
  | c :: f, [], _ => rfl
  | c :: f, s :: r, h => by
    have ih := zip_fit f r fun d hd => h d (List.mem_cons_of_mem _ hd)
    rw [List.map_cons, List.zip_cons_cons, List.zip_cons_cons, List.all_cons, List.all_cons, ih, kind_fit c (h c List.mem_cons_self)]
theorem forms_ok : forms.all (fun f => decide (f.2.2 = f.2.1.map kindW) && f.2.1.all fun c => decide (c ∈ [112, 100, 99, 98, 103, 110, 97])) = true := by decide +kernel
theorem rest_eq (z : Str) (r : List S0) : restB z r = restL z r := by
  unfold restB restL kindsOf
  cases e : forms.find? fun f => f.1 = z with
  | none => rfl
  | some f =>
    have h := List.all_eq_true.mp forms_ok f (List.mem_of_find?_eq_some e)
    rw [Bool.and_eq_true, decide_eq_true_eq, List.all_eq_true] at h
    show (decide (r.length = f.2.2.length) && (f.2.2.zip r).all fun p => partB p.1 p.2) = _
    rw [h.1, List.length_map, zip_fit f.2.1 r fun c hc => of_decide_eq_true (h.2 c hc)]
def dInts (l : List Int) : PyData := .list (l.map .int)
theorem dpAll_ints {K : PySem.W.Frag} {H : Hp} : ∀ l : List Int, DpAll K H (l.map V.int) (l.map .int)
  | [] => .nil
  | s :: r => .cons (.int s) (dpAll_ints r)
theorem dp_ints {K : PySem.W.Frag} {H : Hp} {a : Addr} {l : List Int} (h : SqL K H a (l.map V.int)) : Dp K H (.ref a) (dInts l) := .lst h (dpAll_ints l)
theorem lay_ints : ∀ l : List Int, PyData.canLayAll0 (l.map .int) = true
  | [] => rfl
  | s :: r => by
    rw [List.map_cons, PyData.canLayAll0, lay_ints r]
    rfl
theorem depth_ints : ∀ l : List Int, PyData.depthAll (l.map .int) = 0
  | [] => rfl
  | s :: r => by rw [List.map_cons, PyData.depthAll, PyData.depth, depth_ints r]; rfl
theorem shaped_ints (l : List Int) : SeqAt.shaped (dInts l) = true := by
  unfold SeqAt.shaped dInts
  rw [PyData.canLay0, lay_ints, PyData.depth, depth_ints]
  rfl
theorem eqv_nilI : ∀ l : List Int, PyData.eqv (dInts l) (dInts []) = decide (l = [])
  | [] => rfl
  | s :: r => rfl
theorem val_form (z : Str) : valV formKV (.inr z) = (forms.find? fun f => f.1 = z).map fun f => V.str (lets f.2.1) := by
  unfold valV formKV
  rw [List.find?_map, Option.map_map]
  congr 1
  refine congrArg (fun p => List.find? p forms) (funext fun f => ?_)
  show decide ((Sum.inr f.1 : L2.Key) = .inr z) = decide (f.1 = z)
  simp
theorem rest_none {z : Str} {r : List S0} (h : forms.find? (fun f => f.1 = z) = none) : restL z r = false := by
  unfold restL
  rw [h]
theorem rest_some {z : Str} {r : List S0} {f : Str × List Nat × List Str} (h : forms.find? (fun f => f.1 = z) = some f) : restL z r = (decide (r.length = f.2.1.length) && (f.2.1.zip r).all fun p => fitB p.1 p.2) := by
  unfold restL
  rw [h]
theorem lets_len (f : List Nat) : (lets f).length = f.length := by rw [len_tl]; simp [lets]
theorem deed_nm {s0 s1 : S0} {r : List S0} (h : nmS s0 = false) : deedB (s0 :: s1 :: r) = false := by
  cases s0 with
  | str u => cases s1 with
    | str z =>
      show ((nm u && _) && restB z r) = false
      rw [show nm u = false from h, Bool.false_and, Bool.false_and]
    | _ => rfl
  | _ => rfl
theorem deed_root {u : Str} {s1 : S0} {r : List S0} (h : u = Str.ofString "root") : deedB (.str u :: s1 :: r) = false := by
  cases s1 with
  | str z =>
    show ((nm u && decide (u ≠ Str.ofString "root")) && restB z r) = false
    rw [decide_eq_false (fun k => k h), Bool.and_false, Bool.false_and]
  | _ => rfl
theorem deed_ns {s0 s1 : S0} {r : List S0} (h : s1.isStr = false) : deedB (s0 :: s1 :: r) = false := by
  cases s0 with
  | str u => cases s1 with
    | str z => cases h
    | _ => rfl
  | _ => rfl
section
variable {P : Program} {w : World} {K : PySem.W.Frag} {mg : Str → Option Value} {base : Heap} {A : Ads}
set_option pp.maxSteps 120
theorem ok_due (T : Txt w K mg A) : FnOk P w K mg base CX0 3 A.f_due A.d_due ["_law_thing"] (spDeed K A) := by
  refine T.F_due.ok sc_due (fun vs H Q E h => ?_) (fun cdv A_ outer s_ H vs Q E hr h => ?_)
  · obtain ⟨v, rfl, _⟩ := h
    rfl
  · obtain ⟨v, rfl, h⟩ := h
    have W : Ow H [] H [] := Ow.start0
    refine ⟨_, (pss_cons (ps_if (PW.pt (pw_or (pt_not (pt_val (pe_callB call_isi (by rfl) T.b_isinstance (by decide +kernel) (pa_cons (pv 0) (pa_cons (pe_bltn (v := .ty "tuple") rfl T.b_tuple (by decide +kernel) rfl) pa_nil))))) (pw_or (pt_cmpR op_lt (pe_callB call_len_seq (by rfl) T.b_len PySem.boot_len (pa_cons (pv 0) pa_nil)) pe_int (nomark _)) (pw_or (pt_not (pt_val (pe_call (ok_l_is_name T) (hr.mono (by decide)) (by rfl) T.g_l_is_name T.F_l_is_name.kp T.B_l_is_name .nil pass0 (pa_cons (pe_ix ix_tup (pv 0) pe_int (fun _ _ => rfl)) pa_nil)))) (pw_or1 (pt_cmpR op_eq (pe_ix ix_tup (pv 0) pe_int (fun _ _ => rfl)) pe_str (nomark _))))))) (pss_one (ps_ret pe_bl)) pss_nil)
  (pss_cons (ps_if (PW.pt (pw_or (pt_not (pt_val (pe_callB call_isi (by rfl) T.b_isinstance (by decide +kernel) (pa_cons (pe_ix ix_tup (pv 0) pe_int (fun _ _ => rfl)) (pa_cons (pe_bltn (v := .ty "str") rfl T.b_str (by decide +kernel) rfl) pa_nil))))) (pw_or1 (pt_cmp (pc_dnotin (hu_of hr) (pe_ix ix_tup (pv 0) pe_int (fun _ _ => rfl)) (pe_call0 (ok_forms T) (hr.mono (by decide)) (by rfl) T.g_forms T.F_forms.kp T.B_forms .nil pass0)))))) (pss_one (ps_ret pe_bl)) pss_nil)
  (pss_cons (ps_set (i := 1) sc_due.nd rfl (.inl rfl) (pe_dget (hu_of hr) (pe_call0 (ok_forms T) (hr.mono (by decide)) (by rfl) T.g_forms T.F_forms.kp T.B_forms .nil pass0) (pe_ix ix_tup (pv 0) pe_int (fun _ _ => rfl)) (fun _ _ => rfl)))
  (pss_cons (ps_if (pt_cmpR op_ne (pe_callB call_len_seq (by rfl) T.b_len PySem.boot_len (pa_cons (pv 0) pa_nil)) (pe_op op_add pe_int (pe_callB call_len_str (by rfl) T.b_len PySem.boot_len (pa_cons (pv 1) pa_nil))) (nomark _)) (pss_one (ps_ret pe_bl)) pss_nil)
  (pss_one (ps_ret (pe_cmpR (op_eqD hr.units) (pe_lc (own := [("_law_k", 2), ("_law_kind", 3)]) (g := gTup K 2 (gCons (gName 2) (gCons (gName 3) gNil))) rfl sc_due.nd (pi_enumS (by rfl) T.b_enumerate (pa_cons (pv 1) pa_nil)) (blkOk_by (own := [("_law_k", 2), ("_law_kind", 3)]) (N := N_due) (sc := defScope s_due) (by decide +kernel)) (fun _ _ _ _ _ => (pg_tup rfl (pgs_cons (pg_name (i := 2) sc_due.nd rfl (.inl rfl)) (pgs_cons (pg_name (i := 3) sc_due.nd rfl (.inl rfl)) pgs_nil)))) (fun _ _ _ _ _ => (pts_one (pt_not (pt_val (pe_call (ok_fits T) (hr.mono (by decide)) (by rfl) T.g_fits T.F_fits.kp T.B_fits .nil pass0 (pa_cons (pv 3) (pa_cons (pe_ix (ix_tupK (K := K) rfl) (pv 0) (pe_op op_add pe_int (pv 2)) (fun _ _ => rfl)) pa_nil))))))) (fun _ _ _ _ _ => (pv 2))) (pe_lstS pa_nil) (nomark _)))))))), ?_⟩
    rcases h with ⟨t, vl, xs, rfl, ht, he, hl, q⟩ | ⟨⟨t, ty, k⟩, q⟩
    rotate_left
    · walk_at "rd"
      refine ⟨_, _, _, _, _, rfl, .ty _, ty, k, ?_⟩
      walk_at "rd"
      exact q H Keep.refl
    have hvx : vl.length = xs.length := Paired.length he
    walk_at "rd"
    refine ⟨t, vl, rfl, .inr (.inl (.inl ht)), ?_⟩
    walk_at "rd"
    refine ifD (fun c => ?_) (fun c => ?_)
    · rw [deed_few (by omega)] at q
      walk_at "rd"
      exact q H Keep.refl
    match vl, xs, he, hvx, c, ht, q with
    | v0 :: v1 :: vr, s0 :: s1 :: r, he, hvx, c, ht, q =>
      have e0 : El A H v0 s0 := by cases he with | cons a b => exact a
      have e1 : El A H v1 s1 := by cases he with | cons a b => cases b with | cons a b => exact a
      have er : Els A H vr r := by cases he with | cons a b => cases b with | cons a b => exact b
      have hqs : ∀ b : Bool, deedB (s0 :: s1 :: r) = b → ∀ H', Keep [] H H' → Q (.bl b) H' := fun b e H' k => by rw [← e]; exact q H' k
      clear q c hvx
      walk_at "rd"
      refine ⟨t, _, 0, v0, rfl, rfl, .inl (.inl ht), atI_nat (j := 0) rfl, ?_⟩
      refine ⟨v0, s0, rfl, e0, fun H1 k1 => ?_⟩
      have W1 : Ow H1 [] H1 [] := Ow.start0
      have ht1 := k1 _ _ ht (by simp)
      have f0 := e0.keep k1
      have f1 := e1.keep k1
      have fr := er.keep k1
      have hqs : ∀ b : Bool, deedB (s0 :: s1 :: r) = b → ∀ H', Keep [] H1 H' → Q (.bl b) H' := fun b e H' k => hqs b e H' (k1.trans k)
      clear W e0 e1 er
      refine ⟨_, rfl, ifNB (b := nmS s0) (fun cu => ?_) (fun cu => ?_)⟩
      · walk_at "rd"
        exact hqs false (deed_nm cu) H1 Keep.refl
      obtain ⟨u, rfl⟩ : ∃ u, s0 = .str u := by cases s0 <;> first | exact ⟨_, rfl⟩ | cases cu
      obtain ⟨rfl, hu1, hu2⟩ := f0
      walk_at "rd"
      refine ⟨t, _, 0, .str u, rfl, rfl, .inl (.inl ht1), atI_nat (j := 0) rfl, ?_⟩
      walk_at "rd"
      refine ifVS (fun cr => ?_) (fun cr => ?_)
      · walk_at "rd"
        exact hqs false (deed_root cr) H1 Keep.refl
      have hus : usrS (.str u) = true := by
        show (nm u && decide (u ≠ Str.ofString "root")) = true
        rw [show nm u = true from cu, decide_eq_true cr]
        rfl
      walk_at "rd"
      refine ⟨t, _, 1, v1, rfl, rfl, .inl (.inl ht1), atI_nat (j := 1) rfl, ?_⟩
      obtain ⟨tt, ty1, kk1, _⟩ := f1.ty T
      refine ⟨_, _, _, _, _, rfl, .ty _, ty1, kk1, ?_⟩
      refine ⟨_, rfl, ifNB (b := s1.isStr) (fun cs => ?_) (fun cs => ?_)⟩
      · walk_at "rd"
        exact hqs false (deed_ns cs) H1 Keep.refl
      obtain ⟨z, rfl⟩ : ∃ z, s1 = .str z := by cases s1 <;> first | exact ⟨_, rfl⟩ | cases cs
      obtain ⟨rfl, hz1, hz2⟩ := f1
      have hd : deedB (.str u :: .str z :: r) = restL z r := by
        show (usrS (.str u) && restB z r) = _
        rw [hus, Bool.true_and, rest_eq]
      walk_at "rd"
      refine ⟨t, _, 1, .str z, rfl, rfl, .inl (.inl ht1), atI_nat (j := 1) rfl, ?_⟩
      walk_at "rd"
      rename_i p2 H2 np2 kp2 hp2 W2
      have ht2 := kp2 _ _ ht1 (by simp)
      refine ⟨p2, _, rfl, .inl ⟨formKV, .inr z, .inl hp2, rfl, rfl⟩, ?_⟩
      rw [val_form]
      cases hf : forms.find? fun f => f.1 = z with
      | none =>
        walk_at "rd"
        exact hqs false (by rw [hd, rest_none hf]) H2 W2.keep
      | some f =>
        rw [rest_some hf] at hd
        have hfl : f.2.1.length ≤ 3 := by
          have all : forms.all (fun f => decide (f.2.1.length ≤ 3)) = true := by decide +kernel
          exact of_decide_eq_true (List.all_eq_true.mp all _ (List.mem_of_find?_eq_some hf))
        have hll := lets_len f.2.1
        walk_at "rd"
        rename_i p3 H3 np3 kp3 hp3 W3
        have ht3 := kp3 _ _ ht2 (by simp)
        refine ⟨t, _, 1, .str z, rfl, rfl, .inl (.inl ht3), atI_nat (j := 1) rfl, ?_⟩
        refine ⟨p3, .str (lets f.2.1), rfl, .inl ⟨formKV, .inr z, .inl hp3, rfl, by rw [val_form, hf]; rfl⟩, ?_⟩
        walk_at "rd"
        refine ⟨t, _, rfl, .inr (.inl (.inl ht3)), ?_⟩
        walk_at "rd"
        have hrl : vr.length = r.length := Paired.length fr
        refine ifVIn (fun ne => ?_) (fun eq => ?_)
        · walk_at "rd"
          refine hqs false ?_ H3 W3.keep
          rw [hd, decide_eq_false (fun h => ne ?_), Bool.false_and]
          rw [List.length_cons, List.length_cons]
          omega
        rw [List.length_cons, List.length_cons] at eq
        have hn : r.length = f.2.1.length := by omega
        have hz : (lets f.2.1).cps.size = f.2.1.length := by simp [lets]
        rw [decide_eq_true hn, Bool.true_and] at hd
        walk_at "rd"
        intro D hD
        refine lc_it (walk_enumS (z := lets f.2.1)) (fun i H' => ∃ ns : List Int, Ow H1 [] H' [(D, .lst (ns.map V.int))] ∧ ns.length ≤ i ∧ (decide (ns = []) = ((f.2.1.zip r).take i).all fun p => fitB p.1 p.2)) ⟨[], W3.drop.new hD, Nat.le_refl _, rfl⟩ (fun _ _ _ _ => True.intro) ?_ ?_
        · rintro i x H5 H6 hi ⟨ns, W5, hnl, hns⟩ ⟨Tp, x1, x2, rfl, nT, rfl, e1, e2⟩
          have W6 := W5.new (o := .tup [x1, x2]) nT
          cases (show some (V.int (i : Nat)) = some x1 from e1)
          have hif : i < f.2.1.length := by rw [← hz]; exact hi
          have ef : f.2.1[i]? = some f.2.1[i] := List.getElem?_eq_getElem hif
          have e2 : (lets f.2.1).cps[i]?.map (fun c => V.str ⟨#[c]⟩) = some x2 := e2
          rw [show (lets f.2.1).cps[i]? = some f.2.1[i] by rw [← ef]; simp [lets]] at e2
          cases e2
          have hir : i < vr.length := by omega
          have ev : vr[i]? = some vr[i] := List.getElem?_eq_getElem hir
          obtain ⟨s, es, rs⟩ := fr.at ev
          have ez : (f.2.1.zip r)[i]? = some (f.2.1[i], s) := by
            rw [List.getElem?_zip_eq_some]
            exact ⟨ef, es⟩
          refine ⟨Tp, _, rfl, .inl (.inl upd_same), rfl, ?_⟩
          walk_at "rd"
          refine ⟨t, _, _, vr[i], rfl, rfl, .inl (.inl (W6.keep _ _ ht1 (by simp))), ?_, ?_⟩
          · rw [show (2 + ((i : Nat) : Int)) = ((i + 2 : Nat) : Int) by omega]
            exact atI_nat ev
          refine ⟨f.2.1[i], vr[i], s, rfl, rs.keep W6.keep, fun H7 k7 => ?_⟩
          have W7 := W6.call0 k7
          refine ⟨_, rfl, ifNB (b := fitB f.2.1[i] s) (fun c5 => ?_) (fun c5 => ?_)⟩
          · walk_at "rd"
            refine ⟨_, W7.get 1 rfl, size_ok (by rw [List.length_map]; omega), ns ++ [(i : Int)], ?_, by rw [List.length_append]; exact Nat.succ_le_succ hnl, ?_⟩
            · rw [List.map_append]
              exact W7.tail.set 0 rfl
            · rw [List.take_add_one, ez, List.all_append, ← hns]
              simp [c5]
          · refine ⟨ns, W7.tail, by omega, ?_⟩
            rw [List.take_add_one, ez, List.all_append, ← hns]
            simp [c5]
        · rintro H5 ⟨ns, W5, hnl, hns⟩
          rw [hz, List.take_of_length_le (by rw [List.length_zip]; omega), ← hd] at hns
          walk_at "rd"
          rename_i p6 H6 np6 sp6 kp6 hp6 W6
          refine ⟨dInts ns, dInts [], dp_ints (W6.sq 1 rfl), dp_ints (l := []) (W6.sq 0 rfl), shaped_ints _, shaped_ints [], ?_⟩
          rw [show PyData.eqv (dInts ns) (dInts []) = decide (ns = []) by cases ns <;> rfl, hns]
          exact hqs _ rfl H6 W6.keep
    | [], xs, he, hvx, c, ht, q => exact absurd (show (0 : Int) < 2 by decide) c
    | [_], xs, he, hvx, c, ht, q => exact absurd (show (1 : Int) < 2 by decide) c
    | _ :: _ :: _, [], he, hvx, c, ht, q => simp at hvx
    | _ :: _ :: _, [_], he, hvx, c, ht, q => simp at hvx
end
end K41
namespace K41
open PySem PySem.Spec PyProof.Rows L2 FR TL
open C8 (pss_cut pe_gc)
open StX (pe_callS2 pa_star)
/-- a value that may be asked whether it is a deed -/
def Th (A : Ads) (H : Hp) (v : V) : Prop := (∃ t vl, v = .ref t ∧ H t = some (.tup vl) ∧ (∀ x ∈ vl, ∃ s, El A H x s) ∧ vl.length ≤ 1000) ∨ ∃ s, El A H v s ∧ s ≠ .tup
theorem Th.el {A : Ads} {H : Hp} {v : V} (h : Th A H v) : ∃ s, El A H v s := by
  rcases h with ⟨t, vl, rfl, ht, _⟩ | ⟨s, h, _⟩
  · exact ⟨.tup, t, vl, rfl, ht⟩
  · exact ⟨s, h⟩
theorem Th.keep {A : Ads} {H H' : Hp} {v : V} (h : Th A H v) (k : Keep [] H H') : Th A H' v := by
  rcases h with ⟨t, vl, rfl, ht, he, hl⟩ | ⟨s, h, n⟩
  · exact .inl ⟨t, vl, rfl, k _ _ ht (by simp), fun x hx => (he x hx).imp fun s h => h.keep k, hl⟩
  · exact .inr ⟨s, h.keep k, n⟩
theorem els_of {A : Ads} {H : Hp} : ∀ {vl : List V}, (∀ x ∈ vl, ∃ s, El A H x s) → ∃ xs, Els A H vl xs
  | [], _ => ⟨[], .nil⟩
  | v :: r, h => by
    obtain ⟨s, hs⟩ := h v List.mem_cons_self
    obtain ⟨xs, hx⟩ := els_of fun x hx => h x (List.mem_cons_of_mem _ hx)
    exact ⟨s :: xs, .cons hs hx⟩
section
variable {P : Program} {w : World} {K : PySem.W.Frag} {mg : Str → Option Value} {base : Heap} {A : Ads}
set_option pp.maxSteps 120
theorem El.noTup (T : Txt w K mg A) {H : Hp} {v : V} {s : S0} (h : El A H v s) (n : s ≠ .tup) : ∃ t, TyX K H v t ∧ PySem.W.kitOne K t (.type "tuple") = some false := by
  cases s with
  | non => cases h; exact ⟨_, .base .non, kit_ty ki_non_tuple⟩
  | bl => obtain ⟨b, rfl⟩ := h; exact ⟨_, .base (.bl _), kit_ty ki_bl_tuple⟩
  | int => obtain ⟨b, rfl⟩ := h; exact ⟨_, .base (.int _), kit_ty ki_int_tuple⟩
  | str s => obtain ⟨rfl, _⟩ := h; exact ⟨_, .base (.str _), kit_ty ki_str_tuple⟩
  | lst => obtain ⟨a, xs, rfl, e⟩ := h; exact ⟨_, .base (.lst e), kit_ty ki_lst_tuple⟩
  | tup => exact absurd rfl n
  | dct => obtain ⟨a, xs, rfl, e⟩ := h; exact ⟨_, .base (.dK e), kit_ty ki_dK_tuple⟩
  | acc => obtain ⟨a, dx, fs, rfl, e⟩ := h; exact ⟨_, .base (.ins e T.cl_AccessList T.in_AccessList.ha T.in_AccessList.hn T.in_AccessList.htk T.in_AccessList.hm), T.ki_AccessList_tuple⟩
theorem Th.deed (T : Txt w K mg A) {H : Hp} {v : V} (h : Th A H v) : ∃ b : Bool, ∀ H1, Keep [] H H1 → ∀ (Q : VK) (E : XK), (∀ H', Keep [] H1 H' → Q (.bl b) H') → spDeed K A [v] H1 Q E := by
  rcases h with ⟨t, vl, rfl, ht, he, hl⟩ | ⟨s, h, n⟩
  · obtain ⟨xs, hx⟩ := els_of he
    exact ⟨deedB xs, fun H1 k Q E q => ⟨_, rfl, .inl ⟨t, vl, xs, rfl, k _ _ ht (by simp), hx.keep k, hl, q⟩⟩⟩
  · exact ⟨false, fun H1 k Q E q => ⟨_, rfl, .inr ⟨(h.keep k).noTup T n, q⟩⟩⟩
/-- what a part is made from -/
def spKind (A : Ads) : Sp := fun vs H Q _ => ∃ (b : Addr) (n c : Nat) (x y z : Int), vs = [.ref b, .str ⟨#[c]⟩] ∧ H b = some (bagO x y z) ∧ BagOk n x y z ∧ n < 600000 ∧
  ∀ (v : V) (s : S0) (x' y' z' : Int) (H' : Hp), El A H' v s → BagOk (n + 50) x' y' z' → Keep [b] H H' → H' b = some (bagO x' y' z') → Q v H'
theorem ok_of_kind (T : Txt w K mg A) : FnOk P w K mg base CX0 11 A.f_of_kind A.d_of_kind ["_law_bag_here", "_law_kind"] (spKind A) := by
  refine T.F_of_kind.ok sc_of_kind (fun vs H Q E h => ?_) (fun cdv A_ outer s_ H vs Q E hr h => ?_)
  · obtain ⟨b, n, c, x, y, z, rfl, _⟩ := h
    rfl
  · obtain ⟨b, n, c, x, y, z, rfl, hb, ok, hn, q⟩ := h
    have W := Ow.start1 hb
    refine ⟨_, (pss_cons (ps_if (pt_cmpR op_eq (pv 1) pe_str (nomark _)) (pss_one (ps_ret (pe_call (ok_path T) (hr.mono (by decide)) (by rfl) T.g_path T.F_path.kp T.B_path .nil pass0 (pa_cons (pv 0) pa_nil)))) pss_nil)
  (pss_cons (ps_if (pt_cmpR op_eq (pv 1) pe_str (nomark _)) (pss_one (ps_ret (pe_call (ok_digits T) (hr.mono (by decide)) (by rfl) T.g_digits T.F_digits.kp T.B_digits .nil pass0 (pa_cons (pv 0) pa_nil)))) pss_nil)
  (pss_cons (ps_if (pt_cmpR op_eq (pv 1) pe_str (nomark _)) (pss_one (ps_ret (pe_ix ix_list (pe_lstS (pa_cons pe_str (pa_cons pe_str (pa_cons pe_str pa_nil)))) (pe_call (ok_take T) (hr.mono (by decide)) (by rfl) T.g_take T.F_take.kp T.B_take .nil pass0 (pa_cons (pv 0) (pa_cons pe_int pa_nil))) (fun _ _ => rfl)))) pss_nil)
  (pss_cons (ps_if (pt_cmpR op_eq (pv 1) pe_str (nomark _)) (pss_one (ps_ret (pe_cmpR op_eq (pe_call (ok_take T) (hr.mono (by decide)) (by rfl) T.g_take T.F_take.kp T.B_take .nil pass0 (pa_cons (pv 0) (pa_cons pe_int pa_nil))) pe_int (nomark _)))) pss_nil)
  (pss_cons (ps_if (pt_cmpR op_eq (pv 1) pe_str (nomark _)) (pss_one (ps_ret (pe_ix ix_list (pe_lstS (pa_cons pe_str (pa_cons (pe_call (ok_word T) (hr.mono (by decide)) (by rfl) T.g_word T.F_word.kp T.B_word .nil pass0 (pa_cons (pv 0) pa_nil)) pa_nil))) (pe_call (ok_take T) (hr.mono (by decide)) (by rfl) T.g_take T.F_take.kp T.B_take .nil pass0 (pa_cons (pv 0) (pa_cons pe_int pa_nil))) (fun _ _ => rfl)))) pss_nil)
  (pss_one (ps_ret (pe_ifExp (PW.pt (pw_and (pt_cmpR op_eq (pv 1) pe_str (nomark _)) (pw_and1 (pt_cmpR op_eq (pe_call (ok_take T) (hr.mono (by decide)) (by rfl) T.g_take T.F_take.kp T.B_take .nil pass0 (pa_cons (pv 0) (pa_cons pe_int pa_nil))) pe_int (nomark _))))) pe_non (ClX.pe_cmeth (pe_gc rfl T.c_AccessList) T.cr_AccessList T.cm_AccessList_plain ((ok_AccessList_plain T).raw T.B_AccessList_plain .nil) (hr.mono (by decide)) pass0 (pa_cons (pe_call (ok_digits T) (hr.mono (by decide)) (by rfl) T.g_digits T.F_digits.kp T.B_digits .nil pass0 (pa_cons (pv 0) pa_nil)) pa_nil)))))))))), ?_⟩
    walk_at "rd"
    refine ifK (d := 112) (by decide +kernel) (fun e => ?_) (fun e => ?_)
    · walk_at "rd"
      exact ⟨b, _, _, _, _, rfl, hb, ok, by omega, fun s x' y' z' H' hl ha _ ok' k hb' => q _ (.str s) _ _ _ _ ⟨rfl, by omega, ha⟩ (ok'.mono (by omega)) k hb'⟩
    walk_at "rd"
    refine ifK (d := 100) (by decide +kernel) (fun e => ?_) (fun e => ?_)
    · walk_at "rd"
      exact ⟨b, _, _, _, _, rfl, hb, ok, by omega, fun s x' y' z' H' hl ha _ ok' k hb' => q _ (.str s) _ _ _ _ ⟨rfl, by omega, ha⟩ (ok'.mono (by omega)) k hb'⟩
    walk_at "rd"
    refine ifK (d := 99) (by decide +kernel) (fun e => ?_) (fun e => ?_)
    · walk_at "rd"
      walk_at "take"
      rename_i p1 H1 np1 sp1 kp1 hp1 W1 d x2 y2 z2 H2 d0 d1 ok2 kp2 hb2 W2
      obtain ⟨u, hu, hm⟩ := atI_in (xs := [V.str (Str.ofString ""), V.str (Str.ofString "some text"), V.str (Str.ofString "=x\n")]) d0 d1
      refine ⟨_, _, _, u, rfl, rfl, W2.sq 0 rfl, hu, ?_⟩
      obtain ⟨us, rfl, hul, hua⟩ : ∃ us : Str, u = .str us ∧ us.length ≤ 1000 ∧ Asc us := by
        simp only [List.mem_cons, List.not_mem_nil, or_false] at hm
        rcases hm with rfl | rfl | rfl
        · exact ⟨_, rfl, by decide +kernel, Asc.of (by decide +kernel)⟩
        · exact ⟨_, rfl, by decide +kernel, Asc.of (by decide +kernel)⟩
        · exact ⟨_, rfl, by decide +kernel, Asc.of (by decide +kernel)⟩
      exact q _ (.str us) _ _ _ _ ⟨rfl, hul, hua⟩ (ok2.mono (by omega)) W2.keep (W2.get 1 rfl)
    walk_at "rd"
    refine ifK (d := 98) (by decide +kernel) (fun e => ?_) (fun e => ?_)
    · walk_at "rd"
      walk_at "take"
      rename_i d x2 y2 z2 H2 d0 d1 ok2 kp2 hb2 W2
      walk_at "rd"
      exact q _ .bl _ _ _ _ ⟨_, rfl⟩ (ok2.mono (by omega)) W2.keep (W2.get 0 rfl)
    walk_at "rd"
    refine ifK (d := 103) (by decide +kernel) (fun e => ?_) (fun e => ?_)
    · walk_at "rd"
      refine ⟨b, _, _, _, _, rfl, hb, ok, by omega, fun s x1 y1 z1 H1 hl ha _ ok1 k1 hb1 => ?_⟩
      have W1 := W.any1 0 rfl k1 hb1
      walk_at "rd"
      rename_i p2 H2 np2 sp2 kp2 hp2 W2
      walk_at "take"
      rename_i d x3 y3 z3 H3 d0 d1 ok3 kp3 hb3 W3
      obtain ⟨u, hu, hm⟩ := atI_in (xs := [V.str (Str.ofString "root"), V.str s]) d0 d1
      refine ⟨_, _, _, u, rfl, rfl, W3.sq 0 rfl, hu, ?_⟩
      obtain ⟨us, rfl, hul, hua⟩ : ∃ us : Str, u = .str us ∧ us.length ≤ 1000 ∧ Asc us := by
        simp only [List.mem_cons, List.not_mem_nil, or_false] at hm
        rcases hm with rfl | rfl
        · exact ⟨_, rfl, by decide +kernel, Asc.of (by decide +kernel)⟩
        · exact ⟨s, rfl, by omega, ha⟩
      exact q _ (.str us) _ _ _ _ ⟨rfl, hul, hua⟩ (ok3.mono (by omega)) W3.keep (W3.get 1 rfl)
    walk_at "rd"
    refine ifK (d := 110) (by decide +kernel) (fun e => ?_) (fun e => ?_)
    · walk_at "rd"
      walk_at "take"
      rename_i d x3 y3 z3 H3 d0 d1 ok3 kp3 hb3 W3
      walk_at "rd"
      refine ifVI (fun c0 => ?_) (fun c0 => ?_)
      · exact q _ .non _ _ _ _ rfl (ok3.mono (by omega)) W3.keep (W3.get 0 rfl)
      · refine ⟨rfl, ?_⟩
        refine ⟨_, rfl, ?_⟩
        refine ⟨b, _, _, _, _, rfl, W3.get 0 rfl, ok3, by omega, fun s x5 y5 z5 H5 hl ha hd ok5 k5 hb5 => ?_⟩
        have W5 := W3.any1 0 rfl k5 hb5
        refine ⟨s, rfl, hd, by omega, ha, ?_⟩
        intro p dx fs H6 hp k6 h6
        have W6 := W5.call0 k6
        exact q _ .acc _ _ _ _ ⟨p, dx, fs, rfl, h6⟩ (ok5.mono (by omega)) W6.keep (W6.get 0 rfl)
    · refine ⟨rfl, ?_⟩
      refine ⟨_, rfl, ?_⟩
      refine ⟨b, _, _, _, _, rfl, W.get 0 rfl, ok, by omega, fun s x5 y5 z5 H5 hl ha hd ok5 k5 hb5 => ?_⟩
      have W5 := W.any1 0 rfl k5 hb5
      refine ⟨s, rfl, hd, by omega, ha, ?_⟩
      intro p dx fs H6 hp k6 h6
      have W6 := W5.call0 k6
      exact q _ .acc _ _ _ _ ⟨p, dx, fs, rfl, h6⟩ (ok5.mono (by omega)) W6.keep (W6.get 0 rfl)
end
end K41
namespace K41
open PySem PySem.Spec PyProof.Rows L2 FR TL
open C8 (pss_cut pe_gc)
open StX (pe_callS2 pa_star)
section
variable {P : Program} {w : World} {K : PySem.W.Frag} {mg : Str → Option Value} {base : Heap} {A : Ads}
set_option pp.maxSteps 120
def spOdd (A : Ads) : Sp := fun vs H Q _ => ∃ (b : Addr) (n : Nat) (x y z : Int), vs = [.ref b] ∧ H b = some (bagO x y z) ∧ BagOk n x y z ∧ n < 600000 ∧
  ∀ (v : V) (x' y' z' : Int) (H' : Hp), Th A H' v → BagOk (n + 1) x' y' z' → Keep [b] H H' → H' b = some (bagO x' y' z') → Q v H'
theorem thS {A : Ads} {H : Hp} {s : Str} (h1 : s.length ≤ 1000) (h2 : (tl s).all (fun c => decide (c < 128)) = true) : Th A H (.str s) := .inr ⟨.str s, ⟨rfl, h1, Asc.of h2⟩, fun e => by cases e⟩
theorem thN {A : Ads} {H : Hp} : Th A H .non := .inr ⟨.non, rfl, fun e => by cases e⟩
theorem thB {A : Ads} {H : Hp} {b : Bool} : Th A H (.bl b) := .inr ⟨.bl, ⟨b, rfl⟩, fun e => by cases e⟩
theorem thI {A : Ads} {H : Hp} {i : Int} : Th A H (.int i) := .inr ⟨.int, ⟨i, rfl⟩, fun e => by cases e⟩
theorem thL {A : Ads} {H : Hp} {a : Addr} {xs : List V} (h : H a = some (.lst xs)) : Th A H (.ref a) := .inr ⟨.lst, ⟨a, xs, rfl, h⟩, fun e => by cases e⟩
theorem thD {A : Ads} {H : Hp} {a : Addr} {d} (h : H a = some (.dK d)) : Th A H (.ref a) := .inr ⟨.dct, ⟨a, d, rfl, h⟩, fun e => by cases e⟩
theorem thA {A : Ads} {H : Hp} {a dx : Addr} {fs} (h : H a = some (.ins A.C_AccessList dx fs)) : Th A H (.ref a) := .inr ⟨.acc, ⟨a, dx, fs, rfl, h⟩, fun e => by cases e⟩
theorem elS {A : Ads} {H : Hp} {s : Str} (h1 : s.length ≤ 1000) (h2 : (tl s).all (fun c => decide (c < 128)) = true) : ∃ t, El A H (.str s) t := ⟨.str s, rfl, h1, Asc.of h2⟩
theorem ok_odd (T : Txt w K mg A) : FnOk P w K mg base CX0 11 A.f_odd A.d_odd ["_law_bag_here"] (spOdd A) := by
  refine T.F_odd.ok sc_odd (fun vs H Q E h => ?_) (fun cdv A_ outer s_ H vs Q E hr h => ?_)
  · obtain ⟨b, n, x, y, z, rfl, _⟩ := h
    rfl
  · obtain ⟨b, n, x, y, z, rfl, hb, ok, hn, q⟩ := h
    have W := Ow.start1 hb
    refine ⟨_, (pss_cons (ps_set (i := 1) sc_odd.nd rfl (.inl rfl) (pe_lstS (pa_cons pe_non (pa_cons pe_bl (pa_cons pe_bl (pa_cons pe_int (pa_cons pe_int (pa_cons pe_str (pa_cons pe_str (pa_cons pe_str (pa_cons pe_str (pa_cons pe_str (pa_cons pe_str (pa_cons pe_str (pa_cons pe_str (pa_cons pe_str (pa_cons (pe_lstS pa_nil) (pa_cons (pe_tupN pa_nil) (pa_cons pe_dnewN (pa_cons (pe_lstS (pa_cons pe_str pa_nil)) (pa_cons pe_str pa_nil)))))))))))))))))))))
  (pss_cons (ps_set (i := 1) sc_odd.nd rfl (.inl rfl) (pe_op op_catN (pv 1) (pe_lstS (pa_cons (pe_lstS (pa_cons pe_str (pa_cons pe_str (pa_cons pe_str pa_nil)))) (pa_cons (pe_tupN (pa_cons pe_str (pa_cons pe_str (pa_cons pe_str pa_nil)))) pa_nil)))))
  (pss_one (ps_ret (pe_ix ix_list (pe_op op_catN (pv 1) (pe_lstS (pa_cons (ClX.pe_cmeth (pe_gc rfl T.c_AccessList) T.cr_AccessList T.cm_AccessList_plain ((ok_AccessList_plain T).raw T.B_AccessList_plain .nil) (hr.mono (by decide)) pass0 (pa_cons pe_str pa_nil)) (pa_cons pe_str (pa_cons pe_str pa_nil))))) (pe_call (ok_take T) (hr.mono (by decide)) (by rfl) T.g_take T.F_take.kp T.B_take .nil pass0 (pa_cons (pv 0) (pa_cons pe_int pa_nil))) (fun _ _ => rfl)))))), ?_⟩
    walk_at "rd"
    rename_i p7 H7 n7 s7 k7 h7 W7 p6 H6 n6 k6 h6 W6 p5 H5 n5 k5 h5 W5 p4 H4 n4 s4 k4 h4 W4 p3 H3 n3 s3 k3 h3 W3 p2 H2 n2 s2 k2 h2 W2 p1 H1 n1 k1 h1 W1 p0 H0 n0 s0 k0 h0 W0
    clear W7 W6 W5 W4 W3 W2 W1 h1 h2 h3 h4 h5 h6 h7
    refine ⟨p3, p0, _, _, rfl, rfl, W0.get 3 rfl, W0.get 0 rfl, Nat.le_of_ble_eq_true rfl, ?_⟩
    walk_at "obj"
    rename_i p8 H8 n8 k8 h8 W8
    clear W0 h0
    walk_at "rd"
    refine ⟨Asc.of (by decide +kernel), ?_⟩
    intro pA dx fs H9 nA k9 h9
    have W9 := W8.res (W8.call0 k9) nA h9
    clear W8 h8
    walk_at "rd"
    rename_i p10 H10 n10 s10 k10 h10 W10
    refine ⟨p8, p10, _, _, rfl, rfl, W10.get 2 rfl, W10.get 0 rfl, Nat.le_of_ble_eq_true rfl, ?_⟩
    walk_at "obj"
    rename_i p11 H11 n11 k11 h11 W11
    clear W9 W10 h9 h10
    walk_at "rd"
    walk_at "take"
    rename_i d x2 y2 z2 H12 d0 d1 ok2 kp2 hb2 W12
    clear W11
    obtain ⟨u, hu, hm⟩ := atI_in (xs := [V.non, V.bl true, V.bl false, V.int 0, V.int 7, V.str (Str.ofString ""), V.str (Str.ofString "root"), V.str (Str.ofString "/"), V.str (Str.ofString "/A"), V.str (Str.ofString "a"), V.str (Str.ofString "777"), V.str (Str.ofString "778"), V.str (Str.ofString "77"), V.str (Str.ofString "/a/"), V.ref p7, V.ref p6, V.ref p5, V.ref p4, V.str (Str.ofString "read")] ++ [V.ref p2, V.ref p1] ++ [V.ref pA, V.str (Str.ofString "ann b"), V.str (Str.ofString "/tmp")]) d0 d1
    refine ⟨_, _, _, u, rfl, rfl, W12.sq 0 rfl, hu, ?_⟩
    refine q u _ _ _ H12 ?_ ok2 W12.keep (W12.get 12 rfl)
    simp only [List.cons_append, List.nil_append, List.mem_cons, List.not_mem_nil, or_false] at hm
    rcases hm with rfl | rfl | rfl | rfl | rfl | rfl | rfl | rfl | rfl | rfl | rfl | rfl | rfl | rfl | rfl | rfl | rfl | rfl | rfl | rfl | rfl | rfl | rfl | rfl
    · exact thN
    · exact thB
    · exact thB
    · exact thI
    · exact thI
    · exact thS (by decide +kernel) (by decide +kernel)
    · exact thS (by decide +kernel) (by decide +kernel)
    · exact thS (by decide +kernel) (by decide +kernel)
    · exact thS (by decide +kernel) (by decide +kernel)
    · exact thS (by decide +kernel) (by decide +kernel)
    · exact thS (by decide +kernel) (by decide +kernel)
    · exact thS (by decide +kernel) (by decide +kernel)
    · exact thS (by decide +kernel) (by decide +kernel)
    · exact thS (by decide +kernel) (by decide +kernel)
    · exact thL (W12.get 11 rfl)
    · exact .inl ⟨p6, [], rfl, W12.get 10 rfl, fun _ h => by simp at h, by decide⟩
    · exact thD (W12.get 9 rfl)
    · exact thL (W12.get 8 rfl)
    · exact thS (by decide +kernel) (by decide +kernel)
    · exact thL (W12.get 6 rfl)
    · refine .inl ⟨p1, _, rfl, W12.get 5 rfl, fun x hx => ?_, by decide⟩
      simp only [List.mem_cons, List.not_mem_nil, or_false] at hx
      rcases hx with rfl | rfl | rfl <;> exact elS (by decide +kernel) (by decide +kernel)
    · exact thA (W12.get 2 rfl)
    · exact thS (by decide +kernel) (by decide +kernel)
    · exact thS (by decide +kernel) (by decide +kernel)
end
end K41
namespace K41
open PySem PySem.Spec PyProof.Rows L2 FR TL
open C8 (pss_cut pe_gc)
open StX (pe_callS2 pa_star)
section
variable {P : Program} {w : World} {K : PySem.W.Frag} {mg : Str → Option Value} {base : Heap} {A : Ads}
set_option pp.maxSteps 120
def R_loop (A : Ads) : TS := fun D σ H => ∃ (p : Addr) (xs : List V) (s0 s1 s2 s3 s4 s5 s6 s7 s9 s10 s11 : Option V), σ = [s0, s1, s2, s3, s4, s5, s6, s7, some (.ref p), s9, s10, s11] ∧ H p = some (.lst xs) ∧ (∀ v ∈ xs, Th A H v) ∧
  ∀ u9 u10 H', Keep [] H H' → D.nx [s0, s1, s2, s3, s4, s5, s6, s7, some (.ref p), u9, u10, s11] H'
theorem blk_loop (T : Txt w K mg A) {cdv : Value} {A_ : Around} {outer : List Env} {s_ : Shared} {H : Hp} {E : XK} (hr : Room 12 (A_.deeper (envOfC "law" (defScope s_law) s_.heap.objs.size A.f_law cdv))) : PSs (cxOf CX0 P w K mg base N_law "law" (defScope s_law) A.f_law cdv A_ outer s_ H E).nox (List.drop 5 (bdF (nth (bdF (nth (defBody s_law) 0)) 1))) (R_loop A) := by
  refine pss_b (pss_one (ps_for PassesOwn.never rfl (pi_list (pv 8)) (pg_name (i := 9) sc_law.nd rfl (.inl rfl)) (pss_cons (ps_set (i := 10) sc_law.nd rfl (.inl rfl) (pe_call (ok_is_deed T) (hr.mono (by decide)) (by rfl) T.g_is_deed T.F_is_deed.kp T.B_is_deed .nil pass0 (pa_cons (pv 9) pa_nil)))
  (pss_one (ps_if (PW.pt (pw_or (pt_not (pt_val (pe_callB call_isi (by rfl) T.b_isinstance (by decide +kernel) (pa_cons (pv 10) (pa_cons (pe_bltn (v := .ty "bool") rfl T.b_bool (by decide +kernel) rfl) pa_nil))))) (pw_or1 (pt_cmpR op_ne (pv 10) (pe_call (ok_due T) (hr.mono (by decide)) (by rfl) T.g_due T.F_due.kp T.B_due .nil pass0 (pa_cons (pv 9) pa_nil)) (nomark _))))) (pss_one (ps_ret pe_bl)) pss_nil))))) ?_
  rintro D σ H3 ⟨p, xs, s0, s1, s2, s3, s4, s5, s6, s7, s9, s10, s11, rfl, hp, hth, q⟩
  have W3 : Ow H3 [] H3 [] := Ow.start0
  walk_at "rd"
  refine ⟨⟨_, .inl (.inl hp)⟩, ?_⟩
  refine for_li (a := p) (xs := xs) (fun done σ H' => (∃ u9 u10, σ = [s0, s1, s2, s3, s4, s5, s6, s7, some (.ref p), u9, u10, s11]) ∧ Keep [] H3 H') ⟨⟨_, _, rfl⟩, Keep.refl⟩ ?_ ?_ ?_
  · rintro d2 r2 σ H4 e2 ⟨_, k4⟩
    exact .inl (.inl (k4 _ _ hp (by simp)))
  · rintro d2 v r2 σ H4 e2 ⟨⟨u9, u10, rfl⟩, k4⟩
    rcases hth v (by rw [e2]; simp) with ⟨t, vl, rfl, ht, he, hl⟩ | ⟨s, hs, hn⟩
    · obtain ⟨xs, hx⟩ := els_of he
      walk_at "rd"
      refine .inl ⟨t, vl, xs, rfl, k4 _ _ ht (by simp), hx.keep k4, hl, fun H5 k5 => ?_⟩
      walk_at "rd"
      have k45 : Keep [] H3 H5 := Keep.trans k4 k5
      refine .inl ⟨t, vl, xs, rfl, k45 _ _ ht (by simp), hx.keep k45, hl, fun H6 k6 => ?_⟩
      walk_at "rd"
      refine ifN (fun z => absurd rfl z) (fun _ => ?_)
      exact ⟨⟨_, _, rfl⟩, k45.trans k6⟩
    · walk_at "rd"
      refine .inr ⟨(hs.keep k4).noTup T hn, fun H5 k5 => ?_⟩
      walk_at "rd"
      have k45 : Keep [] H3 H5 := Keep.trans k4 k5
      refine .inr ⟨(hs.keep k45).noTup T hn, fun H6 k6 => ?_⟩
      walk_at "rd"
      exact ⟨⟨_, _, rfl⟩, k45.trans k6⟩
  · rintro σ H4 ⟨⟨u9, u10, rfl⟩, k4⟩
    exact q _ _ _ k4
end
end K41
namespace K41
open PySem PySem.Spec PyProof.Rows L2 FR TL
open C8 (pss_cut pe_gc)
open StX (pe_callS2 pa_star)
section
variable {P : Program} {w : World} {K : PySem.W.Frag} {mg : Str → Option Value} {base : Heap} {A : Ads}
set_option pp.maxSteps 120
theorem cutV_le (xs : List V) (lo hi : Option Int) : (cutV xs lo hi).length ≤ xs.length := by
  unfold cutV
  rw [List.length_take, List.length_drop]
  omega
theorem th_cat {H : Hp} {vl : List V} {lo hi : Option Int} {o : V} {p : Addr} (el : ∀ x ∈ vl, ∃ s, El A H x s) (eo : ∃ s, El A H o s) (hl : vl.length ≤ 5) {lo' hi' : Option Int} (h : H p = some (.tup (cutV vl lo hi ++ [o] ++ cutV vl lo' hi'))) : Th A H (.ref p) := by
  refine .inl ⟨p, _, rfl, h, fun x hx => ?_, ?_⟩
  · rcases List.mem_append.mp hx with hx | hx
    · rcases List.mem_append.mp hx with hx | hx
      · exact el x (cutV_mem hx)
      · rw [List.mem_singleton.mp hx]; exact eo
    · exact el x (cutV_mem hx)
  · have h1 := cutV_le vl lo hi
    have h2 := cutV_le vl lo' hi'
    rw [List.length_append, List.length_append]
    show _ + 1 + _ ≤ _
    omega
theorem th_cat2 {H : Hp} {vl : List V} {lo hi : Option Int} {p : Addr} (el : ∀ x ∈ vl, ∃ s, El A H x s) (hl : vl.length ≤ 5) {lo' hi' : Option Int} (h : H p = some (.tup (cutV vl lo hi ++ cutV vl lo' hi'))) : Th A H (.ref p) := by
  refine .inl ⟨p, _, rfl, h, fun x hx => ?_, ?_⟩
  · rcases List.mem_append.mp hx with hx | hx
    · exact el x (cutV_mem hx)
    · exact el x (cutV_mem hx)
  · have h1 := cutV_le vl lo hi
    have h2 := cutV_le vl lo' hi'
    rw [List.length_append]
    omega
theorem th_cat3 {H : Hp} {vl : List V} {o : V} {p : Addr} (el : ∀ x ∈ vl, ∃ s, El A H x s) (eo : ∃ s, El A H o s) (hl : vl.length ≤ 5) (h : H p = some (.tup (vl ++ [o]))) : Th A H (.ref p) := by
  refine .inl ⟨p, _, rfl, h, fun x hx => ?_, ?_⟩
  · rcases List.mem_append.mp hx with hx | hx
    · exact el x hx
    · rw [List.mem_singleton.mp hx]; exact eo
  · rw [List.length_append]
    show _ + 1 ≤ _
    omega
def R_things (A : Ads) : TS := fun D σ H => ∃ (t : Addr) (vl : List V) (o : V) (zw : Str) (at_ : Int) (s0 s1 s2 s4 s8 s9 s10 s11 : Option V), σ = [s0, s1, s2, some (.str zw), s4, some (.ref t), some (.int at_), some o, s8, s9, s10, s11] ∧ H t = some (.tup vl) ∧ (∀ x ∈ vl, ∃ s, El A H x s) ∧ vl.length ≤ 5 ∧ Th A H o ∧
  (zw.length ≤ 10 ∧ Asc zw) ∧ (Txt.upper zw).length ≤ 1000 ∧ Asc (Txt.upper zw) ∧
  ∀ u8 u9 u10 H', Keep [] H H' → D.nx [s0, s1, s2, some (.str zw), s4, some (.ref t), some (.int at_), some o, u8, u9, u10, s11] H'
theorem blk_things (T : Txt w K mg A) {cdv : Value} {A_ : Around} {outer : List Env} {s_ : Shared} {H : Hp} {E : XK} (hr : Room 12 (A_.deeper (envOfC "law" (defScope s_law) s_.heap.objs.size A.f_law cdv))) : PSs (cxOf CX0 P w K mg base N_law "law" (defScope s_law) A.f_law cdv A_ outer s_ H E).nox (List.drop 3 (bdF (nth (bdF (nth (defBody s_law) 0)) 1))) (R_things A) := by
  refine pss_b (pss_cons (ps_set (i := 8) sc_law.nd rfl (.inl rfl) (pe_lstS (pa_cons (pv 5) (pa_cons (pe_op op_catK (pe_op op_catK (pe_slice sl_tupK (pv 5) po_none (po_some (pv 6))) (pe_tupN (pa_cons (pv 7) pa_nil))) (pe_slice sl_tupK (pv 5) (po_some (pe_op op_add (pv 6) pe_int)) po_none)) (pa_cons (pe_op op_catK (pe_slice sl_tupK (pv 5) po_none (po_some (pv 6))) (pe_slice sl_tupK (pv 5) (po_some (pe_op op_add (pv 6) pe_int)) po_none)) (pa_cons (pe_op op_catK (pv 5) (pe_tupN (pa_cons (pv 7) pa_nil))) pa_nil))))))
  (pss_cons (ps_set (i := 8) sc_law.nd rfl (.inl rfl) (pe_op op_catN (pv 8) (pe_lstS (pa_cons (pe_callTy call_lofN (by rfl) T.b_list (by decide +kernel) (pa_cons (pv 5) pa_nil)) (pa_cons (pe_op op_catK (pe_op op_catK (pe_slice sl_tupK (pv 5) po_none (po_some pe_int)) (pe_tupN (pa_cons (pe_upper (pv 3)) pa_nil))) (pe_slice sl_tupK (pv 5) (po_some pe_int) po_none)) (pa_cons (pe_op op_catK (pe_op op_catK (pe_slice sl_tupK (pv 5) po_none (po_some pe_int)) (pe_tupN (pa_cons (pe_op op_add_str (pv 3) pe_str) pa_nil))) (pe_slice sl_tupK (pv 5) (po_some pe_int) po_none)) (pa_cons (pv 7) pa_nil)))))))
  (blk_loop T hr))) ?_
  rintro D σ H3 ⟨t, vl, o, zw, at_, s0, s1, s2, s4, s8, s9, s10, s11, rfl, ht, el, hv5, To, ⟨hzl, hza⟩, hul, hua, q⟩
  have W : Ow H3 [] H3 [] := Ow.start0
  walk_at "rd"
  have vle := cutV_le vl
  have hzs : (zw ++ Str.ofString " ").length ≤ 1000 := by
    have h1 : (Str.ofString " ").length = 1 := by decide +kernel
    rw [len_app, h1]
    omega
  refine ⟨t, vl, rfl, ht, fun p1 H17 k hp1 => ?_⟩
  have W := W.call0 k
  have ht := k _ _ ht (by simp)
  have el := fun x hx => (el x hx).imp fun s (h : El A _ x s) => h.keep k
  have To := To.keep k
  clear k
  walk_at "rd"
  rename_i p2 H18 np k hp2 W'
  have W := W'.tail
  clear W' np
  have ht := k _ _ ht (by simp)
  have el := fun x hx => (el x hx).imp fun s (h : El A _ x s) => h.keep k
  have To := To.keep k
  have hp1 := k _ _ hp1 (by simp)
  clear k
  refine ⟨p1, p2, _, _, rfl, rfl, hp1, hp2, size_le (by have := vle none (some at_); show _ + 1 ≤ _; omega), fun p3 H19 k hp3 => ?_⟩
  have W := W.call0 k
  have ht := k _ _ ht (by simp)
  have el := fun x hx => (el x hx).imp fun s (h : El A _ x s) => h.keep k
  have To := To.keep k
  clear k
  clear hp1 hp2
  walk_at "rd"
  refine ⟨t, vl, rfl, ht, fun p4 H20 k hp4 => ?_⟩
  have W := W.call0 k
  have ht := k _ _ ht (by simp)
  have el := fun x hx => (el x hx).imp fun s (h : El A _ x s) => h.keep k
  have To := To.keep k
  have hp3 := k _ _ hp3 (by simp)
  clear k
  refine ⟨p3, p4, _, _, rfl, rfl, hp3, hp4, size_le (by have := vle none (some at_); have := vle (some (at_ + 1)) none; rw [List.length_append]; show _ + 1 + _ ≤ _; omega), fun p5 H21 k hp5 => ?_⟩
  have W := W.call0 k
  have ht := k _ _ ht (by simp)
  have el := fun x hx => (el x hx).imp fun s (h : El A _ x s) => h.keep k
  have To := To.keep k
  clear k
  have T5 := th_cat el To.el hv5 hp5
  clear hp3 hp4 hp5
  walk_at "rd"
  refine ⟨t, vl, rfl, ht, fun p6 H22 k hp6 => ?_⟩
  have W := W.call0 k
  have ht := k _ _ ht (by simp)
  have el := fun x hx => (el x hx).imp fun s (h : El A _ x s) => h.keep k
  have To := To.keep k
  have T5 := T5.keep k
  clear k
  walk_at "rd"
  refine ⟨t, vl, rfl, ht, fun p7 H23 k hp7 => ?_⟩
  have W := W.call0 k
  have ht := k _ _ ht (by simp)
  have el := fun x hx => (el x hx).imp fun s (h : El A _ x s) => h.keep k
  have To := To.keep k
  have T5 := T5.keep k
  have hp6 := k _ _ hp6 (by simp)
  clear k
  refine ⟨p6, p7, _, _, rfl, rfl, hp6, hp7, size_le (by have := vle none (some at_); have := vle (some (at_ + 1)) none; omega), fun p8 H24 k hp8 => ?_⟩
  have W := W.call0 k
  have ht := k _ _ ht (by simp)
  have el := fun x hx => (el x hx).imp fun s (h : El A _ x s) => h.keep k
  have To := To.keep k
  have T5 := T5.keep k
  clear k
  have T8 := th_cat2 el hv5 hp8
  clear hp6 hp7 hp8
  walk_at "rd"
  rename_i p9 H25 np k hp9 W'
  have W := W'.tail
  clear W' np
  have ht := k _ _ ht (by simp)
  have el := fun x hx => (el x hx).imp fun s (h : El A _ x s) => h.keep k
  have To := To.keep k
  have T5 := T5.keep k
  have T8 := T8.keep k
  clear k
  refine ⟨t, p9, _, _, rfl, rfl, ht, hp9, size_le (by show _ + 1 ≤ _; omega), fun p10 H26 k hp10 => ?_⟩
  have W := W.call0 k
  have ht := k _ _ ht (by simp)
  have el := fun x hx => (el x hx).imp fun s (h : El A _ x s) => h.keep k
  have To := To.keep k
  have T5 := T5.keep k
  have T8 := T8.keep k
  clear k
  have T10 := th_cat3 el To.el hv5 hp10
  clear hp9 hp10
  walk_at "rd"
  rename_i p11 H27 np ns k hp11 W'
  have W := W'.tail
  clear W' np ns
  have ht := k _ _ ht (by simp)
  have el := fun x hx => (el x hx).imp fun s (h : El A _ x s) => h.keep k
  have To := To.keep k
  have T5 := T5.keep k
  have T8 := T8.keep k
  have T10 := T10.keep k
  clear k
  refine ⟨t, vl, rfl, .inr (.inl (.inl ht)), ?_⟩
  walk_at "obj"
  rename_i p12 H28 np k hp12 W'
  have W := W'.tail
  clear W' np
  have ht := k _ _ ht (by simp)
  have el := fun x hx => (el x hx).imp fun s (h : El A _ x s) => h.keep k
  have To := To.keep k
  have T5 := T5.keep k
  have T8 := T8.keep k
  have T10 := T10.keep k
  have hp11 := k _ _ hp11 (by simp)
  clear k
  have T12 : Th A _ (.ref p12) := thL hp12
  clear hp12
  walk_at "rd"
  refine ⟨t, vl, rfl, ht, fun p13 H29 k hp13 => ?_⟩
  have W := W.call0 k
  have ht := k _ _ ht (by simp)
  have el := fun x hx => (el x hx).imp fun s (h : El A _ x s) => h.keep k
  have To := To.keep k
  have T5 := T5.keep k
  have T8 := T8.keep k
  have T10 := T10.keep k
  have T12 := T12.keep k
  have hp11 := k _ _ hp11 (by simp)
  clear k
  walk_at "rd"
  rename_i p14 H30 np k hp14 W'
  have W := W'.tail
  clear W' np
  have ht := k _ _ ht (by simp)
  have el := fun x hx => (el x hx).imp fun s (h : El A _ x s) => h.keep k
  have To := To.keep k
  have T5 := T5.keep k
  have T8 := T8.keep k
  have T10 := T10.keep k
  have T12 := T12.keep k
  have hp11 := k _ _ hp11 (by simp)
  have hp13 := k _ _ hp13 (by simp)
  clear k
  refine ⟨p13, p14, _, _, rfl, rfl, hp13, hp14, size_le (by have := vle none (some 1); show _ + 1 ≤ _; omega), fun p15 H31 k hp15 => ?_⟩
  have W := W.call0 k
  have ht := k _ _ ht (by simp)
  have el := fun x hx => (el x hx).imp fun s (h : El A _ x s) => h.keep k
  have To := To.keep k
  have T5 := T5.keep k
  have T8 := T8.keep k
  have T10 := T10.keep k
  have T12 := T12.keep k
  have hp11 := k _ _ hp11 (by simp)
  clear k
  walk_at "rd"
  refine ⟨t, vl, rfl, ht, fun p16 H32 k hp16 => ?_⟩
  have W := W.call0 k
  have ht := k _ _ ht (by simp)
  have el := fun x hx => (el x hx).imp fun s (h : El A _ x s) => h.keep k
  have To := To.keep k
  have T5 := T5.keep k
  have T8 := T8.keep k
  have T10 := T10.keep k
  have T12 := T12.keep k
  have hp11 := k _ _ hp11 (by simp)
  have hp15 := k _ _ hp15 (by simp)
  clear k
  refine ⟨p15, p16, _, _, rfl, rfl, hp15, hp16, size_le (by have := vle none (some 1); have := vle (some 2) none; rw [List.length_append]; show _ + 1 + _ ≤ _; omega), fun p17 H33 k hp17 => ?_⟩
  have W := W.call0 k
  have ht := k _ _ ht (by simp)
  have el := fun x hx => (el x hx).imp fun s (h : El A _ x s) => h.keep k
  have To := To.keep k
  have T5 := T5.keep k
  have T8 := T8.keep k
  have T10 := T10.keep k
  have T12 := T12.keep k
  have hp11 := k _ _ hp11 (by simp)
  clear k
  have T17 := th_cat el ⟨.str _, rfl, hul, hua⟩ hv5 hp17
  clear hp13 hp14 hp15 hp16 hp17
  walk_at "rd"
  refine ⟨t, vl, rfl, ht, fun p18 H34 k hp18 => ?_⟩
  have W := W.call0 k
  have ht := k _ _ ht (by simp)
  have el := fun x hx => (el x hx).imp fun s (h : El A _ x s) => h.keep k
  have To := To.keep k
  have T5 := T5.keep k
  have T8 := T8.keep k
  have T10 := T10.keep k
  have T12 := T12.keep k
  have T17 := T17.keep k
  have hp11 := k _ _ hp11 (by simp)
  clear k
  walk_at "rd"
  rename_i p19 H35 np k hp19 W'
  have W := W'.tail
  clear W' np
  have ht := k _ _ ht (by simp)
  have el := fun x hx => (el x hx).imp fun s (h : El A _ x s) => h.keep k
  have To := To.keep k
  have T5 := T5.keep k
  have T8 := T8.keep k
  have T10 := T10.keep k
  have T12 := T12.keep k
  have T17 := T17.keep k
  have hp11 := k _ _ hp11 (by simp)
  have hp18 := k _ _ hp18 (by simp)
  clear k
  refine ⟨p18, p19, _, _, rfl, rfl, hp18, hp19, size_le (by have := vle none (some 1); show _ + 1 ≤ _; omega), fun p20 H36 k hp20 => ?_⟩
  have W := W.call0 k
  have ht := k _ _ ht (by simp)
  have el := fun x hx => (el x hx).imp fun s (h : El A _ x s) => h.keep k
  have To := To.keep k
  have T5 := T5.keep k
  have T8 := T8.keep k
  have T10 := T10.keep k
  have T12 := T12.keep k
  have T17 := T17.keep k
  have hp11 := k _ _ hp11 (by simp)
  clear k
  walk_at "rd"
  refine ⟨t, vl, rfl, ht, fun p21 H37 k hp21 => ?_⟩
  have W := W.call0 k
  have ht := k _ _ ht (by simp)
  have el := fun x hx => (el x hx).imp fun s (h : El A _ x s) => h.keep k
  have To := To.keep k
  have T5 := T5.keep k
  have T8 := T8.keep k
  have T10 := T10.keep k
  have T12 := T12.keep k
  have T17 := T17.keep k
  have hp11 := k _ _ hp11 (by simp)
  have hp20 := k _ _ hp20 (by simp)
  clear k
  refine ⟨p20, p21, _, _, rfl, rfl, hp20, hp21, size_le (by have := vle none (some 1); have := vle (some 2) none; rw [List.length_append]; show _ + 1 + _ ≤ _; omega), fun p22 H38 k hp22 => ?_⟩
  have W := W.call0 k
  have ht := k _ _ ht (by simp)
  have el := fun x hx => (el x hx).imp fun s (h : El A _ x s) => h.keep k
  have To := To.keep k
  have T5 := T5.keep k
  have T8 := T8.keep k
  have T10 := T10.keep k
  have T12 := T12.keep k
  have T17 := T17.keep k
  have hp11 := k _ _ hp11 (by simp)
  clear k
  have T22 := th_cat el ⟨.str _, rfl, hzs, hza.app (Asc.of (by decide +kernel))⟩ hv5 hp22
  clear hp18 hp19 hp20 hp21 hp22
  walk_at "rd"
  rename_i p23 H39 np ns k hp23 W'
  have W := W'.tail
  clear W' np ns
  have ht := k _ _ ht (by simp)
  have el := fun x hx => (el x hx).imp fun s (h : El A _ x s) => h.keep k
  have To := To.keep k
  have T5 := T5.keep k
  have T8 := T8.keep k
  have T10 := T10.keep k
  have T12 := T12.keep k
  have T17 := T17.keep k
  have T22 := T22.keep k
  have hp11 := k _ _ hp11 (by simp)
  clear k
  refine ⟨p11, p23, _, _, rfl, rfl, hp11, hp23, Nat.le_of_ble_eq_true rfl, ?_⟩
  walk_at "obj"
  rename_i p24 H40 np k hp24 W'
  have W := W'.tail
  clear W' np
  have ht := k _ _ ht (by simp)
  have el := fun x hx => (el x hx).imp fun s (h : El A _ x s) => h.keep k
  have To := To.keep k
  have T5 := T5.keep k
  have T8 := T8.keep k
  have T10 := T10.keep k
  have T12 := T12.keep k
  have T17 := T17.keep k
  have T22 := T22.keep k
  clear k
  have Tt : Th A _ (.ref t) := .inl ⟨t, vl, rfl, ht, el, by omega⟩
  have hth : ∀ v ∈ [V.ref t, V.ref p5, V.ref p8, V.ref p10] ++ [V.ref p12, V.ref p17, V.ref p22, o], Th A _ v := fun v hv => by
    simp only [List.cons_append, List.nil_append, List.mem_cons, List.not_mem_nil, or_false] at hv
    rcases hv with rfl | rfl | rfl | rfl | rfl | rfl | rfl | rfl <;> assumption
  generalize [V.ref t, V.ref p5, V.ref p8, V.ref p10] ++ [V.ref p12, V.ref p17, V.ref p22, o] = things at hp24 hth
  clear Tt T22 T17 T12 T10 T8 T5 To el ht hp11 hp23
  refine ⟨p24, things, _, _, _, _, _, _, _, _, _, _, _, rfl, hp24, hth, fun u9 u10 H' k => ?_⟩
  exact q _ _ _ _ (Keep.trans W.keep k)
end
end K41
namespace K41
open PySem PySem.Spec PyProof.Rows L2 FR TL
open C8 (pss_cut pe_gc)
open StX (pe_callS2 pa_star)
section
variable {P : Program} {w : World} {K : PySem.W.Frag} {mg : Str → Option Value} {base : Heap} {A : Ads}
set_option pp.maxSteps 120
def spLaw (K : PySem.W.Frag) : Sp := fun vs H Q _ => ∃ (a : Addr) (ns : List Int), vs = [.ref a] ∧ SqL K H a (ns.map V.int) ∧ ns.length ≤ 63 ∧ ∀ H', Q (.bl true) H'
theorem form_get {i : Nat} (h : i < formKV.length) : ∃ z f, formKV[i]? = some (.inr z, .str (lets f)) ∧ f.length ≤ 3 ∧ (z.length ≤ 10 ∧ Asc z) ∧ (Txt.upper z).length ≤ 1000 ∧ Asc (Txt.upper z) := by
  have hf : i < forms.length := by simpa [formKV] using h
  refine ⟨forms[i].1, forms[i].2.1, ?_, ?_, ⟨?_, ?_⟩, ?_, ?_⟩
  · show (forms.map _)[i]? = _
    rw [List.getElem?_map, List.getElem?_eq_getElem hf]
    rfl
  · have all : forms.all (fun f => decide (f.2.1.length ≤ 3)) = true := by decide +kernel
    exact of_decide_eq_true (List.all_eq_true.mp all _ (List.getElem_mem hf))
  · have all : forms.all (fun f => decide (f.1.length ≤ 10)) = true := by decide +kernel
    exact of_decide_eq_true (List.all_eq_true.mp all _ (List.getElem_mem hf))
  · have all : forms.all (fun f => (tl f.1).all fun c => decide (c < 128)) = true := by decide +kernel
    exact Asc.of (List.all_eq_true.mp all _ (List.getElem_mem hf))
  · have all : forms.all (fun f => decide ((Txt.upper f.1).length ≤ 1000)) = true := by decide +kernel
    exact of_decide_eq_true (List.all_eq_true.mp all _ (List.getElem_mem hf))
  · have all : forms.all (fun f => (tl (Txt.upper f.1)).all fun c => decide (c < 128)) = true := by decide +kernel
    exact Asc.of (List.all_eq_true.mp all _ (List.getElem_mem hf))
theorem ok_law (T : Txt w K mg A) : FnOk P w K mg base CX0 13 A.f_law A.d_law ["_law_script"] (spLaw K) := by
  refine T.F_law.ok sc_law (fun vs H Q E h => ?_) (fun cdv A_ outer s_ H vs Q E hr h => ?_)
  · obtain ⟨a, ns, rfl, _⟩ := h
    rfl
  · obtain ⟨a, zs, rfl, hS, hlen, q⟩ := h
    have W0 : Ow H [] H [] := Ow.start0
    refine ⟨_, (pss_cons (ps_for PassesOwn.never rfl (pi_range1 (by rfl) T.b_range (pa_cons (pe_callB (call_max2 rfl) (by rfl) T.b_max (by decide +kernel) (pa_cons pe_int (pa_cons (pe_callB (call_min2 rfl) (by rfl) T.b_min (by decide +kernel) (pa_cons pe_int (pa_cons (pe_callB call_len_seq (by rfl) T.b_len PySem.boot_len (pa_cons (pv 0) pa_nil)) pa_nil))) pa_nil))) pa_nil)) (pg_name (i := 1) sc_law.nd rfl (.inl rfl)) (pss_cons (ps_set (i := 2) sc_law.nd rfl (.inr rfl) (pe_call (ok_bag T) (hr.mono (by decide)) (by rfl) T.g_bag T.F_bag.kp T.B_bag .nil pass0 (pa_cons (pe_call (ok_cell T) (hr.mono (by decide)) (by rfl) T.g_cell T.F_cell.kp T.B_cell .nil pass0 (pa_cons (pv 0) (pa_cons (pv 1) pa_nil))) pa_nil)))
  (pss_one (ps_for PassesOwn.never rfl (pi_items (pe_frz (pe_call0 (ok_forms T) (hr.mono (by decide)) (by rfl) T.g_forms T.F_forms.kp T.B_forms .nil pass0))) ((pg_tup rfl (pgs_cons (pg_name (i := 3) sc_law.nd rfl (.inl rfl)) (pgs_cons (pg_name (i := 4) sc_law.nd rfl (.inl rfl)) pgs_nil)))) (pss_cons (ps_set (i := 5) sc_law.nd rfl (.inl rfl) (pe_tupN (pa_cons (pe_ix ix_list (pe_lstS (pa_cons pe_str (pa_cons (pe_call (ok_word T) (hr.mono (by decide)) (by rfl) T.g_word T.F_word.kp T.B_word .nil pass0 (pa_cons (pv 2) pa_nil)) (pa_cons pe_str pa_nil)))) (pe_call (ok_take T) (hr.mono (by decide)) (by rfl) T.g_take T.F_take.kp T.B_take .nil pass0 (pa_cons (pv 2) (pa_cons pe_int pa_nil))) (fun _ _ => rfl)) (pa_cons (pv 3) pa_nil))))
  (pss_cons (ps_set (i := 5) sc_law.nd rfl (.inl rfl) (pe_op op_catK (pv 5) (pe_callTy call_tuple_of (by rfl) T.b_tuple (by decide +kernel) (pa_cons (pe_lc (own := [("_law_kind", 11)]) (g := gName 11) rfl sc_law.nd (pi_str (pv 4)) (blkOk_by (own := [("_law_kind", 11)]) (N := N_law) (sc := defScope s_law) (by decide +kernel)) (fun _ _ _ _ _ => pg_name (i := 11) sc_law.nd rfl (Or.inl rfl)) (fun _ _ _ _ _ => pts_nil) (fun _ _ _ _ _ => (pe_call (ok_of_kind T) (hr.mono (by decide)) (by rfl) T.g_of_kind T.F_of_kind.kp T.B_of_kind .nil pass0 (pa_cons (pv 2) (pa_cons (pv 11) pa_nil))))) pa_nil))))
  (pss_cons (ps_par (i := 6) (j := 7) (by rfl) sc_law.nd rfl rfl (by decide) rfl rfl (pa_cons (pe_call (ok_take T) (hr.mono (by decide)) (by rfl) T.g_take T.F_take.kp T.B_take .nil pass0 (pa_cons (pv 2) (pa_cons (pe_callB call_len_seq (by rfl) T.b_len PySem.boot_len (pa_cons (pv 5) pa_nil)) pa_nil))) (pa_cons (pe_call (ok_odd T) (hr.mono (by decide)) (by rfl) T.g_odd T.F_odd.kp T.B_odd .nil pass0 (pa_cons (pv 2) pa_nil)) pa_nil)) (by rfl))
  (blk_things T hr))))))))
  (pss_one (ps_ret (pe_and (pe_call (ok_is_deed T) (hr.mono (by decide)) (by rfl) T.g_is_deed T.F_is_deed.kp T.B_is_deed .nil pass0 (pa_cons (pe_tupN (pa_cons pe_str (pa_cons pe_str (pa_cons pe_str pa_nil)))) pa_nil)) (pe_and (pe_not (pe_call (ok_is_deed T) (hr.mono (by decide)) (by rfl) T.g_is_deed T.F_is_deed.kp T.B_is_deed .nil pass0 (pa_cons (pe_tupN (pa_cons pe_str pa_nil)) pa_nil))) (pe_one (pe_not (pe_call (ok_is_deed T) (hr.mono (by decide)) (by rfl) T.g_is_deed T.F_is_deed.kp T.B_is_deed .nil pass0 (pa_cons (pe_tupN pa_nil) pa_nil))))))))), ?_⟩
    walk_at "rd"
    refine for_rg (fun i σ H' => (∃ y1 y2 y3 y4 y5 y6 y7 y8 y9 y10 y11, σ = [some (.ref a), y1, y2, y3, y4, y5, y6, y7, y8, y9, y10, y11]) ∧ Ow H [] H' []) ⟨⟨none, none, none, none, none, none, none, none, none, none, none, rfl⟩, W0⟩ ?_ ?_
    · rintro i σ H1 hi ⟨⟨y1, y2, y3, y4, y5, y6, y7, y8, y9, y10, y11, rfl⟩, W1⟩
      have hi' : i < 63 := by
        refine Nat.lt_of_lt_of_le hi ?_
        rw [List.length_map]
        omega
      walk_at "rd"
      refine ⟨a, zs, _, rfl, W1.seq hS (by simp), by omega, by omega, fun n => ?_⟩
      walk_at "rd"
      intro x y z ok
      walk_at "rd"
      rename_i b H2 np2 kp2 hp2 W2 d H3 np3 kp3 hp3 W3
      refine ⟨d, _, rfl, hp3, True.intro, fun od => ?_⟩
      refine ⟨d, od, formKV, rfl, upd_same, ?_⟩
      have W4 : Ow H [] (upd H3 d (.frz od (.dK formKV))) [(d, .frz od (.dK formKV)), (b, bagO x y z)] := W3.set 0 rfl
      generalize upd H3 d (.frz od (.dK formKV)) = H4 at W4 ⊢
      clear W3 W2
      refine for_it walk_items (fun j σ' H' => (∃ y3 y4 y5 y6 y7 y8 y9 y10 y11, σ' = [some (.ref a), some (.int (0 + i)), some (.ref b), y3, y4, y5, y6, y7, y8, y9, y10, y11]) ∧ ∃ x y z, BagOk (200 * j) x y z ∧ Ow H [] H' [(d, .frz od (.dK formKV)), (b, bagO x y z)]) ⟨⟨_, _, _, _, _, _, _, _, _, rfl⟩, x, y, z, ok, W4⟩ ?_ ?_ ?_
      · rintro j σ' H' _ ⟨_, x, y, z, _, W5⟩
        exact W5.get 0 rfl
      · rintro j v σ' H5 H6 hj ⟨⟨u3, u4, u5, u6, u7, u8, u9, u10, u11, rfl⟩, x5, y5', z5, ok5, W5⟩ ⟨Tp, x1, x2, rfl, nT, rfl, e1, e2⟩
        have W6 := W5.new (o := .tup [x1, x2]) nT
        obtain ⟨zw, f, ef, hfl, ⟨hzl, hza⟩, hul, hua⟩ := form_get hj
        have hj11 : j < 11 := hj
        have e1 : formKV[j]?.map (fun kv => kV kv.1) = some x1 := e1
        have e2 : formKV[j]?.map Prod.snd = some x2 := e2
        rw [ef] at e1 e2
        obtain rfl : V.str zw = x1 := Option.some.inj e1
        obtain rfl : V.str (lets f) = x2 := Option.some.inj e2
        clear e1 e2 ef
        refine ⟨Tp, _, rfl, .inl (.inl upd_same), rfl, ?_⟩
        have W7 : Ow H [] _ [(d, .frz od (.dK formKV)), (b, bagO x5 y5' z5)] := W6.tail
        clear W6 W5
        walk_at "rd"
        refine ⟨b, _, _, _, _, rfl, W7.get 1 rfl, ok5, by omega, fun s1 x8 y8 z8 H8 hl1 ha1 _ ok8 k8 hb8 => ?_⟩
        have W8 := W7.any1 1 rfl k8 hb8
        have ok8' : BagOk (200 * j + 9) x8 y8 z8 := ok8
        clear W7 ok8 ok5
        walk_at "rd"
        rename_i p9 H9 n9 s9 k9 h9 W9
        walk_at "take"
        rename_i d10 x10 y10 z10 H10 d100 d101 ok10 kp10 hb10 W10
        obtain ⟨u, hu, hm⟩ := atI_in (xs := [V.str (Str.ofString "root"), V.str s1, V.str (Str.ofString "ann")]) d100 d101
        refine ⟨_, _, _, u, rfl, rfl, W10.sq 0 rfl, hu, ?_⟩
        obtain ⟨un, rfl, hul', hua'⟩ : ∃ un : Str, u = .str un ∧ un.length ≤ 1000 ∧ Asc un := by
          simp only [List.mem_cons, List.not_mem_nil, or_false] at hm
          rcases hm with rfl | rfl | rfl
          · exact ⟨_, rfl, by decide +kernel, Asc.of (by decide +kernel)⟩
          · exact ⟨s1, rfl, by omega, ha1⟩
          · exact ⟨_, rfl, by decide +kernel, Asc.of (by decide +kernel)⟩
        have W10' : Ow H [] H10 [(d, .frz od (.dK formKV)), (b, bagO x10 y10 z10)] := W10.tail
        clear W10 W9 W8 hm hu
        walk_at "rd"
        rename_i t0 H11 n11 k11 h11 W11
        have ok11 : BagOk (200 * j + 10) x10 y10 z10 := ok10
        clear ok10 ok8' W10'
        intro D hD
        have htl : tl (lets f) = f := by simp [lets]
        refine lc_str (s := lets f) (fun pre H' => ∃ us x y z, us.length = pre.length ∧ (∀ u ∈ us, ∃ s, El A H' u s) ∧ BagOk (200 * j + 10 + 50 * pre.length) x y z ∧ Ow H [] H' [(D, .lst us), (t0, .tup [.str un, .str zw]), (d, .frz od (.dK formKV)), (b, bagO x y z)]) ⟨[], _, _, _, rfl, fun _ h => by simp at h, ok11, W11.new hD⟩ ?_ ?_
        · rintro pre c post H12 e12 ⟨us', x12, y12, z12, hul12, hus, ok12, W12⟩
          have hpl : pre.length < 3 := by
            have := congrArg List.length e12
            rw [htl, List.length_append, List.length_cons] at this
            omega
          walk_at "rd"
          refine ⟨b, _, c, _, _, _, rfl, W12.get 3 rfl, ok12, by omega, fun v s x13 y13 z13 H13 el ok13 k13 hb13 => ?_⟩
          have W13 := W12.any1 3 rfl k13 hb13
          have hb12 := W12.get 3 rfl
          have hD13 := W13.get 0 rfl
          refine ⟨us', W13.get 0 rfl, size_ok (by omega), us' ++ [v], x13, y13, z13, by rw [List.length_append, List.length_append, hul12]; rfl, fun u hu => ?_, ok13.mono (by rw [List.length_append, List.length_singleton]; omega), W13.set 0 rfl⟩
          rcases List.mem_append.mp hu with hu | hu
          · obtain ⟨s', hs'⟩ := hus u hu
            exact ⟨s', (hs'.keep1 hb12 k13 hb13).keep1 hD13 keep_upd upd_same⟩
          · rw [List.mem_singleton.mp hu]
            exact ⟨s, el.keep1 hD13 keep_upd upd_same⟩
        · rintro H12 ⟨us', x12, y12, z12, hul12, hus, ok12, W12⟩
          rw [htl] at hul12 ok12
          have ok12' : BagOk (200 * j + 160) x12 y12 z12 := ok12.mono (by omega)
          clear W11 ok12 ok11
          refine ⟨D, us', rfl, .inl ⟨W12.sq 0 rfl, fun l hl => ?_⟩⟩
          have W13 := W12.new (o := .tup us') hl
          refine ⟨t0, l, _, _, rfl, rfl, W13.get 2 rfl, W13.get 0 rfl, size_le (by show 2 + us'.length ≤ _; omega), fun t H14 k14 h14 => ?_⟩
          have W14 : Ow H [] H14 [(d, .frz od (.dK formKV)), (b, bagO x12 y12 z12)] := (W13.tail.tail.tail).call0 k14
          have hv2 : 2 ≤ ([V.str un, V.str zw] ++ us').length ∧ ([V.str un, V.str zw] ++ us').length ≤ 5 := by
            rw [List.length_append, hul12]
            show 2 ≤ 2 + f.length ∧ 2 + f.length ≤ 5
            omega
          have hel : ∀ x ∈ [V.str un, V.str zw] ++ us', ∃ s, El A H14 x s := fun x hx => by
            rcases List.mem_append.mp hx with hx | hx
            · simp only [List.mem_cons, List.not_mem_nil, or_false] at hx
              rcases hx with rfl | rfl
              · exact ⟨.str un, rfl, hul', hua'⟩
              · exact ⟨.str zw, rfl, by omega, hza⟩
            · obtain ⟨s', hs'⟩ := hus x hx
              exact ⟨s', (hs'.keep (keep_new hl)).keep k14⟩
          generalize [V.str un, V.str zw] ++ us' = vl at h14 hv2 hel
          obtain ⟨hv2, hv5⟩ := hv2
          clear W13 W12 hus hul12
          walk_at "rd"
          refine ⟨t, vl, rfl, .inr (.inl (.inl h14)), ?_⟩
          walk_at "take"
          rename_i at_ x15 y15 z15 H15 at0 at1 ok15 k15 hb15 W15
          have hb14 := W14.get 1 rfl
          have nt : t ≠ b := ne_of h14 hb14 (fun z => by cases z)
          have h15 : H15 t = some (.tup vl) := k15 _ _ h14 (by simpa using nt)
          have hel15 : ∀ x ∈ vl, ∃ s, El A H15 x s := fun x hx => (hel x hx).imp fun s h => h.keep1 hb14 k15 hb15
          clear W14 hel h14
          walk_at "rd"
          refine ⟨b, _, _, _, _, rfl, W15.get 1 rfl, ok15, by omega, fun o x16 y16 z16 H16 tho ok16 k16 hb16 => ?_⟩
          have W16 := W15.any1 1 rfl k16 hb16
          have h16 : H16 t = some (.tup vl) := k16 _ _ h15 (by simpa using nt)
          have hel16 : ∀ x ∈ vl, ∃ s, El A H16 x s := fun x hx => (hel15 x hx).imp fun s h => h.keep1 (W15.get 1 rfl) k16 hb16
          have ok16' : BagOk (200 * j + 170) x16 y16 z16 := ok16.mono (by omega)
          have W16' : Ow H [] H16 [(d, .frz od (.dK formKV)), (b, bagO x16 y16 z16)] := W16
          clear W15 W16 hel15 h15 ok15 ok16 k16 k15 hb15 hb16
          walk_at "rd"
          refine ⟨t, vl, o, zw, at_, _, _, _, _, _, _, _, _, rfl, h16, hel16, hv5, tho, ⟨hzl, hza⟩, hul, hua, fun u8 u9 u10 H17 k17 => ?_⟩
          have W17 := W16'.call0 k17
          exact ⟨⟨_, _, _, _, _, _, _, _, _, rfl⟩, x16, y16, z16, ok16'.mono (by omega), W17⟩
      · rintro σ' H5 ⟨⟨u3, u4, u5, u6, u7, u8, u9, u10, u11, rfl⟩, x5, y5', z5, ok5, W5⟩
        exact ⟨⟨_, _, _, _, _, _, _, _, _, _, _, rfl⟩, W5.drop⟩
    · rintro σ H1 ⟨⟨y1, y2, y3, y4, y5, y6, y7, y8, y9, y10, y11, rfl⟩, W1⟩
      walk_at "rd"
      rename_i p2 H2 np2 kp2 hp2 W2
      refine .inl ⟨p2, _, [.str "ann", .str "umask", .str "022"], rfl, hp2, .cons ⟨rfl, by decide +kernel, Asc.of (by decide +kernel)⟩ (.cons ⟨rfl, by decide +kernel, Asc.of (by decide +kernel)⟩ (.cons ⟨rfl, by decide +kernel, Asc.of (by decide +kernel)⟩ .nil)), by decide, fun H3 k3 => ?_⟩
      have W3 := W2.call0 k3
      refine ⟨_, rfl, ifT (show deedB [.str "ann", .str "umask", .str "022"] = true by decide +kernel) ?_⟩
      walk_at "rd"
      rename_i p4 H4 np4 kp4 hp4 W4
      refine .inl ⟨p4, _, [.str "ann"], rfl, hp4, .cons ⟨rfl, by decide +kernel, Asc.of (by decide +kernel)⟩ .nil, by decide, fun H5 k5 => ?_⟩
      have W5 := W4.call0 k5
      refine ⟨_, rfl, _, rfl, ifT (show (!deedB [.str "ann"]) = true by decide +kernel) ?_⟩
      walk_at "rd"
      rename_i p6 H6 np6 kp6 hp6 W6
      refine .inl ⟨p6, _, [], rfl, hp6, .nil, by decide, fun H7 k7 => ?_⟩
      exact ⟨_, rfl, q _⟩
end
end K41
namespace K41
open PySem PySem.Spec PyProof.Rows L2 FR TL
theorem all_mk {P : Program} {w : World} {K : PySem.W.Frag} {h : Heap} {mg : Str → Option Value} {fa : Addr} (X : K.In h) (G : h.Ns mainGlobals mg) (hfa : mg "law" = some (.ref fa))
    {O0 : Addr} {cdo0 : ClassData}
    {O1 : Addr} {cdo1 : ClassData}
    {f1 : Addr} {od1 an1 : Option Addr} {sl1 : Array (Option Value)} {oc1 kV1 dc1 pm1 cd1 ct1 : Value}
    {f2 : Addr} {od2 an2 : Option Addr} {sl2 : Array (Option Value)} {oc2 kV2 dc2 pm2 cd2 ct2 : Value}
    {f3 : Addr} {od3 an3 : Option Addr} {sl3 : Array (Option Value)} {oc3 kV3 dc3 pm3 cd3 ct3 : Value}
    {f4 : Addr} {od4 an4 : Option Addr} {sl4 : Array (Option Value)} {oc4 kV4 dc4 pm4 cd4 ct4 : Value}
    {f5 : Addr} {od5 an5 : Option Addr} {sl5 : Array (Option Value)} {oc5 kV5 dc5 pm5 cd5 ct5 : Value}
    {f6 : Addr} {od6 an6 : Option Addr} {sl6 : Array (Option Value)} {oc6 kV6 dc6 pm6 cd6 ct6 : Value}
    {f8 : Addr} {od8 an8 : Option Addr} {sl8 : Array (Option Value)} {oc8 kV8 dc8 pm8 cd8 ct8 : Value}
    {f9 : Addr} {od9 an9 : Option Addr} {sl9 : Array (Option Value)} {oc9 kV9 dc9 pm9 cd9 ct9 : Value}
    {f10 : Addr} {od10 an10 : Option Addr} {sl10 : Array (Option Value)} {oc10 kV10 dc10 pm10 cd10 ct10 : Value}
    {f15 : Addr} {od15 an15 : Option Addr} {sl15 : Array (Option Value)} {oc15 kV15 dc15 pm15 cd15 ct15 : Value}
    {f16 : Addr} {od16 an16 : Option Addr} {sl16 : Array (Option Value)} {oc16 kV16 dc16 pm16 cd16 ct16 : Value}
    {f17 : Addr} {od17 an17 : Option Addr} {sl17 : Array (Option Value)} {oc17 kV17 dc17 pm17 cd17 ct17 : Value}
    {f18 : Addr} {od18 an18 : Option Addr} {sl18 : Array (Option Value)} {oc18 kV18 dc18 pm18 cd18 ct18 : Value}
    {f19 : Addr} {od19 an19 : Option Addr} {sl19 : Array (Option Value)} {oc19 kV19 dc19 pm19 cd19 ct19 : Value}
    {f20 : Addr} {od20 an20 : Option Addr} {sl20 : Array (Option Value)} {oc20 kV20 dc20 pm20 cd20 ct20 : Value}
    {f21 : Addr} {od21 an21 : Option Addr} {sl21 : Array (Option Value)} {oc21 kV21 dc21 pm21 cd21 ct21 : Value}
    {f22 : Addr} {od22 an22 : Option Addr} {sl22 : Array (Option Value)} {oc22 kV22 dc22 pm22 cd22 ct22 : Value}
    {f23 : Addr} {od23 an23 : Option Addr} {sl23 : Array (Option Value)} {oc23 kV23 dc23 pm23 cd23 ct23 : Value}
    {f24 : Addr} {od24 an24 : Option Addr} {sl24 : Array (Option Value)} {oc24 kV24 dc24 pm24 cd24 ct24 : Value}
    {f25 : Addr} {od25 an25 : Option Addr} {sl25 : Array (Option Value)} {oc25 kV25 dc25 pm25 cd25 ct25 : Value}
    {f26 : Addr} {od26 an26 : Option Addr} {sl26 : Array (Option Value)} {oc26 kV26 dc26 pm26 cd26 ct26 : Value}
    {f27 : Addr} {od27 an27 : Option Addr} {sl27 : Array (Option Value)} {oc27 kV27 dc27 pm27 cd27 ct27 : Value}
    {f28 : Addr} {od28 an28 : Option Addr} {sl28 : Array (Option Value)} {oc28 kV28 dc28 pm28 cd28 ct28 : Value}
    {f29 : Addr} {od29 an29 : Option Addr} {sl29 : Array (Option Value)} {oc29 kV29 dc29 pm29 cd29 ct29 : Value}
    {f30 : Addr} {od30 an30 : Option Addr} {sl30 : Array (Option Value)} {oc30 kV30 dc30 pm30 cd30 ct30 : Value}
    {f31 : Addr} {od31 an31 : Option Addr} {sl31 : Array (Option Value)} {oc31 kV31 dc31 pm31 cd31 ct31 : Value}
    {DT31 : Addr} {dto31 : Obj} {dti31 : List Value} {dtn31 : Nat}
    {f33 : Addr} {od33 an33 : Option Addr} {sl33 : Array (Option Value)} {oc33 kV33 dc33 pm33 cd33 ct33 : Value}
    {P33 : Addr} {pr33 : List Value}
    {f48 : Addr} {od48 an48 : Option Addr} {sl48 : Array (Option Value)} {oc48 dc48 pm48 cd48 ct48 : Value}
    {D48 : Addr} 
    {f49 : Addr} {od49 an49 : Option Addr} {sl49 : Array (Option Value)} {oc49 kV49 dc49 pm49 cd49 ct49 : Value}
    {f50 : Addr} {od50 an50 : Option Addr} {sl50 : Array (Option Value)} {oc50 kV50 dc50 pm50 cd50 ct50 : Value}
    {P50 : Addr} {pr50 : List Value}
    {tc0 : Tok}
    {tc1 : Tok}
    {KD2 : Addr} {kes2 : Array DictEntry} {ken2 : Nat} {kt2_0 : Tok} {kt2_1 : Tok} {kt2_2 : Tok} {kt2_3 : Tok} {kt2_4 : Tok} {kt2_5 : Tok} {kt2_6 : Tok} {kt2_7 : Tok} {kt2_8 : Tok} {kt2_9 : Tok} {kt2_10 : Tok} {kt2_11 : Tok} {kt2_12 : Tok} {kt2_13 : Tok} {kt2_14 : Tok} {kt2_15 : Tok}
    {KD3 : Addr} {kto3 : Obj} {kti3 : Array Value} {ktn3 : Nat}
    {tc4 : Tok}
    {KD5 : Addr} {kes5 : Array DictEntry} {ken5 : Nat} 
    {kp5_0 : Addr} {kpo5_0 : Obj} {kpi5_0 : Array Value} {kpn5_0 : Nat}
    {kp5_1 : Addr} {kpo5_1 : Obj} {kpi5_1 : Array Value} {kpn5_1 : Nat}
    {kp5_2 : Addr} {kpo5_2 : Obj} {kpi5_2 : Array Value} {kpn5_2 : Nat}
    {kp5_3 : Addr} {kpo5_3 : Obj} {kpi5_3 : Array Value} {kpn5_3 : Nat}
    {kp5_4 : Addr} {kpo5_4 : Obj} {kpi5_4 : Array Value} {kpn5_4 : Nat}
    {kp5_5 : Addr} {kpo5_5 : Obj} {kpi5_5 : Array Value} {kpn5_5 : Nat}
    {kp5_6 : Addr} {kpo5_6 : Obj} {kpi5_6 : Array Value} {kpn5_6 : Nat}
    {kp5_7 : Addr} {kpo5_7 : Obj} {kpi5_7 : Array Value} {kpn5_7 : Nat}
    {kp5_8 : Addr} {kpo5_8 : Obj} {kpi5_8 : Array Value} {kpn5_8 : Nat}
    {kp5_9 : Addr} {kpo5_9 : Obj} {kpi5_9 : Array Value} {kpn5_9 : Nat}
    {kp5_10 : Addr} {kpo5_10 : Obj} {kpi5_10 : Array Value} {kpn5_10 : Nat}
    (oa0 : PySem.W.nsIn K mainGlobals "Rights" = some (some (.ref O0)))
    (opg0 : PySem.W.plainGet K O0 Str.empty = true)
    (ohd0 : PySem.W.hasDictIn K O0 = true)
    (opo0 : PySem.W.plainOver K O0 = true)
    (osa0 : PySem.W.findIn K (.ref O0) "__setattr__" = some (some (.builtin "object.__setattr__")))
    (omk0 : PySem.W.makesIn K O0 = true)
    (okc0 : PySem.W.keepIn K (.ref O0) = true)
    (oca0 : PySem.W.findIn K (.ref O0) "__class__" = some (some (.builtin "object.__class__")))
    (ocn0 : PySem.W.specialIn K (.builtin "object.__class__") "__get__" = some (some (.builtin "getset_descriptor.__get__")))
    (oct0 : PySem.W.takesIn K (.builtin "object.__class__") = some true)
    (ocm0 : PySem.W.mroIn K O0 (.type "object") = some true)
    (osf0 : PySem.W.selfFirst K O0 = true)
    (ocd0 : PySem.W.clsIn K O0 = some cdo0)
    (omr0 : cdo0.mro = [.ref O0, .type "object"])
    (one0 : PySem.W.findIn K (.ref O0) "__ne__" = some (some (.builtin "object.__ne__")))
    (ona_digit0 : PySem.W.findIn K (.ref O0) "_digit" = some none)
    (onfstr0 : PySem.W.notFirst K O0 (.type "str") = true)
    (ord0 : PySem.W.readsIn K O0 (.type "type") = true)
    (org0 : PySem.W.specialIn K (.ref O0) "__getattribute__" = some (some (.builtin "type.__getattribute__")))
    (oic0 : PySem.W.isClsIn K O0 = true)
    (oyt0 : PySem.W.typeIn K (.ref O0) = some (.type "type"))
    (oktstr0 : PySem.W.subIn K (.type "str") (.ref O0) = some false)
    (okistr0 : PySem.W.kitOne K (.ref O0) (.type "str") = some false)
    (oa1 : PySem.W.nsIn K mainGlobals "AccessList" = some (some (.ref O1)))
    (opg1 : PySem.W.plainGet K O1 Str.empty = true)
    (ohd1 : PySem.W.hasDictIn K O1 = true)
    (opo1 : PySem.W.plainOver K O1 = true)
    (osa1 : PySem.W.findIn K (.ref O1) "__setattr__" = some (some (.builtin "object.__setattr__")))
    (omk1 : PySem.W.makesIn K O1 = true)
    (okc1 : PySem.W.keepIn K (.ref O1) = true)
    (oca1 : PySem.W.findIn K (.ref O1) "__class__" = some (some (.builtin "object.__class__")))
    (ocn1 : PySem.W.specialIn K (.builtin "object.__class__") "__get__" = some (some (.builtin "getset_descriptor.__get__")))
    (oct1 : PySem.W.takesIn K (.builtin "object.__class__") = some true)
    (ocm1 : PySem.W.mroIn K O1 (.type "object") = some true)
    (osf1 : PySem.W.selfFirst K O1 = true)
    (ocd1 : PySem.W.clsIn K O1 = some cdo1)
    (omr1 : cdo1.mro = [.ref O1, .type "object"])
    (one1 : PySem.W.findIn K (.ref O1) "__ne__" = some (some (.builtin "object.__ne__")))
    (ona_owner1 : PySem.W.findIn K (.ref O1) "_owner" = some none)
    (ona_group1 : PySem.W.findIn K (.ref O1) "_group" = some none)
    (ona_other1 : PySem.W.findIn K (.ref O1) "_other" = some none)
    (ona_users1 : PySem.W.findIn K (.ref O1) "_users" = some none)
    (ona_groups1 : PySem.W.findIn K (.ref O1) "_groups" = some none)
    (ona_mask1 : PySem.W.findIn K (.ref O1) "_mask" = some none)
    (onfstr1 : PySem.W.notFirst K O1 (.type "str") = true)
    (onfint1 : PySem.W.notFirst K O1 (.type "int") = true)
    (onfbool1 : PySem.W.notFirst K O1 (.type "bool") = true)
    (onfNoneType1 : PySem.W.notFirst K O1 (.type "NoneType") = true)
    (onflist1 : PySem.W.notFirst K O1 (.type "list") = true)
    (onftuple1 : PySem.W.notFirst K O1 (.type "tuple") = true)
    (onfdict1 : PySem.W.notFirst K O1 (.type "dict") = true)
    (ord1 : PySem.W.readsIn K O1 (.type "type") = true)
    (org1 : PySem.W.specialIn K (.ref O1) "__getattribute__" = some (some (.builtin "type.__getattribute__")))
    (oic1 : PySem.W.isClsIn K O1 = true)
    (oyt1 : PySem.W.typeIn K (.ref O1) = some (.type "type"))
    (oktstr1 : PySem.W.subIn K (.type "str") (.ref O1) = some false)
    (oktint1 : PySem.W.subIn K (.type "int") (.ref O1) = some false)
    (oktbool1 : PySem.W.subIn K (.type "bool") (.ref O1) = some false)
    (oktNoneType1 : PySem.W.subIn K (.type "NoneType") (.ref O1) = some false)
    (oktlist1 : PySem.W.subIn K (.type "list") (.ref O1) = some false)
    (okttuple1 : PySem.W.subIn K (.type "tuple") (.ref O1) = some false)
    (oktdict1 : PySem.W.subIn K (.type "dict") (.ref O1) = some false)
    (okistr1 : PySem.W.kitOne K (.ref O1) (.type "str") = some false)
    (okibool1 : PySem.W.kitOne K (.ref O1) (.type "bool") = some false)
    (okituple1 : PySem.W.kitOne K (.ref O1) (.type "tuple") = some false)
    (okiint1 : PySem.W.kitOne K (.ref O1) (.type "int") = some false)
    (a1 : PySem.W.nsIn K mainGlobals "is_integer" = some (some (.ref f1)))
    (l1 : K.lookup f1 = some ⟨oc1, od1, .func (PySem.W.fnOf "is_integer" "is_integer" (defArgs s_is_integer) (defBody s_is_integer) (defScope s_is_integer) .none kV1 dc1 pm1 an1 cd1 ct1), sl1⟩)
    (c1 : PySem.W.codeIn K cd1 "is_integer" = true) (k1 : PySem.W.keepIn K (.ref f1) = true)
    (a2 : PySem.W.nsIn K mainGlobals "is_name" = some (some (.ref f2)))
    (l2 : K.lookup f2 = some ⟨oc2, od2, .func (PySem.W.fnOf "is_name" "is_name" (defArgs s_is_name) (defBody s_is_name) (defScope s_is_name) .none kV2 dc2 pm2 an2 cd2 ct2), sl2⟩)
    (c2 : PySem.W.codeIn K cd2 "is_name" = true) (k2 : PySem.W.keepIn K (.ref f2) = true)
    (a3 : PySem.W.nsIn K mainGlobals "is_user_name" = some (some (.ref f3)))
    (l3 : K.lookup f3 = some ⟨oc3, od3, .func (PySem.W.fnOf "is_user_name" "is_user_name" (defArgs s_is_user_name) (defBody s_is_user_name) (defScope s_is_user_name) .none kV3 dc3 pm3 an3 cd3 ct3), sl3⟩)
    (c3 : PySem.W.codeIn K cd3 "is_user_name" = true) (k3 : PySem.W.keepIn K (.ref f3) = true)
    (a4 : PySem.W.nsIn K mainGlobals "is_path" = some (some (.ref f4)))
    (l4 : K.lookup f4 = some ⟨oc4, od4, .func (PySem.W.fnOf "is_path" "is_path" (defArgs s_is_path) (defBody s_is_path) (defScope s_is_path) .none kV4 dc4 pm4 an4 cd4 ct4), sl4⟩)
    (c4 : PySem.W.codeIn K cd4 "is_path" = true) (k4 : PySem.W.keepIn K (.ref f4) = true)
    (a5 : PySem.W.nsIn K mainGlobals "as_rights" = some (some (.ref f5)))
    (l5 : K.lookup f5 = some ⟨oc5, od5, .func (PySem.W.fnOf "as_rights" "as_rights" (defArgs s_as_rights) (defBody s_as_rights) (defScope s_as_rights) .none kV5 dc5 pm5 an5 cd5 ct5), sl5⟩)
    (c5 : PySem.W.codeIn K cd5 "as_rights" = true) (k5 : PySem.W.keepIn K (.ref f5) = true)
    (a6 : PySem.W.nsIn K mainGlobals "_is_letters" = some (some (.ref f6)))
    (l6 : K.lookup f6 = some ⟨oc6, od6, .func (PySem.W.fnOf "_is_letters" "_is_letters" (defArgs s__is_letters) (defBody s__is_letters) (defScope s__is_letters) .none kV6 dc6 pm6 an6 cd6 ct6), sl6⟩)
    (c6 : PySem.W.codeIn K cd6 "_is_letters" = true) (k6 : PySem.W.keepIn K (.ref f6) = true)
    (a8 : PySem.W.nsIn K mainGlobals "is_digits" = some (some (.ref f8)))
    (l8 : K.lookup f8 = some ⟨oc8, od8, .func (PySem.W.fnOf "is_digits" "is_digits" (defArgs s_is_digits) (defBody s_is_digits) (defScope s_is_digits) .none kV8 dc8 pm8 an8 cd8 ct8), sl8⟩)
    (c8 : PySem.W.codeIn K cd8 "is_digits" = true) (k8 : PySem.W.keepIn K (.ref f8) = true)
    (a9 : PySem.W.nsIn K mainGlobals "_three_rights" = some (some (.ref f9)))
    (l9 : K.lookup f9 = some ⟨oc9, od9, .func (PySem.W.fnOf "_three_rights" "_three_rights" (defArgs s__three_rights) (defBody s__three_rights) (defScope s__three_rights) .none kV9 dc9 pm9 an9 cd9 ct9), sl9⟩)
    (c9 : PySem.W.codeIn K cd9 "_three_rights" = true) (k9 : PySem.W.keepIn K (.ref f9) = true)
    (a10 : PySem.W.nsIn K mainGlobals "_named_rights" = some (some (.ref f10)))
    (l10 : K.lookup f10 = some ⟨oc10, od10, .func (PySem.W.fnOf "_named_rights" "_named_rights" (defArgs s__named_rights) (defBody s__named_rights) (defScope s__named_rights) .none kV10 dc10 pm10 an10 cd10 ct10), sl10⟩)
    (c10 : PySem.W.codeIn K cd10 "_named_rights" = true) (k10 : PySem.W.keepIn K (.ref f10) = true)
    (a15 : PySem.W.nsIn K mainGlobals "is_deed" = some (some (.ref f15)))
    (l15 : K.lookup f15 = some ⟨oc15, od15, .func (PySem.W.fnOf "is_deed" "is_deed" (defArgs s_is_deed) (defBody s_is_deed) (defScope s_is_deed) .none kV15 dc15 pm15 an15 cd15 ct15), sl15⟩)
    (c15 : PySem.W.codeIn K cd15 "is_deed" = true) (k15 : PySem.W.keepIn K (.ref f15) = true)
    (a16 : PySem.W.nsIn K mainGlobals "are_parts" = some (some (.ref f16)))
    (l16 : K.lookup f16 = some ⟨oc16, od16, .func (PySem.W.fnOf "are_parts" "are_parts" (defArgs s_are_parts) (defBody s_are_parts) (defScope s_are_parts) .none kV16 dc16 pm16 an16 cd16 ct16), sl16⟩)
    (c16 : PySem.W.codeIn K cd16 "are_parts" = true) (k16 : PySem.W.keepIn K (.ref f16) = true)
    (a17 : PySem.W.nsIn K mainGlobals "_is_part" = some (some (.ref f17)))
    (l17 : K.lookup f17 = some ⟨oc17, od17, .func (PySem.W.fnOf "_is_part" "_is_part" (defArgs s__is_part) (defBody s__is_part) (defScope s__is_part) .none kV17 dc17 pm17 an17 cd17 ct17), sl17⟩)
    (c17 : PySem.W.codeIn K cd17 "_is_part" = true) (k17 : PySem.W.keepIn K (.ref f17) = true)
    (a18 : PySem.W.nsIn K mainGlobals "_law_cell" = some (some (.ref f18)))
    (l18 : K.lookup f18 = some ⟨oc18, od18, .func (PySem.W.fnOf "_law_cell" "_law_cell" (defArgs s_cell) (defBody s_cell) (defScope s_cell) .none kV18 dc18 pm18 an18 cd18 ct18), sl18⟩)
    (c18 : PySem.W.codeIn K cd18 "_law_cell" = true) (k18 : PySem.W.keepIn K (.ref f18) = true)
    (a19 : PySem.W.nsIn K mainGlobals "_law_bag" = some (some (.ref f19)))
    (l19 : K.lookup f19 = some ⟨oc19, od19, .func (PySem.W.fnOf "_law_bag" "_law_bag" (defArgs s_bag) (defBody s_bag) (defScope s_bag) .none kV19 dc19 pm19 an19 cd19 ct19), sl19⟩)
    (c19 : PySem.W.codeIn K cd19 "_law_bag" = true) (k19 : PySem.W.keepIn K (.ref f19) = true)
    (a20 : PySem.W.nsIn K mainGlobals "_law_take" = some (some (.ref f20)))
    (l20 : K.lookup f20 = some ⟨oc20, od20, .func (PySem.W.fnOf "_law_take" "_law_take" (defArgs s_take) (defBody s_take) (defScope s_take) .none kV20 dc20 pm20 an20 cd20 ct20), sl20⟩)
    (c20 : PySem.W.codeIn K cd20 "_law_take" = true) (k20 : PySem.W.keepIn K (.ref f20) = true)
    (a21 : PySem.W.nsIn K mainGlobals "_law_word" = some (some (.ref f21)))
    (l21 : K.lookup f21 = some ⟨oc21, od21, .func (PySem.W.fnOf "_law_word" "_law_word" (defArgs s_word) (defBody s_word) (defScope s_word) .none kV21 dc21 pm21 an21 cd21 ct21), sl21⟩)
    (c21 : PySem.W.codeIn K cd21 "_law_word" = true) (k21 : PySem.W.keepIn K (.ref f21) = true)
    (a22 : PySem.W.nsIn K mainGlobals "_law_path" = some (some (.ref f22)))
    (l22 : K.lookup f22 = some ⟨oc22, od22, .func (PySem.W.fnOf "_law_path" "_law_path" (defArgs s_path) (defBody s_path) (defScope s_path) .none kV22 dc22 pm22 an22 cd22 ct22), sl22⟩)
    (c22 : PySem.W.codeIn K cd22 "_law_path" = true) (k22 : PySem.W.keepIn K (.ref f22) = true)
    (a23 : PySem.W.nsIn K mainGlobals "_law_digits" = some (some (.ref f23)))
    (l23 : K.lookup f23 = some ⟨oc23, od23, .func (PySem.W.fnOf "_law_digits" "_law_digits" (defArgs s_digits) (defBody s_digits) (defScope s_digits) .none kV23 dc23 pm23 an23 cd23 ct23), sl23⟩)
    (c23 : PySem.W.codeIn K cd23 "_law_digits" = true) (k23 : PySem.W.keepIn K (.ref f23) = true)
    (a24 : PySem.W.nsIn K mainGlobals "_law_forms" = some (some (.ref f24)))
    (l24 : K.lookup f24 = some ⟨oc24, od24, .func (PySem.W.fnOf "_law_forms" "_law_forms" (defArgs s_forms) (defBody s_forms) (defScope s_forms) .none kV24 dc24 pm24 an24 cd24 ct24), sl24⟩)
    (c24 : PySem.W.codeIn K cd24 "_law_forms" = true) (k24 : PySem.W.keepIn K (.ref f24) = true)
    (a25 : PySem.W.nsIn K mainGlobals "_law_of_kind" = some (some (.ref f25)))
    (l25 : K.lookup f25 = some ⟨oc25, od25, .func (PySem.W.fnOf "_law_of_kind" "_law_of_kind" (defArgs s_of_kind) (defBody s_of_kind) (defScope s_of_kind) .none kV25 dc25 pm25 an25 cd25 ct25), sl25⟩)
    (c25 : PySem.W.codeIn K cd25 "_law_of_kind" = true) (k25 : PySem.W.keepIn K (.ref f25) = true)
    (a26 : PySem.W.nsIn K mainGlobals "_law_is_name" = some (some (.ref f26)))
    (l26 : K.lookup f26 = some ⟨oc26, od26, .func (PySem.W.fnOf "_law_is_name" "_law_is_name" (defArgs s_l_is_name) (defBody s_l_is_name) (defScope s_l_is_name) .none kV26 dc26 pm26 an26 cd26 ct26), sl26⟩)
    (c26 : PySem.W.codeIn K cd26 "_law_is_name" = true) (k26 : PySem.W.keepIn K (.ref f26) = true)
    (a27 : PySem.W.nsIn K mainGlobals "_law_fits" = some (some (.ref f27)))
    (l27 : K.lookup f27 = some ⟨oc27, od27, .func (PySem.W.fnOf "_law_fits" "_law_fits" (defArgs s_fits) (defBody s_fits) (defScope s_fits) .none kV27 dc27 pm27 an27 cd27 ct27), sl27⟩)
    (c27 : PySem.W.codeIn K cd27 "_law_fits" = true) (k27 : PySem.W.keepIn K (.ref f27) = true)
    (a28 : PySem.W.nsIn K mainGlobals "_law_due" = some (some (.ref f28)))
    (l28 : K.lookup f28 = some ⟨oc28, od28, .func (PySem.W.fnOf "_law_due" "_law_due" (defArgs s_due) (defBody s_due) (defScope s_due) .none kV28 dc28 pm28 an28 cd28 ct28), sl28⟩)
    (c28 : PySem.W.codeIn K cd28 "_law_due" = true) (k28 : PySem.W.keepIn K (.ref f28) = true)
    (a29 : PySem.W.nsIn K mainGlobals "_law_odd" = some (some (.ref f29)))
    (l29 : K.lookup f29 = some ⟨oc29, od29, .func (PySem.W.fnOf "_law_odd" "_law_odd" (defArgs s_odd) (defBody s_odd) (defScope s_odd) .none kV29 dc29 pm29 an29 cd29 ct29), sl29⟩)
    (c29 : PySem.W.codeIn K cd29 "_law_odd" = true) (k29 : PySem.W.keepIn K (.ref f29) = true)
    (a30 : PySem.W.nsIn K mainGlobals "law" = some (some (.ref f30)))
    (l30 : K.lookup f30 = some ⟨oc30, od30, .func (PySem.W.fnOf "law" "law" (defArgs s_law) (defBody s_law) (defScope s_law) .none kV30 dc30 pm30 an30 cd30 ct30), sl30⟩)
    (c30 : PySem.W.codeIn K cd30 "law" = true) (k30 : PySem.W.keepIn K (.ref f30) = true)
    (a31 : PySem.W.findIn K (.ref O0) "__init__" = some (some (.ref f31)))
    (t31 : PySem.W.isFn K (.ref f31) = true)
    (l31 : K.lookup f31 = some ⟨oc31, od31, .func (PySem.W.fnOf "__init__" "Rights.__init__" (defArgs s_Rights___init__) (defBody s_Rights___init__) (defScope s_Rights___init__) (.ref DT31) kV31 dc31 pm31 an31 cd31 ct31), sl31⟩)
    (c31 : PySem.W.codeIn K cd31 "Rights.__init__" = true)
    (k31 : PySem.W.keepIn K (.ref f31) = true)
    (dl31 : K.lookup DT31 = some dto31)
    (dd31 : dto31.data = .seq dti31.toArray dtn31)
    (dv31 : Vals [.str ""] dti31)
    (a33 : PySem.W.findCls K (.ref O0) (.type "type") "from_digit" = some (PySem.W.CFound.get (.builtin "classmethod.__get__") (.ref P33) .none (.ref O0)))
    (px33 : PySem.W.recIn K P33 "classmethod" = some (.ref f33 :: pr33))
    (pf33 : PySem.W.fnIn K f33 = true)
    (l33 : K.lookup f33 = some ⟨oc33, od33, .func (PySem.W.fnOf "from_digit" "Rights.from_digit" (defArgs s_Rights_from_digit) (defBody s_Rights_from_digit) (defScope s_Rights_from_digit) .none kV33 dc33 pm33 an33 cd33 ct33), sl33⟩)
    (c33 : PySem.W.codeIn K cd33 "Rights.from_digit" = true)
    (k33 : PySem.W.keepIn K (.ref f33) = true)
    (a48 : PySem.W.findIn K (.ref O1) "__init__" = some (some (.ref f48)))
    (t48 : PySem.W.isFn K (.ref f48) = true)
    (l48 : K.lookup f48 = some ⟨oc48, od48, .func (PySem.W.fnOf "__init__" "AccessList.__init__" (defArgs s_AccessList___init__) (defBody s_AccessList___init__) (defScope s_AccessList___init__) .none (.ref D48) dc48 pm48 an48 cd48 ct48), sl48⟩)
    (c48 : PySem.W.codeIn K cd48 "AccessList.__init__" = true)
    (k48 : PySem.W.keepIn K (.ref f48) = true)
    (w48_0 : PySem.W.nsIn K D48 "users" = some (some .none))
    (w48_1 : PySem.W.nsIn K D48 "groups" = some (some .none))
    (w48_2 : PySem.W.nsIn K D48 "mask" = some (some .none))
    (a49 : PySem.W.findIn K (.ref O1) "_first_mask" = some (some (.ref f49)))
    (t49 : PySem.W.isFn K (.ref f49) = true)
    (l49 : K.lookup f49 = some ⟨oc49, od49, .func (PySem.W.fnOf "_first_mask" "AccessList._first_mask" (defArgs s_AccessList__first_mask) (defBody s_AccessList__first_mask) (defScope s_AccessList__first_mask) .none kV49 dc49 pm49 an49 cd49 ct49), sl49⟩)
    (c49 : PySem.W.codeIn K cd49 "AccessList._first_mask" = true)
    (k49 : PySem.W.keepIn K (.ref f49) = true)
    (a50 : PySem.W.findCls K (.ref O1) (.type "type") "plain" = some (PySem.W.CFound.get (.builtin "classmethod.__get__") (.ref P50) .none (.ref O1)))
    (px50 : PySem.W.recIn K P50 "classmethod" = some (.ref f50 :: pr50))
    (pf50 : PySem.W.fnIn K f50 = true)
    (l50 : K.lookup f50 = some ⟨oc50, od50, .func (PySem.W.fnOf "plain" "AccessList.plain" (defArgs s_AccessList_plain) (defBody s_AccessList_plain) (defScope s_AccessList_plain) .none kV50 dc50 pm50 an50 cd50 ct50), sl50⟩)
    (c50 : PySem.W.codeIn K cd50 "AccessList.plain" = true)
    (k50 : PySem.W.keepIn K (.ref f50) = true)
    (q0 : PySem.W.nsIn K mainGlobals "LONGEST_NAME" = some (some (.int 8 tc0)))
    (q1 : PySem.W.nsIn K mainGlobals "ALL_DIGIT" = some (some (.int 7 tc1)))
    (q2 : PySem.W.nsIn K mainGlobals "DIGITS" = some (some (.ref KD2)))
    (kl2 : K.lookup KD2 = some ⟨.type "dict", none, .dict kes2 ken2, #[]⟩)
    (ky2 : PySem.W.KeysLit w.params kes2.toList)
    (ks2 : (KD2 == sysModules) = false)
    (kv2_0 : PySem.W.nsIn K KD2 "" = some (some (.int 0 kt2_0)))
    (kv2_1 : PySem.W.nsIn K KD2 "x" = some (some (.int 1 kt2_1)))
    (kv2_2 : PySem.W.nsIn K KD2 "w" = some (some (.int 2 kt2_2)))
    (kv2_3 : PySem.W.nsIn K KD2 "wx" = some (some (.int 3 kt2_3)))
    (kv2_4 : PySem.W.nsIn K KD2 "xw" = some (some (.int 3 kt2_4)))
    (kv2_5 : PySem.W.nsIn K KD2 "r" = some (some (.int 4 kt2_5)))
    (kv2_6 : PySem.W.nsIn K KD2 "rx" = some (some (.int 5 kt2_6)))
    (kv2_7 : PySem.W.nsIn K KD2 "xr" = some (some (.int 5 kt2_7)))
    (kv2_8 : PySem.W.nsIn K KD2 "rw" = some (some (.int 6 kt2_8)))
    (kv2_9 : PySem.W.nsIn K KD2 "wr" = some (some (.int 6 kt2_9)))
    (kv2_10 : PySem.W.nsIn K KD2 "rwx" = some (some (.int 7 kt2_10)))
    (kv2_11 : PySem.W.nsIn K KD2 "rxw" = some (some (.int 7 kt2_11)))
    (kv2_12 : PySem.W.nsIn K KD2 "wrx" = some (some (.int 7 kt2_12)))
    (kv2_13 : PySem.W.nsIn K KD2 "wxr" = some (some (.int 7 kt2_13)))
    (kv2_14 : PySem.W.nsIn K KD2 "xrw" = some (some (.int 7 kt2_14)))
    (kv2_15 : PySem.W.nsIn K KD2 "xwr" = some (some (.int 7 kt2_15)))
    (q3 : PySem.W.nsIn K mainGlobals "WORDS" = some (some (.ref KD3)))
    (kl3 : K.lookup KD3 = some kto3)
    (ku3 : kto3.cls = .type "tuple")
    (kd3 : kto3.data = .seq kti3 ktn3)
    (kz3 : kti3.size ≤ sizeLine)
    (kv3 : Vals [.str "", .str "x", .str "w", .str "wx", .str "r", .str "rx", .str "rw", .str "rwx"] kti3.toList)
    (q4 : PySem.W.nsIn K mainGlobals "MOST_NAMED" = some (some (.int 6 tc4)))
    (q5 : PySem.W.nsIn K mainGlobals "PARTS" = some (some (.ref KD5)))
    (kl5 : K.lookup KD5 = some ⟨.type "dict", none, .dict kes5 ken5, #[]⟩)
    (ky5 : PySem.W.KeysLit w.params kes5.toList)
    (ks5 : (KD5 == sysModules) = false)
    (kq5 : Vals [.str "read", .str "write", .str "file", .str "folder", .str "move", .str "remove", .str "allow", .str "default", .str "mark", .str "give", .str "umask"] (kes5.toList.map (·.key)))
    (kv5_0 : PySem.W.nsIn K KD5 "read" = some (some (.ref kp5_0)))
    (kw5_0 : K.lookup kp5_0 = some kpo5_0)
    (ku5_0 : kpo5_0.cls = .type "tuple")
    (kd5_0 : kpo5_0.data = .seq kpi5_0 kpn5_0)
    (kz5_0 : kpi5_0.size ≤ sizeLine)
    (kx5_0 : Vals [.str "path"] kpi5_0.toList)
    (kv5_1 : PySem.W.nsIn K KD5 "write" = some (some (.ref kp5_1)))
    (kw5_1 : K.lookup kp5_1 = some kpo5_1)
    (ku5_1 : kpo5_1.cls = .type "tuple")
    (kd5_1 : kpo5_1.data = .seq kpi5_1 kpn5_1)
    (kz5_1 : kpi5_1.size ≤ sizeLine)
    (kx5_1 : Vals [.str "path", .str "content"] kpi5_1.toList)
    (kv5_2 : PySem.W.nsIn K KD5 "file" = some (some (.ref kp5_2)))
    (kw5_2 : K.lookup kp5_2 = some kpo5_2)
    (ku5_2 : kpo5_2.cls = .type "tuple")
    (kd5_2 : kpo5_2.data = .seq kpi5_2 kpn5_2)
    (kz5_2 : kpi5_2.size ≤ sizeLine)
    (kx5_2 : Vals [.str "path", .str "digits"] kpi5_2.toList)
    (kv5_3 : PySem.W.nsIn K KD5 "folder" = some (some (.ref kp5_3)))
    (kw5_3 : K.lookup kp5_3 = some kpo5_3)
    (ku5_3 : kpo5_3.cls = .type "tuple")
    (kd5_3 : kpo5_3.data = .seq kpi5_3 kpn5_3)
    (kz5_3 : kpi5_3.size ≤ sizeLine)
    (kx5_3 : Vals [.str "path", .str "digits"] kpi5_3.toList)
    (kv5_4 : PySem.W.nsIn K KD5 "move" = some (some (.ref kp5_4)))
    (kw5_4 : K.lookup kp5_4 = some kpo5_4)
    (ku5_4 : kpo5_4.cls = .type "tuple")
    (kd5_4 : kpo5_4.data = .seq kpi5_4 kpn5_4)
    (kz5_4 : kpi5_4.size ≤ sizeLine)
    (kx5_4 : Vals [.str "path", .str "path"] kpi5_4.toList)
    (kv5_5 : PySem.W.nsIn K KD5 "remove" = some (some (.ref kp5_5)))
    (kw5_5 : K.lookup kp5_5 = some kpo5_5)
    (ku5_5 : kpo5_5.cls = .type "tuple")
    (kd5_5 : kpo5_5.data = .seq kpi5_5 kpn5_5)
    (kz5_5 : kpi5_5.size ≤ sizeLine)
    (kx5_5 : Vals [.str "path"] kpi5_5.toList)
    (kv5_6 : PySem.W.nsIn K KD5 "allow" = some (some (.ref kp5_6)))
    (kw5_6 : K.lookup kp5_6 = some kpo5_6)
    (ku5_6 : kpo5_6.cls = .type "tuple")
    (kd5_6 : kpo5_6.data = .seq kpi5_6 kpn5_6)
    (kz5_6 : kpi5_6.size ≤ sizeLine)
    (kx5_6 : Vals [.str "path", .str "access"] kpi5_6.toList)
    (kv5_7 : PySem.W.nsIn K KD5 "default" = some (some (.ref kp5_7)))
    (kw5_7 : K.lookup kp5_7 = some kpo5_7)
    (ku5_7 : kpo5_7.cls = .type "tuple")
    (kd5_7 : kpo5_7.data = .seq kpi5_7 kpn5_7)
    (kz5_7 : kpi5_7.size ≤ sizeLine)
    (kx5_7 : Vals [.str "path", .str "default"] kpi5_7.toList)
    (kv5_8 : PySem.W.nsIn K KD5 "mark" = some (some (.ref kp5_8)))
    (kw5_8 : K.lookup kp5_8 = some kpo5_8)
    (ku5_8 : kpo5_8.cls = .type "tuple")
    (kd5_8 : kpo5_8.data = .seq kpi5_8 kpn5_8)
    (kz5_8 : kpi5_8.size ≤ sizeLine)
    (kx5_8 : Vals [.str "path", .str "mark", .str "mark"] kpi5_8.toList)
    (kv5_9 : PySem.W.nsIn K KD5 "give" = some (some (.ref kp5_9)))
    (kw5_9 : K.lookup kp5_9 = some kpo5_9)
    (ku5_9 : kpo5_9.cls = .type "tuple")
    (kd5_9 : kpo5_9.data = .seq kpi5_9 kpn5_9)
    (kz5_9 : kpi5_9.size ≤ sizeLine)
    (kx5_9 : Vals [.str "path", .str "group"] kpi5_9.toList)
    (kv5_10 : PySem.W.nsIn K KD5 "umask" = some (some (.ref kp5_10)))
    (kw5_10 : K.lookup kp5_10 = some kpo5_10)
    (ku5_10 : kpo5_10.cls = .type "tuple")
    (kd5_10 : kpo5_10.data = .seq kpi5_10 kpn5_10)
    (kz5_10 : kpi5_10.size ≤ sizeLine)
    (kx5_10 : Vals [.str "digits"] kpi5_10.toList)
    (z0 : PySem.W.nsIn K mainGlobals "all" = some none)
    (z1 : PySem.W.nsIn K mainGlobals "bool" = some none)
    (z2 : PySem.W.nsIn K mainGlobals "dict" = some none)
    (z3 : PySem.W.nsIn K mainGlobals "enumerate" = some none)
    (z4 : PySem.W.nsIn K mainGlobals "int" = some none)
    (z5 : PySem.W.nsIn K mainGlobals "isinstance" = some none)
    (z6 : PySem.W.nsIn K mainGlobals "len" = some none)
    (z7 : PySem.W.nsIn K mainGlobals "list" = some none)
    (z8 : PySem.W.nsIn K mainGlobals "max" = some none)
    (z9 : PySem.W.nsIn K mainGlobals "min" = some none)
    (z10 : PySem.W.nsIn K mainGlobals "range" = some none)
    (z11 : PySem.W.nsIn K mainGlobals "sorted" = some none)
    (z12 : PySem.W.nsIn K mainGlobals "str" = some none)
    (z13 : PySem.W.nsIn K mainGlobals "tuple" = some none)
    (z14 : PySem.W.nsIn K mainGlobals "zip" = some none) :
    ∃ fd : FuncData, (∀ (s : Shared) (v : Value), BindsTo s fd ⟨[v], []⟩ [("_law_script", v)]) ∧ ∀ base : Heap, K.In base → base.Ns mainGlobals mg → FnOk P w K mg base CX0 13 fa fd ["_law_script"] (spLaw K) := by
  have e := hfa.symm.trans (PySem.W.mg_of X G a30)
  cases e
  let A : Ads := {
    C_Rights := O0
    C_AccessList := O1
    f_is_integer := f1
    d_is_integer := PySem.W.fnOf "is_integer" "is_integer" (defArgs s_is_integer) (defBody s_is_integer) (defScope s_is_integer) .none kV1 dc1 pm1 an1 cd1 ct1
    f_is_name := f2
    d_is_name := PySem.W.fnOf "is_name" "is_name" (defArgs s_is_name) (defBody s_is_name) (defScope s_is_name) .none kV2 dc2 pm2 an2 cd2 ct2
    f_is_user_name := f3
    d_is_user_name := PySem.W.fnOf "is_user_name" "is_user_name" (defArgs s_is_user_name) (defBody s_is_user_name) (defScope s_is_user_name) .none kV3 dc3 pm3 an3 cd3 ct3
    f_is_path := f4
    d_is_path := PySem.W.fnOf "is_path" "is_path" (defArgs s_is_path) (defBody s_is_path) (defScope s_is_path) .none kV4 dc4 pm4 an4 cd4 ct4
    f_as_rights := f5
    d_as_rights := PySem.W.fnOf "as_rights" "as_rights" (defArgs s_as_rights) (defBody s_as_rights) (defScope s_as_rights) .none kV5 dc5 pm5 an5 cd5 ct5
    f__is_letters := f6
    d__is_letters := PySem.W.fnOf "_is_letters" "_is_letters" (defArgs s__is_letters) (defBody s__is_letters) (defScope s__is_letters) .none kV6 dc6 pm6 an6 cd6 ct6
    f_is_digits := f8
    d_is_digits := PySem.W.fnOf "is_digits" "is_digits" (defArgs s_is_digits) (defBody s_is_digits) (defScope s_is_digits) .none kV8 dc8 pm8 an8 cd8 ct8
    f__three_rights := f9
    d__three_rights := PySem.W.fnOf "_three_rights" "_three_rights" (defArgs s__three_rights) (defBody s__three_rights) (defScope s__three_rights) .none kV9 dc9 pm9 an9 cd9 ct9
    f__named_rights := f10
    d__named_rights := PySem.W.fnOf "_named_rights" "_named_rights" (defArgs s__named_rights) (defBody s__named_rights) (defScope s__named_rights) .none kV10 dc10 pm10 an10 cd10 ct10
    f_is_deed := f15
    d_is_deed := PySem.W.fnOf "is_deed" "is_deed" (defArgs s_is_deed) (defBody s_is_deed) (defScope s_is_deed) .none kV15 dc15 pm15 an15 cd15 ct15
    f_are_parts := f16
    d_are_parts := PySem.W.fnOf "are_parts" "are_parts" (defArgs s_are_parts) (defBody s_are_parts) (defScope s_are_parts) .none kV16 dc16 pm16 an16 cd16 ct16
    f__is_part := f17
    d__is_part := PySem.W.fnOf "_is_part" "_is_part" (defArgs s__is_part) (defBody s__is_part) (defScope s__is_part) .none kV17 dc17 pm17 an17 cd17 ct17
    f_cell := f18
    d_cell := PySem.W.fnOf "_law_cell" "_law_cell" (defArgs s_cell) (defBody s_cell) (defScope s_cell) .none kV18 dc18 pm18 an18 cd18 ct18
    f_bag := f19
    d_bag := PySem.W.fnOf "_law_bag" "_law_bag" (defArgs s_bag) (defBody s_bag) (defScope s_bag) .none kV19 dc19 pm19 an19 cd19 ct19
    f_take := f20
    d_take := PySem.W.fnOf "_law_take" "_law_take" (defArgs s_take) (defBody s_take) (defScope s_take) .none kV20 dc20 pm20 an20 cd20 ct20
    f_word := f21
    d_word := PySem.W.fnOf "_law_word" "_law_word" (defArgs s_word) (defBody s_word) (defScope s_word) .none kV21 dc21 pm21 an21 cd21 ct21
    f_path := f22
    d_path := PySem.W.fnOf "_law_path" "_law_path" (defArgs s_path) (defBody s_path) (defScope s_path) .none kV22 dc22 pm22 an22 cd22 ct22
    f_digits := f23
    d_digits := PySem.W.fnOf "_law_digits" "_law_digits" (defArgs s_digits) (defBody s_digits) (defScope s_digits) .none kV23 dc23 pm23 an23 cd23 ct23
    f_forms := f24
    d_forms := PySem.W.fnOf "_law_forms" "_law_forms" (defArgs s_forms) (defBody s_forms) (defScope s_forms) .none kV24 dc24 pm24 an24 cd24 ct24
    f_of_kind := f25
    d_of_kind := PySem.W.fnOf "_law_of_kind" "_law_of_kind" (defArgs s_of_kind) (defBody s_of_kind) (defScope s_of_kind) .none kV25 dc25 pm25 an25 cd25 ct25
    f_l_is_name := f26
    d_l_is_name := PySem.W.fnOf "_law_is_name" "_law_is_name" (defArgs s_l_is_name) (defBody s_l_is_name) (defScope s_l_is_name) .none kV26 dc26 pm26 an26 cd26 ct26
    f_fits := f27
    d_fits := PySem.W.fnOf "_law_fits" "_law_fits" (defArgs s_fits) (defBody s_fits) (defScope s_fits) .none kV27 dc27 pm27 an27 cd27 ct27
    f_due := f28
    d_due := PySem.W.fnOf "_law_due" "_law_due" (defArgs s_due) (defBody s_due) (defScope s_due) .none kV28 dc28 pm28 an28 cd28 ct28
    f_odd := f29
    d_odd := PySem.W.fnOf "_law_odd" "_law_odd" (defArgs s_odd) (defBody s_odd) (defScope s_odd) .none kV29 dc29 pm29 an29 cd29 ct29
    f_law := fa
    d_law := PySem.W.fnOf "law" "law" (defArgs s_law) (defBody s_law) (defScope s_law) .none kV30 dc30 pm30 an30 cd30 ct30
    f_Rights___init__ := f31
    d_Rights___init__ := PySem.W.fnOf "__init__" "Rights.__init__" (defArgs s_Rights___init__) (defBody s_Rights___init__) (defScope s_Rights___init__) (.ref DT31) kV31 dc31 pm31 an31 cd31 ct31
    f_Rights_from_digit := f33
    d_Rights_from_digit := PySem.W.fnOf "from_digit" "Rights.from_digit" (defArgs s_Rights_from_digit) (defBody s_Rights_from_digit) (defScope s_Rights_from_digit) .none kV33 dc33 pm33 an33 cd33 ct33
    P_Rights_from_digit := P33
    f_AccessList___init__ := f48
    d_AccessList___init__ := PySem.W.fnOf "__init__" "AccessList.__init__" (defArgs s_AccessList___init__) (defBody s_AccessList___init__) (defScope s_AccessList___init__) .none (.ref D48) dc48 pm48 an48 cd48 ct48
    f_AccessList__first_mask := f49
    d_AccessList__first_mask := PySem.W.fnOf "_first_mask" "AccessList._first_mask" (defArgs s_AccessList__first_mask) (defBody s_AccessList__first_mask) (defScope s_AccessList__first_mask) .none kV49 dc49 pm49 an49 cd49 ct49
    f_AccessList_plain := f50
    d_AccessList_plain := PySem.W.fnOf "plain" "AccessList.plain" (defArgs s_AccessList_plain) (defBody s_AccessList_plain) (defScope s_AccessList_plain) .none kV50 dc50 pm50 an50 cd50 ct50
    P_AccessList_plain := P50
    K_DIGITS := KD2
    K_WORDS := KD3
    K_PARTS := KD5 }
  have T : Txt w K mg A := {
    cr_Rights := ⟨ord0, org0⟩
    gC_Rights := PySem.W.mg_of X G oa0
    c_Rights := ⟨_, PySem.W.mg_of X G oa0, rfl⟩
    cl_Rights := ⟨opg0, ohd0, opo0, osa0⟩
    in_Rights := ⟨⟨opg0, ohd0, opo0, osa0⟩, oca0, ocn0, oct0, ocm0, by unfold PySem.W.kitOne; simp⟩
    sf_Rights := osf0
    cd_Rights := ⟨_, ocd0, omr0⟩
    ne_Rights := one0
    na_Rights__digit := ona_digit0
    nf_Rights_str := onfstr0
    kt_Rights_str := kit_ofT oic0 oyt0 oktstr0
    ki_Rights_str := okistr0
    cr_AccessList := ⟨ord1, org1⟩
    gC_AccessList := PySem.W.mg_of X G oa1
    c_AccessList := ⟨_, PySem.W.mg_of X G oa1, rfl⟩
    cl_AccessList := ⟨opg1, ohd1, opo1, osa1⟩
    in_AccessList := ⟨⟨opg1, ohd1, opo1, osa1⟩, oca1, ocn1, oct1, ocm1, by unfold PySem.W.kitOne; simp⟩
    sf_AccessList := osf1
    cd_AccessList := ⟨_, ocd1, omr1⟩
    ne_AccessList := one1
    na_AccessList__owner := ona_owner1
    na_AccessList__group := ona_group1
    na_AccessList__other := ona_other1
    na_AccessList__users := ona_users1
    na_AccessList__groups := ona_groups1
    na_AccessList__mask := ona_mask1
    nf_AccessList_str := onfstr1
    nf_AccessList_int := onfint1
    nf_AccessList_bool := onfbool1
    nf_AccessList_NoneType := onfNoneType1
    nf_AccessList_list := onflist1
    nf_AccessList_tuple := onftuple1
    nf_AccessList_dict := onfdict1
    kt_AccessList_str := kit_ofT oic1 oyt1 oktstr1
    kt_AccessList_int := kit_ofT oic1 oyt1 oktint1
    kt_AccessList_bool := kit_ofT oic1 oyt1 oktbool1
    kt_AccessList_NoneType := kit_ofT oic1 oyt1 oktNoneType1
    kt_AccessList_list := kit_ofT oic1 oyt1 oktlist1
    kt_AccessList_tuple := kit_ofT oic1 oyt1 okttuple1
    kt_AccessList_dict := kit_ofT oic1 oyt1 oktdict1
    ki_AccessList_str := okistr1
    ki_AccessList_bool := okibool1
    ki_AccessList_tuple := okituple1
    ki_AccessList_int := okiint1
    F_is_integer := fun_mk l1 c1 k1
    B_is_integer := (fun_mk (st := s_is_integer) l1 c1 k1).binds (ps := ["value", "low", "high"]) fun _ _ _ _ _ _ us hl => match us, hl with | [_, _, _], _ => rfl
    g_is_integer := PySem.W.mg_of X G a1
    F_is_name := fun_mk l2 c2 k2
    B_is_name := (fun_mk (st := s_is_name) l2 c2 k2).binds (ps := ["value"]) fun _ _ _ _ _ _ us hl => match us, hl with | [_], _ => rfl
    g_is_name := PySem.W.mg_of X G a2
    F_is_user_name := fun_mk l3 c3 k3
    B_is_user_name := (fun_mk (st := s_is_user_name) l3 c3 k3).binds (ps := ["value"]) fun _ _ _ _ _ _ us hl => match us, hl with | [_], _ => rfl
    g_is_user_name := PySem.W.mg_of X G a3
    F_is_path := fun_mk l4 c4 k4
    B_is_path := (fun_mk (st := s_is_path) l4 c4 k4).binds (ps := ["value"]) fun _ _ _ _ _ _ us hl => match us, hl with | [_], _ => rfl
    g_is_path := PySem.W.mg_of X G a4
    F_as_rights := fun_mk l5 c5 k5
    B_as_rights := (fun_mk (st := s_as_rights) l5 c5 k5).binds (ps := ["value"]) fun _ _ _ _ _ _ us hl => match us, hl with | [_], _ => rfl
    g_as_rights := PySem.W.mg_of X G a5
    F__is_letters := fun_mk l6 c6 k6
    B__is_letters := (fun_mk (st := s__is_letters) l6 c6 k6).binds (ps := ["value"]) fun _ _ _ _ _ _ us hl => match us, hl with | [_], _ => rfl
    g__is_letters := PySem.W.mg_of X G a6
    F_is_digits := fun_mk l8 c8 k8
    B_is_digits := (fun_mk (st := s_is_digits) l8 c8 k8).binds (ps := ["value"]) fun _ _ _ _ _ _ us hl => match us, hl with | [_], _ => rfl
    g_is_digits := PySem.W.mg_of X G a8
    F__three_rights := fun_mk l9 c9 k9
    B__three_rights := (fun_mk (st := s__three_rights) l9 c9 k9).binds (ps := ["digits"]) fun _ _ _ _ _ _ us hl => match us, hl with | [_], _ => rfl
    g__three_rights := PySem.W.mg_of X G a9
    F__named_rights := fun_mk l10 c10 k10
    B__named_rights := (fun_mk (st := s__named_rights) l10 c10 k10).binds (ps := ["value"]) fun _ _ _ _ _ _ us hl => match us, hl with | [_], _ => rfl
    g__named_rights := PySem.W.mg_of X G a10
    F_is_deed := fun_mk l15 c15 k15
    B_is_deed := (fun_mk (st := s_is_deed) l15 c15 k15).binds (ps := ["value"]) fun _ _ _ _ _ _ us hl => match us, hl with | [_], _ => rfl
    g_is_deed := PySem.W.mg_of X G a15
    F_are_parts := fun_mk l16 c16 k16
    B_are_parts := (fun_mk (st := s_are_parts) l16 c16 k16).binds (ps := ["kinds", "values"]) fun _ _ _ _ _ _ us hl => match us, hl with | [_, _], _ => rfl
    g_are_parts := PySem.W.mg_of X G a16
    F__is_part := fun_mk l17 c17 k17
    B__is_part := (fun_mk (st := s__is_part) l17 c17 k17).binds (ps := ["kind", "value"]) fun _ _ _ _ _ _ us hl => match us, hl with | [_, _], _ => rfl
    g__is_part := PySem.W.mg_of X G a17
    F_cell := fun_mk l18 c18 k18
    B_cell := (fun_mk (st := s_cell) l18 c18 k18).binds (ps := ["_law_script", "_law_k"]) fun _ _ _ _ _ _ us hl => match us, hl with | [_, _], _ => rfl
    g_cell := PySem.W.mg_of X G a18
    F_bag := fun_mk l19 c19 k19
    B_bag := (fun_mk (st := s_bag) l19 c19 k19).binds (ps := ["_law_number"]) fun _ _ _ _ _ _ us hl => match us, hl with | [_], _ => rfl
    g_bag := PySem.W.mg_of X G a19
    F_take := fun_mk l20 c20 k20
    B_take := (fun_mk (st := s_take) l20 c20 k20).binds (ps := ["_law_bag_here", "_law_count"]) fun _ _ _ _ _ _ us hl => match us, hl with | [_, _], _ => rfl
    g_take := PySem.W.mg_of X G a20
    F_word := fun_mk l21 c21 k21
    B_word := (fun_mk (st := s_word) l21 c21 k21).binds (ps := ["_law_bag_here"]) fun _ _ _ _ _ _ us hl => match us, hl with | [_], _ => rfl
    g_word := PySem.W.mg_of X G a21
    F_path := fun_mk l22 c22 k22
    B_path := (fun_mk (st := s_path) l22 c22 k22).binds (ps := ["_law_bag_here"]) fun _ _ _ _ _ _ us hl => match us, hl with | [_], _ => rfl
    g_path := PySem.W.mg_of X G a22
    F_digits := fun_mk l23 c23 k23
    B_digits := (fun_mk (st := s_digits) l23 c23 k23).binds (ps := ["_law_bag_here"]) fun _ _ _ _ _ _ us hl => match us, hl with | [_], _ => rfl
    g_digits := PySem.W.mg_of X G a23
    F_forms := fun_mk l24 c24 k24
    B_forms := (fun_mk (st := s_forms) l24 c24 k24).binds (ps := []) fun _ _ _ _ _ _ us hl => match us, hl with | [], _ => rfl
    g_forms := PySem.W.mg_of X G a24
    F_of_kind := fun_mk l25 c25 k25
    B_of_kind := (fun_mk (st := s_of_kind) l25 c25 k25).binds (ps := ["_law_bag_here", "_law_kind"]) fun _ _ _ _ _ _ us hl => match us, hl with | [_, _], _ => rfl
    g_of_kind := PySem.W.mg_of X G a25
    F_l_is_name := fun_mk l26 c26 k26
    B_l_is_name := (fun_mk (st := s_l_is_name) l26 c26 k26).binds (ps := ["_law_thing"]) fun _ _ _ _ _ _ us hl => match us, hl with | [_], _ => rfl
    g_l_is_name := PySem.W.mg_of X G a26
    F_fits := fun_mk l27 c27 k27
    B_fits := (fun_mk (st := s_fits) l27 c27 k27).binds (ps := ["_law_kind", "_law_thing"]) fun _ _ _ _ _ _ us hl => match us, hl with | [_, _], _ => rfl
    g_fits := PySem.W.mg_of X G a27
    F_due := fun_mk l28 c28 k28
    B_due := (fun_mk (st := s_due) l28 c28 k28).binds (ps := ["_law_thing"]) fun _ _ _ _ _ _ us hl => match us, hl with | [_], _ => rfl
    g_due := PySem.W.mg_of X G a28
    F_odd := fun_mk l29 c29 k29
    B_odd := (fun_mk (st := s_odd) l29 c29 k29).binds (ps := ["_law_bag_here"]) fun _ _ _ _ _ _ us hl => match us, hl with | [_], _ => rfl
    g_odd := PySem.W.mg_of X G a29
    F_law := fun_mk l30 c30 k30
    B_law := (fun_mk (st := s_law) l30 c30 k30).binds (ps := ["_law_script"]) fun _ _ _ _ _ _ us hl => match us, hl with | [_], _ => rfl
    g_law := PySem.W.mg_of X G a30
    F_Rights___init__ := ⟨⟨oc31, od31, .ref DT31, kV31, dc31, pm31, an31, cd31, ct31, sl31, rfl, l31, c31, .inr ⟨by simp, DT31, dto31, dti31, dtn31, rfl, dl31, dd31, dv31⟩, .inl rfl⟩, k31⟩
    me_Rights___init__ := ⟨a31, t31, k31⟩
    mk_Rights := ⟨omk0, a31, t31, okc0⟩
    F_Rights_from_digit := fun_mk l33 c33 k33
    B_Rights_from_digit := (fun_mk (st := s_Rights_from_digit) l33 c33 k33).binds (ps := ["cls", "digit"]) fun _ _ _ _ _ _ us hl => match us, hl with | [_, _], _ => rfl
    cm_Rights_from_digit := ⟨a33, ⟨_, px33⟩, pf33⟩
    F_AccessList___init__ := ⟨⟨oc48, od48, .none, .ref D48, dc48, pm48, an48, cd48, ct48, sl48, rfl, l48, c48, .inl ⟨rfl, rfl⟩, .inr ⟨D48, rfl, (List.forall_mem_cons.mpr ⟨⟨_, w48_0, rfl⟩, (List.forall_mem_cons.mpr ⟨⟨_, w48_1, rfl⟩, (List.forall_mem_cons.mpr ⟨⟨_, w48_2, rfl⟩, (fun _ h => by simp at h)⟩)⟩)⟩)⟩⟩, k48⟩
    me_AccessList___init__ := ⟨a48, t48, k48⟩
    mk_AccessList := ⟨omk1, a48, t48, okc1⟩
    F_AccessList__first_mask := fun_mk l49 c49 k49
    B_AccessList__first_mask := (fun_mk (st := s_AccessList__first_mask) l49 c49 k49).binds (ps := ["self"]) fun _ _ _ _ _ _ us hl => match us, hl with | [_], _ => rfl
    me_AccessList__first_mask := ⟨a49, t49, k49⟩
    F_AccessList_plain := fun_mk l50 c50 k50
    B_AccessList_plain := (fun_mk (st := s_AccessList_plain) l50 c50 k50).binds (ps := ["cls", "digits"]) fun _ _ _ _ _ _ us hl => match us, hl with | [_, _], _ => rfl
    cm_AccessList_plain := ⟨a50, ⟨_, px50⟩, pf50⟩
    c_LONGEST_NAME := ⟨_, PySem.W.mg_of X G q0, _, rfl⟩
    c_ALL_DIGIT := ⟨_, PySem.W.mg_of X G q1, _, rfl⟩
    c_DIGITS := ⟨_, PySem.W.mg_of X G q2, rfl⟩
    kd_DIGITS := ⟨_, _, kl2, ky2, ks2⟩
    at_DIGITS_ := ⟨_, _, _, kl2, ky2, kv2_0, _, rfl⟩
    at_DIGITS_x := ⟨_, _, _, kl2, ky2, kv2_1, _, rfl⟩
    at_DIGITS_w := ⟨_, _, _, kl2, ky2, kv2_2, _, rfl⟩
    at_DIGITS_wx := ⟨_, _, _, kl2, ky2, kv2_3, _, rfl⟩
    at_DIGITS_xw := ⟨_, _, _, kl2, ky2, kv2_4, _, rfl⟩
    at_DIGITS_r := ⟨_, _, _, kl2, ky2, kv2_5, _, rfl⟩
    at_DIGITS_rx := ⟨_, _, _, kl2, ky2, kv2_6, _, rfl⟩
    at_DIGITS_xr := ⟨_, _, _, kl2, ky2, kv2_7, _, rfl⟩
    at_DIGITS_rw := ⟨_, _, _, kl2, ky2, kv2_8, _, rfl⟩
    at_DIGITS_wr := ⟨_, _, _, kl2, ky2, kv2_9, _, rfl⟩
    at_DIGITS_rwx := ⟨_, _, _, kl2, ky2, kv2_10, _, rfl⟩
    at_DIGITS_rxw := ⟨_, _, _, kl2, ky2, kv2_11, _, rfl⟩
    at_DIGITS_wrx := ⟨_, _, _, kl2, ky2, kv2_12, _, rfl⟩
    at_DIGITS_wxr := ⟨_, _, _, kl2, ky2, kv2_13, _, rfl⟩
    at_DIGITS_xrw := ⟨_, _, _, kl2, ky2, kv2_14, _, rfl⟩
    at_DIGITS_xwr := ⟨_, _, _, kl2, ky2, kv2_15, _, rfl⟩
    c_WORDS := ⟨_, PySem.W.mg_of X G q3, rfl⟩
    tu_WORDS := ⟨_, _, _, kl3, ku3, kd3, kz3, kv3⟩
    c_MOST_NAMED := ⟨_, PySem.W.mg_of X G q4, _, rfl⟩
    c_PARTS := ⟨_, PySem.W.mg_of X G q5, rfl⟩
    kd_PARTS := ⟨_, _, kl5, ky5, ks5⟩
    ms_PARTS := fun z hz => FR.ns_miss (ks := ["read", "write", "file", "folder", "move", "remove", "allow", "default", "mark", "give", "umask"]) kl5 kq5 hz
    at_PARTS_read := ⟨_, ⟨_, _, _, kl5, ky5, kv5_0, rfl⟩, _, _, _, kw5_0, ku5_0, kd5_0, kz5_0, kx5_0⟩
    at_PARTS_write := ⟨_, ⟨_, _, _, kl5, ky5, kv5_1, rfl⟩, _, _, _, kw5_1, ku5_1, kd5_1, kz5_1, kx5_1⟩
    at_PARTS_file := ⟨_, ⟨_, _, _, kl5, ky5, kv5_2, rfl⟩, _, _, _, kw5_2, ku5_2, kd5_2, kz5_2, kx5_2⟩
    at_PARTS_folder := ⟨_, ⟨_, _, _, kl5, ky5, kv5_3, rfl⟩, _, _, _, kw5_3, ku5_3, kd5_3, kz5_3, kx5_3⟩
    at_PARTS_move := ⟨_, ⟨_, _, _, kl5, ky5, kv5_4, rfl⟩, _, _, _, kw5_4, ku5_4, kd5_4, kz5_4, kx5_4⟩
    at_PARTS_remove := ⟨_, ⟨_, _, _, kl5, ky5, kv5_5, rfl⟩, _, _, _, kw5_5, ku5_5, kd5_5, kz5_5, kx5_5⟩
    at_PARTS_allow := ⟨_, ⟨_, _, _, kl5, ky5, kv5_6, rfl⟩, _, _, _, kw5_6, ku5_6, kd5_6, kz5_6, kx5_6⟩
    at_PARTS_default := ⟨_, ⟨_, _, _, kl5, ky5, kv5_7, rfl⟩, _, _, _, kw5_7, ku5_7, kd5_7, kz5_7, kx5_7⟩
    at_PARTS_mark := ⟨_, ⟨_, _, _, kl5, ky5, kv5_8, rfl⟩, _, _, _, kw5_8, ku5_8, kd5_8, kz5_8, kx5_8⟩
    at_PARTS_give := ⟨_, ⟨_, _, _, kl5, ky5, kv5_9, rfl⟩, _, _, _, kw5_9, ku5_9, kd5_9, kz5_9, kx5_9⟩
    at_PARTS_umask := ⟨_, ⟨_, _, _, kl5, ky5, kv5_10, rfl⟩, _, _, _, kw5_10, ku5_10, kd5_10, kz5_10, kx5_10⟩
    b_all := PySem.W.mg_none_of X G z0
    b_bool := PySem.W.mg_none_of X G z1
    b_dict := PySem.W.mg_none_of X G z2
    b_enumerate := PySem.W.mg_none_of X G z3
    b_int := PySem.W.mg_none_of X G z4
    b_isinstance := PySem.W.mg_none_of X G z5
    b_len := PySem.W.mg_none_of X G z6
    b_list := PySem.W.mg_none_of X G z7
    b_max := PySem.W.mg_none_of X G z8
    b_min := PySem.W.mg_none_of X G z9
    b_range := PySem.W.mg_none_of X G z10
    b_sorted := PySem.W.mg_none_of X G z11
    b_str := PySem.W.mg_none_of X G z12
    b_tuple := PySem.W.mg_none_of X G z13
    b_zip := PySem.W.mg_none_of X G z14 }
  exact ⟨A.d_law, fun s v => .of_eq rfl, fun base _ _ => ok_law T⟩
end K41
open PySem PySem.W PyProof.Rows
set_option maxHeartbeats 0 in
theorem PySem.Challenge.cw_filerights_k41_values_that_are_deeds_holds : PySem.Challenge.rw_filerights_k41_values_that_are_deeds.Holds := by
  w_on; o_law; k_head; (case hw => w_witness2)
  k_fill
  refine L2.walk_of (l := PySem.Challenge.rw_filerights_k41_values_that_are_deeds) (n := 63) (k := 13) (x := "_law_script") (CX := fun _ => L2.CX0) (sp := fun w => K41.spLaw _) rfl (by decide) rfl ⟨rfl, by decide, by decide⟩ (fun w h Y => PySem.W.kIn_of Y) ?F (fun _ _ a ns hl _ hS => ⟨a, ns, rfl, hS, hl, fun _ => rfl⟩) (fun _ _ _ _ _ h => h)
  case F =>
    intro w mg fa h KX G hmg
    refine' K41.all_mk KX G hmg ?oa0 ?opg0 ?ohd0 ?opo0 ?osa0 ?omk0 ?okc0 ?oca0 ?ocn0 ?oct0 ?ocm0 ?osf0 ?ocd0 ?omr0 ?one0 ?ona_digit0 ?onfstr0 ?ord0 ?org0 ?oic0 ?oyt0 ?oktstr0 ?okistr0 ?oa1 ?opg1 ?ohd1 ?opo1 ?osa1 ?omk1 ?okc1 ?oca1 ?ocn1 ?oct1 ?ocm1 ?osf1 ?ocd1 ?omr1 ?one1 ?ona_owner1 ?ona_group1 ?ona_other1 ?ona_users1 ?ona_groups1 ?ona_mask1 ?onfstr1 ?onfint1 ?onfbool1 ?onfNoneType1 ?onflist1 ?onftuple1 ?onfdict1 ?ord1 ?org1 ?oic1 ?oyt1 ?oktstr1 ?oktint1 ?oktbool1 ?oktNoneType1 ?oktlist1 ?okttuple1 ?oktdict1 ?okistr1 ?okibool1 ?okituple1 ?okiint1 ?a1 ?l1 ?c1 ?k1 ?a2 ?l2 ?c2 ?k2 ?a3 ?l3 ?c3 ?k3 ?a4 ?l4 ?c4 ?k4 ?a5 ?l5 ?c5 ?k5 ?a6 ?l6 ?c6 ?k6 ?a8 ?l8 ?c8 ?k8 ?a9 ?l9 ?c9 ?k9 ?a10 ?l10 ?c10 ?k10 ?a15 ?l15 ?c15 ?k15 ?a16 ?l16 ?c16 ?k16 ?a17 ?l17 ?c17 ?k17 ?a18 ?l18 ?c18 ?k18 ?a19 ?l19 ?c19 ?k19 ?a20 ?l20 ?c20 ?k20 ?a21 ?l21 ?c21 ?k21 ?a22 ?l22 ?c22 ?k22 ?a23 ?l23 ?c23 ?k23 ?a24 ?l24 ?c24 ?k24 ?a25 ?l25 ?c25 ?k25 ?a26 ?l26 ?c26 ?k26 ?a27 ?l27 ?c27 ?k27 ?a28 ?l28 ?c28 ?k28 ?a29 ?l29 ?c29 ?k29 ?a30 ?l30 ?c30 ?k30 ?a31 ?t31 ?l31 ?c31 ?k31 ?dl31 ?dd31 ?dv31 ?a33 ?px33 ?pf33 ?l33 ?c33 ?k33 ?a48 ?t48 ?l48 ?c48 ?k48 ?w48_0 ?w48_1 ?w48_2 ?a49 ?t49 ?l49 ?c49 ?k49 ?a50 ?px50 ?pf50 ?l50 ?c50 ?k50 ?q0 ?q1 ?q2 ?kl2 ?ky2 ?ks2 ?kv2_0 ?kv2_1 ?kv2_2 ?kv2_3 ?kv2_4 ?kv2_5 ?kv2_6 ?kv2_7 ?kv2_8 ?kv2_9 ?kv2_10 ?kv2_11 ?kv2_12 ?kv2_13 ?kv2_14 ?kv2_15 ?q3 ?kl3 ?ku3 ?kd3 ?kz3 ?kv3 ?q4 ?q5 ?kl5 ?ky5 ?ks5 ?kq5 ?kv5_0 ?kw5_0 ?ku5_0 ?kd5_0 ?kz5_0 ?kx5_0 ?kv5_1 ?kw5_1 ?ku5_1 ?kd5_1 ?kz5_1 ?kx5_1 ?kv5_2 ?kw5_2 ?ku5_2 ?kd5_2 ?kz5_2 ?kx5_2 ?kv5_3 ?kw5_3 ?ku5_3 ?kd5_3 ?kz5_3 ?kx5_3 ?kv5_4 ?kw5_4 ?ku5_4 ?kd5_4 ?kz5_4 ?kx5_4 ?kv5_5 ?kw5_5 ?ku5_5 ?kd5_5 ?kz5_5 ?kx5_5 ?kv5_6 ?kw5_6 ?ku5_6 ?kd5_6 ?kz5_6 ?kx5_6 ?kv5_7 ?kw5_7 ?ku5_7 ?kd5_7 ?kz5_7 ?kx5_7 ?kv5_8 ?kw5_8 ?ku5_8 ?kd5_8 ?kz5_8 ?kx5_8 ?kv5_9 ?kw5_9 ?ku5_9 ?kd5_9 ?kz5_9 ?kx5_9 ?kv5_10 ?kw5_10 ?ku5_10 ?kd5_10 ?kz5_10 ?kx5_10 ?z0 ?z1 ?z2 ?z3 ?z4 ?z5 ?z6 ?z7 ?z8 ?z9 ?z10 ?z11 ?z12 ?z13 ?z14
    (case oa0 => k_is)
    (case opg0 => k_is)
    (case ohd0 => k_is)
    (case opo0 => k_is)
    (case osa0 => k_is)
    (case omk0 => first | k_is | exact (by rfl) | exact FR.size_le (by decide) | decide | (repeat (first | exact True.intro | exact .nil | refine .cons ⟨_, rfl⟩ ?_ | refine ⟨⟨_, _, rfl, rfl⟩, ?_⟩)))
    (case okc0 => k_is)
    (case oca0 => k_is)
    (case ocn0 => k_is)
    (case oct0 => k_is)
    (case ocm0 => k_is)
    (case osf0 => k_is)
    (case ocd0 => k_is)
    (case omr0 => first | k_is | exact (by rfl) | exact FR.size_le (by decide) | decide | (repeat (first | exact True.intro | exact .nil | refine .cons ⟨_, rfl⟩ ?_ | refine ⟨⟨_, _, rfl, rfl⟩, ?_⟩)))
    (case one0 => k_is)
    (case ona_digit0 => k_is)
    (case onfstr0 => k_is)
    (case ord0 => k_is)
    (case org0 => k_is)
    (case oic0 => k_is)
    (case oyt0 => k_is)
    (case oktstr0 => k_is)
    (case okistr0 => first | k_is | kernel_rfl | rfl)
    (case oa1 => k_is)
    (case opg1 => k_is)
    (case ohd1 => k_is)
    (case opo1 => k_is)
    (case osa1 => k_is)
    (case omk1 => first | k_is | exact (by rfl) | exact FR.size_le (by decide) | decide | (repeat (first | exact True.intro | exact .nil | refine .cons ⟨_, rfl⟩ ?_ | refine ⟨⟨_, _, rfl, rfl⟩, ?_⟩)))
    (case okc1 => k_is)
    (case oca1 => k_is)
    (case ocn1 => k_is)
    (case oct1 => k_is)
    (case ocm1 => k_is)
    (case osf1 => k_is)
    (case ocd1 => k_is)
    (case omr1 => first | k_is | exact (by rfl) | exact FR.size_le (by decide) | decide | (repeat (first | exact True.intro | exact .nil | refine .cons ⟨_, rfl⟩ ?_ | refine ⟨⟨_, _, rfl, rfl⟩, ?_⟩)))
    (case one1 => k_is)
    (case ona_owner1 => k_is)
    (case ona_group1 => k_is)
    (case ona_other1 => k_is)
    (case ona_users1 => k_is)
    (case ona_groups1 => k_is)
    (case ona_mask1 => k_is)
    (case onfstr1 => k_is)
    (case onfint1 => k_is)
    (case onfbool1 => k_is)
    (case onfNoneType1 => k_is)
    (case onflist1 => k_is)
    (case onftuple1 => k_is)
    (case onfdict1 => k_is)
    (case ord1 => k_is)
    (case org1 => k_is)
    (case oic1 => k_is)
    (case oyt1 => k_is)
    (case oktstr1 => k_is)
    (case oktint1 => k_is)
    (case oktbool1 => k_is)
    (case oktNoneType1 => k_is)
    (case oktlist1 => k_is)
    (case okttuple1 => k_is)
    (case oktdict1 => k_is)
    (case okistr1 => first | k_is | kernel_rfl | rfl)
    (case okibool1 => first | k_is | kernel_rfl | rfl)
    (case okituple1 => first | k_is | kernel_rfl | rfl)
    (case okiint1 => first | k_is | kernel_rfl | rfl)
    (case a1 => k_is)
    (case l1 => k_is)
    (case c1 => k_is)
    (case k1 => k_is)
    (case a2 => k_is)
    (case l2 => k_is)
    (case c2 => k_is)
    (case k2 => k_is)
    (case a3 => k_is)
    (case l3 => k_is)
    (case c3 => k_is)
    (case k3 => k_is)
    (case a4 => k_is)
    (case l4 => k_is)
    (case c4 => k_is)
    (case k4 => k_is)
    (case a5 => k_is)
    (case l5 => k_is)
    (case c5 => k_is)
    (case k5 => k_is)
    (case a6 => k_is)
    (case l6 => k_is)
    (case c6 => k_is)
    (case k6 => k_is)
    (case a8 => k_is)
    (case l8 => k_is)
    (case c8 => k_is)
    (case k8 => k_is)
    (case a9 => k_is)
    (case l9 => k_is)
    (case c9 => k_is)
    (case k9 => k_is)
    (case a10 => k_is)
    (case l10 => k_is)
    (case c10 => k_is)
    (case k10 => k_is)
    (case a15 => k_is)
    (case l15 => k_is)
    (case c15 => k_is)
    (case k15 => k_is)
    (case a16 => k_is)
    (case l16 => k_is)
    (case c16 => k_is)
    (case k16 => k_is)
    (case a17 => k_is)
    (case l17 => k_is)
    (case c17 => k_is)
    (case k17 => k_is)
    (case a18 => k_is)
    (case l18 => k_is)
    (case c18 => k_is)
    (case k18 => k_is)
    (case a19 => k_is)
    (case l19 => k_is)
    (case c19 => k_is)
    (case k19 => k_is)
    (case a20 => k_is)
    (case l20 => k_is)
    (case c20 => k_is)
    (case k20 => k_is)
    (case a21 => k_is)
    (case l21 => k_is)
    (case c21 => k_is)
    (case k21 => k_is)
    (case a22 => k_is)
    (case l22 => k_is)
    (case c22 => k_is)
    (case k22 => k_is)
    (case a23 => k_is)
    (case l23 => k_is)
    (case c23 => k_is)
    (case k23 => k_is)
    (case a24 => k_is)
    (case l24 => k_is)
    (case c24 => k_is)
    (case k24 => k_is)
    (case a25 => k_is)
    (case l25 => k_is)
    (case c25 => k_is)
    (case k25 => k_is)
    (case a26 => k_is)
    (case l26 => k_is)
    (case c26 => k_is)
    (case k26 => k_is)
    (case a27 => k_is)
    (case l27 => k_is)
    (case c27 => k_is)
    (case k27 => k_is)
    (case a28 => k_is)
    (case l28 => k_is)
    (case c28 => k_is)
    (case k28 => k_is)
    (case a29 => k_is)
    (case l29 => k_is)
    (case c29 => k_is)
    (case k29 => k_is)
    (case a30 => k_is)
    (case l30 => k_is)
    (case c30 => k_is)
    (case k30 => k_is)
    (case a31 => k_is)
    (case t31 => k_is)
    (case l31 => k_is)
    (case c31 => k_is)
    (case k31 => k_is)
    (case dl31 => k_is)
    (case dd31 => first | k_is | exact (by rfl) | exact FR.size_le (by decide) | decide | (repeat (first | exact True.intro | exact .nil | refine .cons ⟨_, rfl⟩ ?_ | refine ⟨⟨_, _, rfl, rfl⟩, ?_⟩)))
    (case dv31 => first | k_is | exact (by rfl) | exact FR.size_le (by decide) | decide | (repeat (first | exact True.intro | exact .nil | refine .cons ⟨_, rfl⟩ ?_ | refine ⟨⟨_, _, rfl, rfl⟩, ?_⟩)))
    (case a33 => k_is)
    (case px33 => k_is)
    (case pf33 => k_is)
    (case l33 => k_is)
    (case c33 => k_is)
    (case k33 => k_is)
    (case a48 => k_is)
    (case t48 => k_is)
    (case l48 => k_is)
    (case c48 => k_is)
    (case k48 => k_is)
    (case w48_0 => k_is)
    (case w48_1 => k_is)
    (case w48_2 => k_is)
    (case a49 => k_is)
    (case t49 => k_is)
    (case l49 => k_is)
    (case c49 => k_is)
    (case k49 => k_is)
    (case a50 => k_is)
    (case px50 => k_is)
    (case pf50 => k_is)
    (case l50 => k_is)
    (case c50 => k_is)
    (case k50 => k_is)
    (case q0 => k_is)
    (case q1 => k_is)
    (case q2 => k_is)
    (case kl2 => k_is)
    (case ky2 => first | k_is | exact (by rfl) | exact FR.size_le (by decide) | decide | (repeat (first | exact True.intro | exact .nil | refine .cons ⟨_, rfl⟩ ?_ | refine ⟨⟨_, _, rfl, rfl⟩, ?_⟩)))
    (case ks2 => first | k_is | exact (by rfl) | exact FR.size_le (by decide) | decide | (repeat (first | exact True.intro | exact .nil | refine .cons ⟨_, rfl⟩ ?_ | refine ⟨⟨_, _, rfl, rfl⟩, ?_⟩)))
    (case kv2_0 => first | k_is | exact (by rfl) | exact FR.size_le (by decide) | decide | (repeat (first | exact True.intro | exact .nil | refine .cons ⟨_, rfl⟩ ?_ | refine ⟨⟨_, _, rfl, rfl⟩, ?_⟩)))
    (case kv2_1 => first | k_is | exact (by rfl) | exact FR.size_le (by decide) | decide | (repeat (first | exact True.intro | exact .nil | refine .cons ⟨_, rfl⟩ ?_ | refine ⟨⟨_, _, rfl, rfl⟩, ?_⟩)))
    (case kv2_2 => first | k_is | exact (by rfl) | exact FR.size_le (by decide) | decide | (repeat (first | exact True.intro | exact .nil | refine .cons ⟨_, rfl⟩ ?_ | refine ⟨⟨_, _, rfl, rfl⟩, ?_⟩)))
    (case kv2_3 => first | k_is | exact (by rfl) | exact FR.size_le (by decide) | decide | (repeat (first | exact True.intro | exact .nil | refine .cons ⟨_, rfl⟩ ?_ | refine ⟨⟨_, _, rfl, rfl⟩, ?_⟩)))
    (case kv2_4 => first | k_is | exact (by rfl) | exact FR.size_le (by decide) | decide | (repeat (first | exact True.intro | exact .nil | refine .cons ⟨_, rfl⟩ ?_ | refine ⟨⟨_, _, rfl, rfl⟩, ?_⟩)))
    (case kv2_5 => first | k_is | exact (by rfl) | exact FR.size_le (by decide) | decide | (repeat (first | exact True.intro | exact .nil | refine .cons ⟨_, rfl⟩ ?_ | refine ⟨⟨_, _, rfl, rfl⟩, ?_⟩)))
    (case kv2_6 => first | k_is | exact (by rfl) | exact FR.size_le (by decide) | decide | (repeat (first | exact True.intro | exact .nil | refine .cons ⟨_, rfl⟩ ?_ | refine ⟨⟨_, _, rfl, rfl⟩, ?_⟩)))
    (case kv2_7 => first | k_is | exact (by rfl) | exact FR.size_le (by decide) | decide | (repeat (first | exact True.intro | exact .nil | refine .cons ⟨_, rfl⟩ ?_ | refine ⟨⟨_, _, rfl, rfl⟩, ?_⟩)))
    (case kv2_8 => first | k_is | exact (by rfl) | exact FR.size_le (by decide) | decide | (repeat (first | exact True.intro | exact .nil | refine .cons ⟨_, rfl⟩ ?_ | refine ⟨⟨_, _, rfl, rfl⟩, ?_⟩)))
    (case kv2_9 => first | k_is | exact (by rfl) | exact FR.size_le (by decide) | decide | (repeat (first | exact True.intro | exact .nil | refine .cons ⟨_, rfl⟩ ?_ | refine ⟨⟨_, _, rfl, rfl⟩, ?_⟩)))
    (case kv2_10 => first | k_is | exact (by rfl) | exact FR.size_le (by decide) | decide | (repeat (first | exact True.intro | exact .nil | refine .cons ⟨_, rfl⟩ ?_ | refine ⟨⟨_, _, rfl, rfl⟩, ?_⟩)))
    (case kv2_11 => first | k_is | exact (by rfl) | exact FR.size_le (by decide) | decide | (repeat (first | exact True.intro | exact .nil | refine .cons ⟨_, rfl⟩ ?_ | refine ⟨⟨_, _, rfl, rfl⟩, ?_⟩)))
    (case kv2_12 => first | k_is | exact (by rfl) | exact FR.size_le (by decide) | decide | (repeat (first | exact True.intro | exact .nil | refine .cons ⟨_, rfl⟩ ?_ | refine ⟨⟨_, _, rfl, rfl⟩, ?_⟩)))
    (case kv2_13 => first | k_is | exact (by rfl) | exact FR.size_le (by decide) | decide | (repeat (first | exact True.intro | exact .nil | refine .cons ⟨_, rfl⟩ ?_ | refine ⟨⟨_, _, rfl, rfl⟩, ?_⟩)))
    (case kv2_14 => first | k_is | exact (by rfl) | exact FR.size_le (by decide) | decide | (repeat (first | exact True.intro | exact .nil | refine .cons ⟨_, rfl⟩ ?_ | refine ⟨⟨_, _, rfl, rfl⟩, ?_⟩)))
    (case kv2_15 => first | k_is | exact (by rfl) | exact FR.size_le (by decide) | decide | (repeat (first | exact True.intro | exact .nil | refine .cons ⟨_, rfl⟩ ?_ | refine ⟨⟨_, _, rfl, rfl⟩, ?_⟩)))
    (case q3 => k_is)
    (case kl3 => k_is)
    (case ku3 => first | k_is | exact (by rfl) | exact FR.size_le (by decide) | decide | (repeat (first | exact True.intro | exact .nil | refine .cons ⟨_, rfl⟩ ?_ | refine ⟨⟨_, _, rfl, rfl⟩, ?_⟩)))
    (case kd3 => first | k_is | exact (by rfl) | exact FR.size_le (by decide) | decide | (repeat (first | exact True.intro | exact .nil | refine .cons ⟨_, rfl⟩ ?_ | refine ⟨⟨_, _, rfl, rfl⟩, ?_⟩)))
    (case kz3 => first | k_is | exact (by rfl) | exact FR.size_le (by decide) | decide | (repeat (first | exact True.intro | exact .nil | refine .cons ⟨_, rfl⟩ ?_ | refine ⟨⟨_, _, rfl, rfl⟩, ?_⟩)))
    (case kv3 => first | k_is | exact (by rfl) | exact FR.size_le (by decide) | decide | (repeat (first | exact True.intro | exact .nil | refine .cons ⟨_, rfl⟩ ?_ | refine ⟨⟨_, _, rfl, rfl⟩, ?_⟩)))
    (case q4 => k_is)
    (case q5 => k_is)
    (case kl5 => k_is)
    (case ky5 => first | k_is | exact (by rfl) | exact FR.size_le (by decide) | decide | (repeat (first | exact True.intro | exact .nil | refine .cons ⟨_, rfl⟩ ?_ | refine ⟨⟨_, _, rfl, rfl⟩, ?_⟩)))
    (case ks5 => first | k_is | exact (by rfl) | exact FR.size_le (by decide) | decide | (repeat (first | exact True.intro | exact .nil | refine .cons ⟨_, rfl⟩ ?_ | refine ⟨⟨_, _, rfl, rfl⟩, ?_⟩)))
    (case kq5 => first | k_is | exact (by rfl) | exact FR.size_le (by decide) | decide | (repeat (first | exact True.intro | exact .nil | refine .cons ⟨_, rfl⟩ ?_ | refine ⟨⟨_, _, rfl, rfl⟩, ?_⟩)))
    (case kv5_0 => first | k_is | exact (by rfl) | exact FR.size_le (by decide) | decide | (repeat (first | exact True.intro | exact .nil | refine .cons ⟨_, rfl⟩ ?_ | refine ⟨⟨_, _, rfl, rfl⟩, ?_⟩)))
    (case kw5_0 => k_is)
    (case ku5_0 => first | k_is | exact (by rfl) | exact FR.size_le (by decide) | decide | (repeat (first | exact True.intro | exact .nil | refine .cons ⟨_, rfl⟩ ?_ | refine ⟨⟨_, _, rfl, rfl⟩, ?_⟩)))
    (case kd5_0 => first | k_is | exact (by rfl) | exact FR.size_le (by decide) | decide | (repeat (first | exact True.intro | exact .nil | refine .cons ⟨_, rfl⟩ ?_ | refine ⟨⟨_, _, rfl, rfl⟩, ?_⟩)))
    (case kz5_0 => first | k_is | exact (by rfl) | exact FR.size_le (by decide) | decide | (repeat (first | exact True.intro | exact .nil | refine .cons ⟨_, rfl⟩ ?_ | refine ⟨⟨_, _, rfl, rfl⟩, ?_⟩)))
    (case kx5_0 => first | k_is | exact (by rfl) | exact FR.size_le (by decide) | decide | (repeat (first | exact True.intro | exact .nil | refine .cons ⟨_, rfl⟩ ?_ | refine ⟨⟨_, _, rfl, rfl⟩, ?_⟩)))
    (case kv5_1 => first | k_is | exact (by rfl) | exact FR.size_le (by decide) | decide | (repeat (first | exact True.intro | exact .nil | refine .cons ⟨_, rfl⟩ ?_ | refine ⟨⟨_, _, rfl, rfl⟩, ?_⟩)))
    (case kw5_1 => k_is)
    (case ku5_1 => first | k_is | exact (by rfl) | exact FR.size_le (by decide) | decide | (repeat (first | exact True.intro | exact .nil | refine .cons ⟨_, rfl⟩ ?_ | refine ⟨⟨_, _, rfl, rfl⟩, ?_⟩)))
    (case kd5_1 => first | k_is | exact (by rfl) | exact FR.size_le (by decide) | decide | (repeat (first | exact True.intro | exact .nil | refine .cons ⟨_, rfl⟩ ?_ | refine ⟨⟨_, _, rfl, rfl⟩, ?_⟩)))
    (case kz5_1 => first | k_is | exact (by rfl) | exact FR.size_le (by decide) | decide | (repeat (first | exact True.intro | exact .nil | refine .cons ⟨_, rfl⟩ ?_ | refine ⟨⟨_, _, rfl, rfl⟩, ?_⟩)))
    (case kx5_1 => first | k_is | exact (by rfl) | exact FR.size_le (by decide) | decide | (repeat (first | exact True.intro | exact .nil | refine .cons ⟨_, rfl⟩ ?_ | refine ⟨⟨_, _, rfl, rfl⟩, ?_⟩)))
    (case kv5_2 => first | k_is | exact (by rfl) | exact FR.size_le (by decide) | decide | (repeat (first | exact True.intro | exact .nil | refine .cons ⟨_, rfl⟩ ?_ | refine ⟨⟨_, _, rfl, rfl⟩, ?_⟩)))
    (case kw5_2 => k_is)
    (case ku5_2 => first | k_is | exact (by rfl) | exact FR.size_le (by decide) | decide | (repeat (first | exact True.intro | exact .nil | refine .cons ⟨_, rfl⟩ ?_ | refine ⟨⟨_, _, rfl, rfl⟩, ?_⟩)))
    (case kd5_2 => first | k_is | exact (by rfl) | exact FR.size_le (by decide) | decide | (repeat (first | exact True.intro | exact .nil | refine .cons ⟨_, rfl⟩ ?_ | refine ⟨⟨_, _, rfl, rfl⟩, ?_⟩)))
    (case kz5_2 => first | k_is | exact (by rfl) | exact FR.size_le (by decide) | decide | (repeat (first | exact True.intro | exact .nil | refine .cons ⟨_, rfl⟩ ?_ | refine ⟨⟨_, _, rfl, rfl⟩, ?_⟩)))
    (case kx5_2 => first | k_is | exact (by rfl) | exact FR.size_le (by decide) | decide | (repeat (first | exact True.intro | exact .nil | refine .cons ⟨_, rfl⟩ ?_ | refine ⟨⟨_, _, rfl, rfl⟩, ?_⟩)))
    (case kv5_3 => first | k_is | exact (by rfl) | exact FR.size_le (by decide) | decide | (repeat (first | exact True.intro | exact .nil | refine .cons ⟨_, rfl⟩ ?_ | refine ⟨⟨_, _, rfl, rfl⟩, ?_⟩)))
    (case kw5_3 => k_is)
    (case ku5_3 => first | k_is | exact (by rfl) | exact FR.size_le (by decide) | decide | (repeat (first | exact True.intro | exact .nil | refine .cons ⟨_, rfl⟩ ?_ | refine ⟨⟨_, _, rfl, rfl⟩, ?_⟩)))
    (case kd5_3 => first | k_is | exact (by rfl) | exact FR.size_le (by decide) | decide | (repeat (first | exact True.intro | exact .nil | refine .cons ⟨_, rfl⟩ ?_ | refine ⟨⟨_, _, rfl, rfl⟩, ?_⟩)))
    (case kz5_3 => first | k_is | exact (by rfl) | exact FR.size_le (by decide) | decide | (repeat (first | exact True.intro | exact .nil | refine .cons ⟨_, rfl⟩ ?_ | refine ⟨⟨_, _, rfl, rfl⟩, ?_⟩)))
    (case kx5_3 => first | k_is | exact (by rfl) | exact FR.size_le (by decide) | decide | (repeat (first | exact True.intro | exact .nil | refine .cons ⟨_, rfl⟩ ?_ | refine ⟨⟨_, _, rfl, rfl⟩, ?_⟩)))
    (case kv5_4 => first | k_is | exact (by rfl) | exact FR.size_le (by decide) | decide | (repeat (first | exact True.intro | exact .nil | refine .cons ⟨_, rfl⟩ ?_ | refine ⟨⟨_, _, rfl, rfl⟩, ?_⟩)))
    (case kw5_4 => k_is)
    (case ku5_4 => first | k_is | exact (by rfl) | exact FR.size_le (by decide) | decide | (repeat (first | exact True.intro | exact .nil | refine .cons ⟨_, rfl⟩ ?_ | refine ⟨⟨_, _, rfl, rfl⟩, ?_⟩)))
    (case kd5_4 => first | k_is | exact (by rfl) | exact FR.size_le (by decide) | decide | (repeat (first | exact True.intro | exact .nil | refine .cons ⟨_, rfl⟩ ?_ | refine ⟨⟨_, _, rfl, rfl⟩, ?_⟩)))
    (case kz5_4 => first | k_is | exact (by rfl) | exact FR.size_le (by decide) | decide | (repeat (first | exact True.intro | exact .nil | refine .cons ⟨_, rfl⟩ ?_ | refine ⟨⟨_, _, rfl, rfl⟩, ?_⟩)))
    (case kx5_4 => first | k_is | exact (by rfl) | exact FR.size_le (by decide) | decide | (repeat (first | exact True.intro | exact .nil | refine .cons ⟨_, rfl⟩ ?_ | refine ⟨⟨_, _, rfl, rfl⟩, ?_⟩)))
    (case kv5_5 => first | k_is | exact (by rfl) | exact FR.size_le (by decide) | decide | (repeat (first | exact True.intro | exact .nil | refine .cons ⟨_, rfl⟩ ?_ | refine ⟨⟨_, _, rfl, rfl⟩, ?_⟩)))
    (case kw5_5 => k_is)
    (case ku5_5 => first | k_is | exact (by rfl) | exact FR.size_le (by decide) | decide | (repeat (first | exact True.intro | exact .nil | refine .cons ⟨_, rfl⟩ ?_ | refine ⟨⟨_, _, rfl, rfl⟩, ?_⟩)))
    (case kd5_5 => first | k_is | exact (by rfl) | exact FR.size_le (by decide) | decide | (repeat (first | exact True.intro | exact .nil | refine .cons ⟨_, rfl⟩ ?_ | refine ⟨⟨_, _, rfl, rfl⟩, ?_⟩)))
    (case kz5_5 => first | k_is | exact (by rfl) | exact FR.size_le (by decide) | decide | (repeat (first | exact True.intro | exact .nil | refine .cons ⟨_, rfl⟩ ?_ | refine ⟨⟨_, _, rfl, rfl⟩, ?_⟩)))
    (case kx5_5 => first | k_is | exact (by rfl) | exact FR.size_le (by decide) | decide | (repeat (first | exact True.intro | exact .nil | refine .cons ⟨_, rfl⟩ ?_ | refine ⟨⟨_, _, rfl, rfl⟩, ?_⟩)))
    (case kv5_6 => first | k_is | exact (by rfl) | exact FR.size_le (by decide) | decide | (repeat (first | exact True.intro | exact .nil | refine .cons ⟨_, rfl⟩ ?_ | refine ⟨⟨_, _, rfl, rfl⟩, ?_⟩)))
    (case kw5_6 => k_is)
    (case ku5_6 => first | k_is | exact (by rfl) | exact FR.size_le (by decide) | decide | (repeat (first | exact True.intro | exact .nil | refine .cons ⟨_, rfl⟩ ?_ | refine ⟨⟨_, _, rfl, rfl⟩, ?_⟩)))
    (case kd5_6 => first | k_is | exact (by rfl) | exact FR.size_le (by decide) | decide | (repeat (first | exact True.intro | exact .nil | refine .cons ⟨_, rfl⟩ ?_ | refine ⟨⟨_, _, rfl, rfl⟩, ?_⟩)))
    (case kz5_6 => first | k_is | exact (by rfl) | exact FR.size_le (by decide) | decide | (repeat (first | exact True.intro | exact .nil | refine .cons ⟨_, rfl⟩ ?_ | refine ⟨⟨_, _, rfl, rfl⟩, ?_⟩)))
    (case kx5_6 => first | k_is | exact (by rfl) | exact FR.size_le (by decide) | decide | (repeat (first | exact True.intro | exact .nil | refine .cons ⟨_, rfl⟩ ?_ | refine ⟨⟨_, _, rfl, rfl⟩, ?_⟩)))
    (case kv5_7 => first | k_is | exact (by rfl) | exact FR.size_le (by decide) | decide | (repeat (first | exact True.intro | exact .nil | refine .cons ⟨_, rfl⟩ ?_ | refine ⟨⟨_, _, rfl, rfl⟩, ?_⟩)))
    (case kw5_7 => k_is)
    (case ku5_7 => first | k_is | exact (by rfl) | exact FR.size_le (by decide) | decide | (repeat (first | exact True.intro | exact .nil | refine .cons ⟨_, rfl⟩ ?_ | refine ⟨⟨_, _, rfl, rfl⟩, ?_⟩)))
    (case kd5_7 => first | k_is | exact (by rfl) | exact FR.size_le (by decide) | decide | (repeat (first | exact True.intro | exact .nil | refine .cons ⟨_, rfl⟩ ?_ | refine ⟨⟨_, _, rfl, rfl⟩, ?_⟩)))
    (case kz5_7 => first | k_is | exact (by rfl) | exact FR.size_le (by decide) | decide | (repeat (first | exact True.intro | exact .nil | refine .cons ⟨_, rfl⟩ ?_ | refine ⟨⟨_, _, rfl, rfl⟩, ?_⟩)))
    (case kx5_7 => first | k_is | exact (by rfl) | exact FR.size_le (by decide) | decide | (repeat (first | exact True.intro | exact .nil | refine .cons ⟨_, rfl⟩ ?_ | refine ⟨⟨_, _, rfl, rfl⟩, ?_⟩)))
    (case kv5_8 => first | k_is | exact (by rfl) | exact FR.size_le (by decide) | decide | (repeat (first | exact True.intro | exact .nil | refine .cons ⟨_, rfl⟩ ?_ | refine ⟨⟨_, _, rfl, rfl⟩, ?_⟩)))
    (case kw5_8 => k_is)
    (case ku5_8 => first | k_is | exact (by rfl) | exact FR.size_le (by decide) | decide | (repeat (first | exact True.intro | exact .nil | refine .cons ⟨_, rfl⟩ ?_ | refine ⟨⟨_, _, rfl, rfl⟩, ?_⟩)))
    (case kd5_8 => first | k_is | exact (by rfl) | exact FR.size_le (by decide) | decide | (repeat (first | exact True.intro | exact .nil | refine .cons ⟨_, rfl⟩ ?_ | refine ⟨⟨_, _, rfl, rfl⟩, ?_⟩)))
    (case kz5_8 => first | k_is | exact (by rfl) | exact FR.size_le (by decide) | decide | (repeat (first | exact True.intro | exact .nil | refine .cons ⟨_, rfl⟩ ?_ | refine ⟨⟨_, _, rfl, rfl⟩, ?_⟩)))
    (case kx5_8 => first | k_is | exact (by rfl) | exact FR.size_le (by decide) | decide | (repeat (first | exact True.intro | exact .nil | refine .cons ⟨_, rfl⟩ ?_ | refine ⟨⟨_, _, rfl, rfl⟩, ?_⟩)))
    (case kv5_9 => first | k_is | exact (by rfl) | exact FR.size_le (by decide) | decide | (repeat (first | exact True.intro | exact .nil | refine .cons ⟨_, rfl⟩ ?_ | refine ⟨⟨_, _, rfl, rfl⟩, ?_⟩)))
    (case kw5_9 => k_is)
    (case ku5_9 => first | k_is | exact (by rfl) | exact FR.size_le (by decide) | decide | (repeat (first | exact True.intro | exact .nil | refine .cons ⟨_, rfl⟩ ?_ | refine ⟨⟨_, _, rfl, rfl⟩, ?_⟩)))
    (case kd5_9 => first | k_is | exact (by rfl) | exact FR.size_le (by decide) | decide | (repeat (first | exact True.intro | exact .nil | refine .cons ⟨_, rfl⟩ ?_ | refine ⟨⟨_, _, rfl, rfl⟩, ?_⟩)))
    (case kz5_9 => first | k_is | exact (by rfl) | exact FR.size_le (by decide) | decide | (repeat (first | exact True.intro | exact .nil | refine .cons ⟨_, rfl⟩ ?_ | refine ⟨⟨_, _, rfl, rfl⟩, ?_⟩)))
    (case kx5_9 => first | k_is | exact (by rfl) | exact FR.size_le (by decide) | decide | (repeat (first | exact True.intro | exact .nil | refine .cons ⟨_, rfl⟩ ?_ | refine ⟨⟨_, _, rfl, rfl⟩, ?_⟩)))
    (case kv5_10 => first | k_is | exact (by rfl) | exact FR.size_le (by decide) | decide | (repeat (first | exact True.intro | exact .nil | refine .cons ⟨_, rfl⟩ ?_ | refine ⟨⟨_, _, rfl, rfl⟩, ?_⟩)))
    (case kw5_10 => k_is)
    (case ku5_10 => first | k_is | exact (by rfl) | exact FR.size_le (by decide) | decide | (repeat (first | exact True.intro | exact .nil | refine .cons ⟨_, rfl⟩ ?_ | refine ⟨⟨_, _, rfl, rfl⟩, ?_⟩)))
    (case kd5_10 => first | k_is | exact (by rfl) | exact FR.size_le (by decide) | decide | (repeat (first | exact True.intro | exact .nil | refine .cons ⟨_, rfl⟩ ?_ | refine ⟨⟨_, _, rfl, rfl⟩, ?_⟩)))
    (case kz5_10 => first | k_is | exact (by rfl) | exact FR.size_le (by decide) | decide | (repeat (first | exact True.intro | exact .nil | refine .cons ⟨_, rfl⟩ ?_ | refine ⟨⟨_, _, rfl, rfl⟩, ?_⟩)))
    (case kx5_10 => first | k_is | exact (by rfl) | exact FR.size_le (by decide) | decide | (repeat (first | exact True.intro | exact .nil | refine .cons ⟨_, rfl⟩ ?_ | refine ⟨⟨_, _, rfl, rfl⟩, ?_⟩)))
    (case z0 => k_is)
    (case z1 => k_is)
    (case z2 => k_is)
    (case z3 => k_is)
    (case z4 => k_is)
    (case z5 => k_is)
    (case z6 => k_is)
    (case z7 => k_is)
    (case z8 => k_is)
    (case z9 => k_is)
    (case z10 => k_is)
    (case z11 => k_is)
    (case z12 => k_is)
    (case z13 => k_is)
    (case z14 => k_is)
