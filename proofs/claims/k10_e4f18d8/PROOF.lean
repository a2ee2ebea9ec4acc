import PyProof.Rows.All
import Wide.All
import OpenK.AllK
import Wide.FinOn
import HandS.ForMost
import HandS.IsInst
import HandS.Defaults
import HandS.StrMore
import HandS.Flow
import HandS.Codes
import HandS.EndBits
import HandS.Walk
import HandS.Replace
import HandS.Star
import HandS.TupLe
import HandS.ForExc
import HandS.TryMany
import HandS.ExcIs
import HandS.ExcField
import KE.OsGo
import KE.KExcIs
import HandS.Deep
import PyProof.EqKinds
import HandS.ReplaceDef
import HandS.ReplaceLit
import HandS.ReplaceList
import HandS.SlotsOwn
import KE.KOpsOwn
import HandS.Conv
import PyProof.ListStr
import PyProof.Rows.Range3
import HandS.ClsMeth
import HandS.Property
import PySem.Challenge.RW_filerights_k10_rights_that_stay
set_option Elab.async false
set_option linter.all false
set_option maxRecDepth 100000
/-! own lemmas over the hand layer: what a def's body holds of the heap -/
namespace FR
open PySem PySem.Spec PyProof.Rows L2 TL
/-- all that was tracked, other than at M, is as it was -/
def Keep (M : List Addr) (H H' : Hp) : Prop := ∀ b o, H b = some o → b ∉ M → H' b = some o
theorem Keep.refl {M : List Addr} {H : Hp} : Keep M H H := fun _ _ h _ => h
theorem Keep.same {H H' : Hp} (k : Keep [] H H') : Same H H' := fun b o h => k b o h (by simp)
theorem Keep.of_same {H H' : Hp} (k : Same H H') : Keep [] H H' := fun b o h _ => k b o h
theorem Keep.free {H H' : Hp} (k : Keep [] H H') {p : Addr} (h : H' p = none) : H p = none := k.same.free h
/-- a body's heap: H0 at its entry, M what it may change, L what it holds -/
structure Ow (H0 : Hp) (M : List Addr) (H : Hp) (L : List (Addr × HO)) : Prop where
  keep : ∀ b o, H0 b = some o → b ∉ M → H b = some o
  has : ∀ p ∈ L, H p.1 = some p.2
  nd : (L.map (·.1)).Nodup
  fr : ∀ p ∈ L, H0 p.1 = none ∨ p.1 ∈ M
section
variable {H0 H H' : Hp} {M : List Addr} {L : List (Addr × HO)} {a p : Addr} {o o' : HO} {K : PySem.W.Frag} {xs : List V}
theorem Ow.start0 : Ow H [] H [] := ⟨fun _ _ h _ => h, fun _ h => by simp at h, by simp, fun _ h => by simp at h⟩
theorem Ow.start1 (h : H a = some o) : Ow H [a] H [(a, o)] := ⟨fun _ _ h _ => h, fun p hp => by simp at hp; subst hp; exact h, by simp, fun p hp => by simp at hp; subst hp; exact .inr (by simp)⟩
theorem Ow.get (W : Ow H0 M H L) (i : Nat) (e : L[i]? = some (a, o)) : H a = some o := W.has _ (List.mem_of_getElem? e)
theorem Ow.new (W : Ow H0 M H L) (h : H p = none) : Ow H0 M (upd H p o) ((p, o) :: L) where
  keep := fun b u e hb => by
    rw [upd_ne (ne_of_none (W.keep b u e hb) h)]
    exact W.keep b u e hb
  has := fun q hq => by
    rcases List.mem_cons.mp hq with rfl | hq
    · exact upd_same
    · rw [upd_ne (ne_of_none (W.has q hq) h)]
      exact W.has q hq
  nd := by
    rw [List.map_cons, List.nodup_cons]
    refine ⟨fun hm => ?_, W.nd⟩
    obtain ⟨q, hq, e⟩ := List.mem_map.mp hm
    have := W.has q hq
    rw [show q.1 = p from e, h] at this
    cases this
  fr := fun q hq => by
    rcases List.mem_cons.mp hq with rfl | hq
    · by_cases hm : p ∈ M
      · exact .inr hm
      · cases e : H0 p with
        | none => exact .inl rfl
        | some u =>
          have := W.keep p u e hm
          rw [h] at this
          cases this
    · exact W.fr q hq
theorem nd_of {α β : Type} [DecidableEq α] : ∀ {L : List (α × β)} {i : Nat} {x : α × β} {q : α × β}, (L.map (·.1)).Nodup → L[i]? = some x → q ∈ L → q.1 = x.1 → q = x
  | [], i, x, q, _, e, _, _ => by simp at e
  | y :: L, 0, x, q, hn, e, hq, h => by
    have e' : y = x := Option.some.inj e
    subst e'
    rcases List.mem_cons.mp hq with r | hq
    · exact r
    · rw [List.map_cons, List.nodup_cons] at hn
      exact absurd (List.mem_map.mpr ⟨q, hq, h⟩) hn.1
  | y :: L, i + 1, x, q, hn, e, hq, h => by
    rw [List.map_cons, List.nodup_cons] at hn
    have e' : L[i]? = some x := e
    rcases List.mem_cons.mp hq with r | hq
    · subst r
      exact absurd (List.mem_map.mpr ⟨x, List.mem_of_getElem? e', h.symm⟩) hn.1
    · exact nd_of hn.2 e' hq h
theorem map_set_fst {α β : Type} : ∀ {L : List (α × β)} {i : Nat} {a : α} {o o' : β}, L[i]? = some (a, o) → (L.set i (a, o')).map (·.1) = L.map (·.1)
  | [], i, a, o, o', e => by simp at e
  | y :: L, 0, a, o, o', e => by
    have e' : y = (a, o) := Option.some.inj e
    subst e'
    rfl
  | y :: L, i + 1, a, o, o', e => by
    have e' : L[i]? = some (a, o) := e
    rw [List.set_cons_succ, List.map_cons, List.map_cons, map_set_fst e']
theorem Ow.any1 (W : Ow H0 M H L) (i : Nat) (e : L[i]? = some (a, o)) (k : Keep [a] H H') (h : H' a = some o') : Ow H0 M H' (L.set i (a, o')) where
  keep := fun b u eb hb => by
    have z := W.keep b u eb hb
    refine k b u z ?_
    intro hm
    have hm' : b = a := by simpa using hm
    subst hm'
    rcases W.fr _ (List.mem_of_getElem? e) with r | r
    · rw [show (b, o).1 = b from rfl, eb] at r; cases r
    · exact hb r
  has := fun q hq => by
    rcases List.mem_or_eq_of_mem_set hq with hq | rfl
    · by_cases ha : q.1 = a
      · have := nd_of (q := q) (by rw [map_set_fst (o' := o') e]; exact W.nd) (show (L.set i (a, o'))[i]? = some (a, o') by
          have hi : i < L.length := (List.getElem?_eq_some_iff.mp e).1
          rw [List.getElem?_set_self hi]) (by assumption) ha
        subst this
        exact h
      · exact k _ _ (W.has q hq) (by simpa using ha)
    · exact h
  nd := by rw [map_set_fst e]; exact W.nd
  fr := fun q hq => by
    rcases List.mem_or_eq_of_mem_set hq with hq | rfl
    · exact W.fr q hq
    · exact (W.fr (a, o) (List.mem_of_getElem? e) : H0 a = none ∨ a ∈ M)
theorem keep_upd {H : Hp} {a : Addr} {o : HO} : Keep [a] H (upd H a o) := fun b u e hb => by
  rw [upd_ne (by simpa using hb)]
  exact e
theorem Ow.set (W : Ow H0 M H L) (i : Nat) (e : L[i]? = some (a, o)) : Ow H0 M (upd H a o') (L.set i (a, o')) := W.any1 i e keep_upd upd_same
/-- a call that changed nothing -/
theorem Ow.call0 (W : Ow H0 M H L) (k : Keep [] H H') : Ow H0 M H' L where
  keep := fun b u e hb => k b u (W.keep b u e hb) (by simp)
  has := fun q hq => k _ _ (W.has q hq) (by simp)
  nd := W.nd
  fr := W.fr
/-- .. and handed back a new object -/
theorem Ow.res (W : Ow H0 M H L) (W' : Ow H0 M H' L) (hp : H p = none) (h : H' p = some o) : Ow H0 M H' ((p, o) :: L) where
  keep := W'.keep
  has := fun q hq => by
    rcases List.mem_cons.mp hq with rfl | hq
    · exact h
    · exact W'.has q hq
  nd := by
    rw [List.map_cons, List.nodup_cons]
    refine ⟨fun hm => ?_, W.nd⟩
    obtain ⟨q, hq, e⟩ := List.mem_map.mp hm
    have := W.has q hq
    rw [show q.1 = p from e, hp] at this
    cases this
  fr := fun q hq => by
    rcases List.mem_cons.mp hq with rfl | hq
    · by_cases hm : p ∈ M
      · exact .inr hm
      · cases e : H0 p with
        | none => exact .inl rfl
        | some u =>
          have := W.keep p u e hm
          rw [hp] at this
          cases this
    · exact W.fr q hq
theorem Ow.tail {q : Addr × HO} (W : Ow H0 M H (q :: L)) : Ow H0 M H L := ⟨W.keep, fun p hp => W.has p (List.mem_cons_of_mem _ hp), (List.nodup_cons.mp W.nd).2, fun p hp => W.fr p (List.mem_cons_of_mem _ hp)⟩
theorem Ow.drop (W : Ow H0 M H L) : Ow H0 M H [] := ⟨W.keep, fun _ h => by simp at h, by simp, fun _ h => by simp at h⟩
theorem Ow.seq (W : Ow H0 M H L) (h : SqL K H0 a xs) (ha : a ∉ M) : SqL K H a xs := by
  rcases h with (h | ⟨o, h⟩) | h
  · exact .inl (.inl (W.keep _ _ h ha))
  · exact .inl (.inr ⟨o, W.keep _ _ h ha⟩)
  · exact .inr h
theorem Ow.sq (W : Ow H0 M H L) (i : Nat) (e : L[i]? = some (a, .lst xs)) : SqL K H a xs := .inl (.inl (W.get i e))
theorem Ow.sqT (W : Ow H0 M H L) (i : Nat) (e : L[i]? = some (a, .tup xs)) : SqT K H a xs := .inl (.inl (W.get i e))
end
/-! ### objects that are made or changed: the heap behind is told by what it keeps -/
structure NewO (o : HO) (Q : VK) (H : Hp) : Prop where
  to : ∀ (p : Addr) (H' : Hp), H p = none → Keep [] H H' → H' p = some o → Q (.ref p) H'
structure MutO (a : Addr) (o : HO) (Q : Hp → Prop) (H : Hp) : Prop where
  to : ∀ H' : Hp, Keep [a] H H' → H' a = some o → Q H'
theorem keep_new {H : Hp} {p : Addr} {o : HO} (np : H p = none) : Keep [] H (upd H p o) := fun b u e _ => by
  rw [upd_ne (ne_of_none e np)]
  exact e
theorem NewO.all {o : HO} {Q : VK} {H : Hp} (h : NewO o Q H) : ∀ p, H p = none → Q (.ref p) (upd H p o) := fun p np => h.to p _ np (keep_new np) upd_same
theorem MutO.at {a : Addr} {o : HO} {Q : Hp → Prop} {H : Hp} (h : MutO a o Q H) : Q (upd H a o) := h.to _ keep_upd upd_same
section
variable {H0 H H' : Hp} {M : List Addr} {L : List (Addr × HO)} {a p : Addr} {o o' : HO} {G : Prop}
theorem with1 (i : Nat) (W : Ow H0 M H L) (e : L[i]? = some (a, o)) (k : Keep [a] H H') (h : H' a = some o') (g : Ow H0 M H' (L.set i (a, o')) → G) : G := g (W.any1 i e k h)
theorem withN (W : Ow H0 M H L) (np : H p = none) (k : Keep [] H H') (h : H' p = some o) (g : Ow H0 M H' ((p, o) :: L) → G) : G := g (W.res (W.call0 k) np h)
theorem with0 (W : Ow H0 M H L) (k : Keep [] H H') (g : Ow H0 M H' L → G) : G := g (W.call0 k)
end
section
variable {X : Cx} {e : Expr} {es : List Expr} {t t' : TE} {ta : TA} {pos : Pos} {K : PySem.W.Frag}
def mA (t : TA) : TA := fun σ H Q => ∃ Q0, t σ H Q0 ∧ ∀ xs H', Q0 xs H' → Q xs H'
theorem pa_m (h : PA X es ta) : PA X es (mA ta) := ⟨fun pos pins s σ H Q I hq => by
  obtain ⟨Q0, h0, hi⟩ := hq
  exact thn (h.run pos pins s σ H Q0 I h0) fun us s1 ⟨xs, H1, I1, r, q⟩ => ⟨xs, H1, I1, r, hi _ _ q⟩⟩
theorem pe_imp (h : PE X e t) (k : ∀ σ H Q, t' σ H Q → t σ H Q) : PE X e t' := ⟨fun pins s σ H Q I q => h.run pins s σ H Q I (k σ H Q q)⟩
def tLstN (t : TA) : TE := fun σ H Q => t σ H fun xs H1 => xs.length ≤ sizeLine ∧ NewO (.lst xs) Q H1
def tTupN (t : TA) : TE := fun σ H Q => t σ H fun xs H1 => xs.length ≤ sizeLine ∧ NewO (.tup xs) Q H1
theorem pe_lstN (h : PA X es ta) : PE X (.List es pos) (tLstN ta) := pe_imp (pe_lst (pa_m h)) fun σ H Q q => ⟨_, q, fun xs H1 z => ⟨z.1, z.2.all⟩⟩
theorem pe_tupN {x1} (h : PA X es ta) : PE X (.Tuple es x1 pos) (tTupN ta) := pe_imp (pe_tup (pa_m h)) fun σ H Q q => ⟨_, q, fun xs H1 z => ⟨z.1, z.2.all⟩⟩
theorem pe_dnewN : PE X (.Dict [] [] pos) (fun _ H Q => NewO (.dK []) Q H) := pe_imp pe_dnewK fun σ H Q q => q.all
def rSetN : V → V → V → Hp → (Hp → Prop) → Prop := fun o i v H Q => ∃ p xs k j, o = .ref p ∧ i = .int k ∧ H p = some (.lst xs) ∧ ixN xs.length k = some j ∧ MutO p (.lst (xs.set j v)) Q H
theorem set_listN : PSet X rSetN := fun pins s σ H o i v ov iv u Q I ro ri rv h => by
  obtain ⟨p, xs, k, j, e1, e2, hp, hj, q⟩ := h
  exact set_list pins s σ H o i v ov iv u Q I ro ri rv ⟨p, xs, k, j, e1, e2, hp, hj, q.at⟩
def rSlN (K : PySem.W.Frag) : V → Option Int → Option Int → Hp → VK → Prop := fun x lo hi H Q => ∃ a xs, x = .ref a ∧ SqL K H a xs ∧ NewO (.lst (cutV xs lo hi)) Q H
theorem sl_listN : SlR X (rSlN X.K) := fun pins s σ H x v vl vu lo hi sl Q I rx hs pl pu h => by
  obtain ⟨a, xs, e, hx, q⟩ := h
  exact sl_list pins s σ H x v vl vu lo hi sl Q I rx hs pl pu ⟨a, xs, e, hx, q.all⟩
def rCatN : R2 := fun x y H Q => ∃ l b xs zs, x = .ref l ∧ y = .ref b ∧ H l = some (.lst xs) ∧ H b = some (.lst zs) ∧ xs.length + zs.length ≤ sizeLine ∧ NewO (.lst (xs ++ zs)) Q H
theorem op_catN : OpR X (binaryOp .Add) rCatN := fun pins s σ H x y v u Q I rx ry h => by
  obtain ⟨l, b, xs, zs, e1, e2, hl, hb, hz, q⟩ := h
  exact op_cat pins s σ H x y v u Q I rx ry ⟨l, b, xs, zs, e1, e2, hl, hb, hz, q.all⟩
def rAppN : V → List V → Hp → VK → Prop := fun x vs H Q => ∃ l xs y, x = .ref l ∧ vs = [y] ∧ H l = some (.lst xs) ∧ xs.length < sizeLine ∧ MutO l (.lst (xs ++ [y])) (Q .non) H
theorem mt_appN : MtR X "list.append" rAppN := fun pins s σ H x xs v us Q I rx rv h => by
  obtain ⟨l, ys, y, e1, e2, hl, hz, q⟩ := h
  exact mt_append pins s σ H x xs v us Q I rx rv ⟨l, ys, y, e1, e2, hl, hz, q.at⟩
def rSplN : V → List V → Hp → VK → Prop := fun x xs H Q => ∃ a b, x = .str a ∧ xs = [.str b] ∧ (b.length == 0) = false ∧ a.length + 2 ≤ sizeLine ∧ NewO (.lst ((Txt.split a b).map V.str)) Q H
theorem mt_splN : MtR X "str.split" rSplN := fun pins s σ H x xs v us Q I rx rv h => by
  obtain ⟨a, b, e1, e2, h1, h2, q⟩ := h
  exact mt_split pins s σ H x xs v us Q I rx rv ⟨a, b, e1, e2, h1, h2, q.all⟩
def rLofN (K : PySem.W.Frag) : List V → Hp → VK → Prop := fun xs H Q => ∃ p ys, xs = [.ref p] ∧ (SqL K H p ys ∨ SqT K H p ys) ∧ NewO (.lst ys) Q H
theorem call_lofN : CallR X (.type "list") (rLofN X.K) := fun pins s σ H xs us Q I r h => by
  obtain ⟨p, ys, e, hs, q⟩ := h
  exact call_list_of pins s σ H xs us Q I r ⟨p, ys, e, hs, q.all⟩
end
/-! ### calls with keywords of a def without defaults by place -/
section
variable {K : PySem.W.Frag} {x qual : Str} {params : Arguments} {body : List Stmt} {scope : Scope} {kws : List (Str × V)} {f : Addr} {fd : FuncData} {ps : List Str}
theorem kb0 (F : FunD K x qual params body scope [] kws f fd) (n : Nat) (ks : List Str) (ms : List (Str × V)) (g : {α : Type} → List α → List α → List α → List α) (hk : kws ≠ []) (hms : ∀ q ∈ ms, q ∈ kws)
    (hrel : ∀ {vs mz zs : List V} {us mv ws : List Value}, Vals vs us → Vals mz mv → Vals zs ws → Vals (g vs mz zs) (g us mv ws))
    (h : ∀ (D : Addr) (doc pm : Value) (an : Option Addr) (cdv ct : Value) (us mv ws : List Value), us.length = n → mv.length = ms.length → ws.length = ks.length →
      KwChain D ((ms.map (·.1)).zip mv) (bindArgs (PySem.W.fnOf x qual params body scope .none (.ref D) doc pm an cdv ct) ⟨us, ks.zip ws⟩) (ps.zip (g us mv ws))) :
    ∃ mv : List Value, KBn K fd ps n ks (fun us ws => g us mv ws) (fun vs zs => g vs (ms.map (·.2)) zs) := by
  obtain ⟨oc, od, dV, kV, doc, pm, an, cdv, ct, osl, rfl, lk, hcd, hD, hK⟩ := F.ex
  rcases hD with ⟨_, rfl⟩ | ⟨e, _⟩
  · rcases hK with e | ⟨D, rfl, hq⟩
    · exact absurd e hk
    · obtain ⟨mv, hl, rk, hks⟩ := kwd_vals (ms := ms) fun q hm => hq q (hms q hm)
      exact ⟨mv, fun s us ws X l1 l2 => BindsTo.of_looks fun M => KwChain.looks X hks (h D doc pm an cdv ct us mv ws l1 hl l2), fun r1 r2 => hrel r1 rk r2⟩
  · exact absurd rfl e
end
section
variable {X : Cx} {CX : CXT} {k : Nat} {f : Addr} {fd : FuncData} {ps ks : List Str} {sp : Sp} {E : XK} {x : Str} {p pos : Pos} {kws : List Keyword} {tk : TA} {g : List Value → List Value → List Value} {gV : List V → List V → List V}
theorem pe_callN0 (F : FnOk X.prog X.w X.K X.mg X.base CX k f fd ps sp) (hr : Room k X.A) (hg : Gl X x) (hm : X.mg x = some (.ref f)) (hk : PySem.W.keepIn X.K (.ref f) = true) (hb : KBn X.K fd ps 0 ks g gV) (hx : Passes CX X E) (hkw : PK X kws tk)
    (hall : (backToKw pos (keywordEach kws X.env)).all (·.1.isSome) = true := by rfl) (hks : (backToKw pos (keywordEach kws X.env)).filterMap (·.1) = ks := by rfl) (hdb : (x == ("__debug__" : Str)) = false := by decide)
    (hpl : ((backTo pos (starEach [] X.env)).any (·.1) || (backToKw pos (keywordEach kws X.env)).any (·.1.isNone)) = false := by rfl) : PE X (.Call (.Name x p) [] kws pos) (tCallN 0 ks.length sp gV E tNil tk) := ⟨fun pins s σ H Q I h => by
  refine wpAny_Call_Name_kw (ld_glob I hg hm (PySem.W.callWith_KW0 (h₀ := X.base) I.ok.mod.kin hk hall ?_ hpl) hdb)
  refine thn (hkw.run pos pins s σ H _ I h) fun ws s2 hz => ?_
  obtain ⟨zs, H2, I2, rz, l1, l2, q2⟩ := hz
  refine ⟨I2.kIn, ?_⟩
  rw [hks]
  exact run_fnN (us := []) (vs := []) F hr hb hx I2 .nil rz rfl l2 q2⟩
end
/-! ### tests -/
section
variable {A B : Prop}
theorem ifT {b : Bool} (h : b = true) (a : A) : if b = true then A else B := by rw [if_pos h]; exact a
theorem ifF {b : Bool} (h : b = false) (a : B) : if b = true then A else B := by rw [h, if_neg Bool.false_ne_true]; exact a
theorem ifB {b : Bool} (h1 : b = true → A) (h2 : b = false → B) : if b = true then A else B := by
  cases b
  · exact ifF rfl (h2 rfl)
  · exact ifT rfl (h1 rfl)
theorem ifNB {b : Bool} (h1 : b = false → A) (h2 : b = true → B) : if (!b) = true then A else B := by
  cases b
  · exact ifT rfl (h1 rfl)
  · exact ifF rfl (h2 rfl)
theorem ifD {p : Prop} [Decidable p] (h1 : p → A) (h2 : ¬ p → B) : if decide p = true then A else B := by
  by_cases h : p
  · exact ifT (decide_eq_true h) (h1 h)
  · exact ifF (decide_eq_false h) (h2 h)
theorem ifN {p : Prop} [Decidable p] (h1 : ¬ p → A) (h2 : p → B) : if (!decide p) = true then A else B := by
  by_cases h : p
  · exact ifF (by rw [decide_eq_true h]; rfl) (h2 h)
  · exact ifT (by rw [decide_eq_false h]; rfl) (h1 h)
theorem ifQ {b : Bool} {p : Prop} [Decidable p] (h : b = decide p) (h1 : p → A) (h2 : ¬ p → B) : if b = true then A else B := by
  rw [h]
  exact ifD h1 h2
theorem ifVI {i j : Int} (h1 : i = j → A) (h2 : i ≠ j → B) : if decide (V.int i = V.int j) = true then A else B := ifD (fun h => h1 (V.int.inj h)) fun h => h2 fun e => h (by rw [e])
theorem ifVIn {i j : Int} (h1 : i ≠ j → A) (h2 : i = j → B) : if (!decide (V.int i = V.int j)) = true then A else B := ifN (fun h => h1 fun e => h (by rw [e])) fun h => h2 (V.int.inj h)
theorem ifVS {i j : Str} (h1 : i = j → A) (h2 : i ≠ j → B) : if decide (V.str i = V.str j) = true then A else B := ifD (fun h => h1 (V.str.inj h)) fun h => h2 fun e => h (by rw [e])
theorem ifVSn {i j : Str} (h1 : i ≠ j → A) (h2 : i = j → B) : if (!decide (V.str i = V.str j)) = true then A else B := ifN (fun h => h1 fun e => h (by rw [e])) fun h => h2 (V.str.inj h)
end
/-! ### isinstance -/
theorem isi {K : PySem.W.Frag} {H : Hp} {Q : VK} {x : V} {t c : String} {b : Bool} (ty : TyX K H x (.type t)) (k : kitB t c = some b) (q : Q (.bl b) H) : rIsi K [x, .ty c] H Q := ⟨x, .ty c, .type t, .type c, b, rfl, .ty c, ty, kit_ty k, q⟩
theorem call_isiK {X : Cx} {K : PySem.W.Frag} (h : X.K = K) : CallR X (.builtin "isinstance") (rIsi K) := h ▸ call_isi
theorem ki_int_str : kitB "int" "str" = some false := by decide +kernel
theorem ki_int_int : kitB "int" "int" = some true := by decide +kernel
theorem ki_int_bool : kitB "int" "bool" = some false := by decide +kernel
theorem ki_int_list : kitB "int" "list" = some false := by decide +kernel
theorem ki_int_tuple : kitB "int" "tuple" = some false := by decide +kernel
theorem ki_int_dict : kitB "int" "dict" = some false := by decide +kernel
theorem ki_str_str : kitB "str" "str" = some true := by decide +kernel
theorem ki_str_int : kitB "str" "int" = some false := by decide +kernel
theorem ki_str_bool : kitB "str" "bool" = some false := by decide +kernel
theorem ki_str_list : kitB "str" "list" = some false := by decide +kernel
theorem ki_str_tuple : kitB "str" "tuple" = some false := by decide +kernel
theorem ki_str_dict : kitB "str" "dict" = some false := by decide +kernel
theorem ki_bl_str : kitB "bool" "str" = some false := by decide +kernel
theorem ki_bl_int : kitB "bool" "int" = some true := by decide +kernel
theorem ki_bl_bool : kitB "bool" "bool" = some true := by decide +kernel
theorem ki_bl_list : kitB "bool" "list" = some false := by decide +kernel
theorem ki_bl_tuple : kitB "bool" "tuple" = some false := by decide +kernel
theorem ki_bl_dict : kitB "bool" "dict" = some false := by decide +kernel
theorem ki_non_str : kitB "NoneType" "str" = some false := by decide +kernel
theorem ki_non_int : kitB "NoneType" "int" = some false := by decide +kernel
theorem ki_non_bool : kitB "NoneType" "bool" = some false := by decide +kernel
theorem ki_non_list : kitB "NoneType" "list" = some false := by decide +kernel
theorem ki_non_tuple : kitB "NoneType" "tuple" = some false := by decide +kernel
theorem ki_non_dict : kitB "NoneType" "dict" = some false := by decide +kernel
theorem ki_lst_str : kitB "list" "str" = some false := by decide +kernel
theorem ki_lst_int : kitB "list" "int" = some false := by decide +kernel
theorem ki_lst_bool : kitB "list" "bool" = some false := by decide +kernel
theorem ki_lst_list : kitB "list" "list" = some true := by decide +kernel
theorem ki_lst_tuple : kitB "list" "tuple" = some false := by decide +kernel
theorem ki_lst_dict : kitB "list" "dict" = some false := by decide +kernel
theorem ki_tup_str : kitB "tuple" "str" = some false := by decide +kernel
theorem ki_tup_int : kitB "tuple" "int" = some false := by decide +kernel
theorem ki_tup_bool : kitB "tuple" "bool" = some false := by decide +kernel
theorem ki_tup_list : kitB "tuple" "list" = some false := by decide +kernel
theorem ki_tup_tuple : kitB "tuple" "tuple" = some true := by decide +kernel
theorem ki_tup_dict : kitB "tuple" "dict" = some false := by decide +kernel
theorem ki_dK_str : kitB "dict" "str" = some false := by decide +kernel
theorem ki_dK_int : kitB "dict" "int" = some false := by decide +kernel
theorem ki_dK_bool : kitB "dict" "bool" = some false := by decide +kernel
theorem ki_dK_list : kitB "dict" "list" = some false := by decide +kernel
theorem ki_dK_tuple : kitB "dict" "tuple" = some false := by decide +kernel
theorem ki_dK_dict : kitB "dict" "dict" = some true := by decide +kernel
/-- the generator of a law's numbers: at b a list of three numbers, the last at most n -/
def bagO (x y z : Int) : HO := .lst [.int x, .int y, .int z]
structure BagOk (n : Nat) (x y z : Int) : Prop where
  x0 : 0 ≤ x
  y0 : 0 ≤ y
  y1 : y < 2147483648
  z0 : 0 ≤ z
  z1 : z ≤ (n : Int)
theorem BagOk.mono {n m : Nat} {x y z : Int} (h : BagOk n x y z) (e : n ≤ m) : BagOk m x y z := ⟨h.x0, h.y0, h.y1, h.z0, by have := h.z1; omega⟩
/-- take(bag, k): a number below k; the bag is changed, by one count at the most -/
def spTake : Sp := fun vs H Q _ => ∃ (b : Addr) (k : Int) (n : Nat) (x y z : Int), vs = [.ref b, .int k] ∧ H b = some (bagO x y z) ∧ BagOk n x y z ∧ n < 1000000 ∧ 0 < k ∧ k < 1073741824 ∧
  ∀ (d x' y' z' : Int) (H' : Hp), 0 ≤ d → d < k → BagOk (n + 1) x' y' z' → Keep [b] H H' → H' b = some (bagO x' y' z') → Q (.int d) H'
theorem atI_in {α : Type} {xs : List α} {d : Int} (h0 : 0 ≤ d) (h1 : d < (xs.length : Int)) : ∃ v, atI xs d = some v ∧ v ∈ xs := by
  obtain ⟨k, rfl⟩ := Int.eq_ofNat_of_zero_le h0
  have hk : k < xs.length := by omega
  exact ⟨xs[k], atI_nat (List.getElem?_eq_getElem hk), List.getElem_mem hk⟩
theorem size_ok {n : Nat} (h : n ≤ 1000000) : n < sizeLine := Nat.lt_of_le_of_lt h (by decide)
theorem size_le {n : Nat} (h : n ≤ 1000000) : n ≤ sizeLine := Nat.le_of_lt (size_ok h)
/-! ### texts by their codes -/
theorem len_app (x y : Str) : (x ++ y).length = x.length + y.length := by rw [len_tl, len_tl, len_tl, tl_append, List.length_append]
theorem joinL_nil : ∀ ps : List (List Nat), joinL [] ps = ps.flatten
  | [] => rfl
  | [p] => by simp [joinL]
  | p :: q :: r => by
    have ih := joinL_nil (q :: r)
    show p ++ ([] ++ joinL [] (q :: r)) = _
    rw [ih]
    simp
theorem tl_joinE (ss : List Str) : tl (Txt.join (Str.ofString "") ss) = (ss.map tl).flatten := by
  rw [join_eq, tl_join, show tl (Str.ofString "") = [] by decide +kernel, joinL_nil]
theorem sum_one : ∀ {ss : List Str}, (∀ s ∈ ss, s.length = 1) → (ss.map (·.length)).sum = ss.length
  | [], _ => rfl
  | s :: r, h => by
    rw [List.map_cons, List.sum_cons, sum_one fun t ht => h t (List.mem_cons_of_mem _ ht), h s List.mem_cons_self, List.length_cons]
    omega
theorem flat_one : ∀ {ss : List Str}, (∀ s ∈ ss, s.length = 1) → (ss.map tl).flatten.length = ss.length
  | [], _ => rfl
  | s :: r, h => by
    have h1 := h s List.mem_cons_self
    rw [len_tl] at h1
    rw [List.map_cons, List.flatten_cons, List.length_append, flat_one fun t ht => h t (List.mem_cons_of_mem _ ht), List.length_cons, h1]
    omega
theorem join_one {ss : List Str} (h : ∀ s ∈ ss, s.length = 1) : (Txt.join (Str.ofString "") ss).length = ss.length := by rw [len_tl, tl_joinE, flat_one h]
theorem tl_cutS (z : Str) (lo hi : Option Int) : tl (cutS z lo hi) = ((tl z).drop (HT.sIx z.length 0 lo)).take (HT.sIx z.length z.length hi - HT.sIx z.length 0 lo) := rfl
theorem cutS_len (z : Str) (lo hi : Option Int) : (cutS z lo hi).length ≤ z.length := by
  rw [len_tl, tl_cutS, List.length_take, List.length_drop, len_tl z]
  omega
theorem starts_one (x : Str) (c : Nat) : Txt.startswith x ⟨#[c]⟩ = true ↔ (tl x)[0]? = some c := by
  unfold Txt.startswith
  rw [Bool.and_eq_true, decide_eq_true_eq]
  exact PySem.StrLaws.subAt_one x c 0
/-! ### texts of plain signs -/
def Asc (s : Str) : Prop := ∀ c ∈ tl s, c < 128
theorem Asc.app {x y : Str} (a : Asc x) (b : Asc y) : Asc (x ++ y) := fun c hc => by
  rw [tl_append] at hc
  rcases List.mem_append.mp hc with h | h
  · exact a c h
  · exact b c h
theorem Asc.cut {x : Str} (a : Asc x) (lo hi : Option Int) : Asc (cutS x lo hi) := fun c hc => a c (List.mem_of_mem_drop (List.mem_of_mem_take (by rw [tl_cutS] at hc; exact hc)))
theorem Asc.one {c : Nat} (h : c < 128) : Asc ⟨#[c]⟩ := fun d hd => by
  have : d = c := by simpa using hd
  omega
theorem Asc.of {x : Str} (h : (tl x).all (fun c => decide (c < 128)) = true) : Asc x := fun c hc => by simpa using List.all_eq_true.mp h c hc
theorem Asc.joined {S : List Nat} : ∀ {ps : List (List Nat)}, (∀ c ∈ S, c < 128) → (∀ p ∈ ps, ∀ c ∈ p, c < 128) → ∀ c ∈ joinL S ps, c < 128
  | [], _, _, c, h => by simp [joinL] at h
  | [p], _, hp, c, h => hp p List.mem_cons_self c h
  | p :: q :: r, hS, hp, c, h => by
    rcases List.mem_append.mp (show c ∈ p ++ (S ++ joinL S (q :: r)) from h) with h | h
    · exact hp p List.mem_cons_self c h
    · rcases List.mem_append.mp h with h | h
      · exact hS c h
      · exact Asc.joined hS (fun t ht => hp t (List.mem_cons_of_mem _ ht)) c h
theorem Asc.join {y : Str} {ss : List Str} (a : Asc y) (h : ∀ s ∈ ss, Asc s) : Asc (Txt.join y ss) := by
  unfold Asc
  rw [join_eq, tl_join]
  refine Asc.joined a fun p hp => ?_
  obtain ⟨s, hs, rfl⟩ := List.mem_map.mp hp
  exact h s hs
theorem joinL_len (S : List Nat) : ∀ (ps : List (List Nat)), (joinL S ps).length ≤ (ps.map (·.length)).sum + ps.length * S.length
  | [] => by simp [joinL]
  | [p] => by simp [joinL]
  | p :: q :: r => by
    have ih := joinL_len S (q :: r)
    show (p ++ (S ++ joinL S (q :: r))).length ≤ _
    rw [List.length_append, List.length_append, List.map_cons, List.sum_cons, List.length_cons, Nat.add_one_mul]
    omega
theorem join_len (y : Str) (ss : List Str) : (Txt.join y ss).length ≤ (ss.map (·.length)).sum + ss.length * y.length := by
  have h := joinL_len (tl y) (ss.map tl)
  rw [join_eq, len_tl, tl_join, len_tl y]
  rw [List.length_map, List.map_map] at h
  rw [show ss.map (fun x => x.length) = ss.map ((fun x => x.length) ∘ tl) from List.map_congr_left fun s _ => len_tl s]
  exact h
theorem sum_le {ss : List Str} {k : Nat} (h : ∀ s ∈ ss, s.length ≤ k) : (ss.map (·.length)).sum ≤ ss.length * k := by
  induction ss with
  | nil => simp
  | cons s r ih =>
    rw [List.map_cons, List.sum_cons, List.length_cons, Nat.add_one_mul]
    have h1 := h s List.mem_cons_self
    have h2 := ih fun t ht => h t (List.mem_cons_of_mem _ ht)
    omega
theorem str_ok {s : Str} (a : Asc s) : PyData.strOk s = true := by
  unfold PyData.strOk
  rw [show s.cps.all (fun x => decide (x < 0x110000)) = (tl s).all (fun x => decide (x < 0x110000)) by simp]
  exact List.all_eq_true.mpr fun c hc => decide_eq_true (Nat.lt_trans (a c hc) (by decide))
def dStrs (ws : List Str) : PyData := .list (ws.map .str)
theorem lay_strs : ∀ {ws : List Str}, (∀ s ∈ ws, Asc s) → PyData.canLayAll0 (ws.map .str) = true
  | [], _ => rfl
  | s :: r, h => by
    rw [List.map_cons, PyData.canLayAll0, PyData.canLay0, str_ok (h s List.mem_cons_self), lay_strs fun t ht => h t (List.mem_cons_of_mem _ ht)]
    rfl
theorem depth_strs : ∀ ws : List Str, PyData.depthAll (ws.map .str) = 0
  | [] => rfl
  | s :: r => by rw [List.map_cons, PyData.depthAll, PyData.depth, depth_strs r]; rfl
theorem shaped_strs {ws : List Str} (h : ∀ s ∈ ws, Asc s) : SeqAt.shaped (dStrs ws) = true := by
  unfold SeqAt.shaped dStrs
  rw [PyData.canLay0, lay_strs h, PyData.depth, depth_strs]
  rfl
theorem dpAll_strs {K : PySem.W.Frag} {H : Hp} : ∀ ws : List Str, DpAll K H (ws.map V.str) (ws.map .str)
  | [] => .nil
  | s :: r => .cons (.str s) (dpAll_strs r)
theorem dp_strs {K : PySem.W.Frag} {H : Hp} {a : Addr} {ws : List Str} (h : SqL K H a (ws.map V.str)) : Dp K H (.ref a) (dStrs ws) := .lst h (dpAll_strs ws)
theorem eqv_strs : ∀ ws : List Str, PyData.eqvAll (ws.map .str) (ws.map .str) = true
  | [] => rfl
  | s :: r => by rw [List.map_cons, PyData.eqvAll, eqv_strs r, PyData.eqv]; simp
theorem eqv_dstrs (ws : List Str) : PyData.eqv (dStrs ws) (dStrs ws) = true := by
  unfold dStrs
  rw [PyData.eqv, eqv_strs]
theorem in_strs (x : Str) : ∀ ws : List Str, inV (.str x) (ws.map V.str) = decide (x ∈ ws)
  | [] => rfl
  | s :: r => by
    have ih := in_strs x r
    unfold inV at ih ⊢
    rw [List.map_cons, List.any_cons, ih]
    show ((s == x) || decide (x ∈ r)) = _
    by_cases h : s = x
    · subst h; simp
    · simp [h, Ne.symm h]
theorem flat_strs (ws : List Str) : (ws.map V.str).all flatV = true := by
  rw [List.all_map]
  exact List.all_eq_true.mpr fun _ _ => rfl
/-- keywords at a call of a def without defaults -/
theorem kbF {K : PySem.W.Frag} {x qual : Str} {st : Stmt} {f : Addr} {fd : FuncData} {ps : List Str} (F : Fun K x qual st f fd) (n : Nat) (ks : List Str) (g : {α : Type} → List α → List α → List α)
    (hrel : ∀ {vs zs : List V} {us ws : List Value}, Vals vs us → Vals zs ws → Vals (g vs zs) (g us ws))
    (h : ∀ (kV doc pm : Value) (an : Option Addr) (cdv ct : Value) (us ws : List Value), us.length = n → ws.length = ks.length →
      bindArgs (PySem.W.fnOf x qual (defArgs st) (defBody st) (defScope st) .none kV doc pm an cdv ct) ⟨us, ks.zip ws⟩ = pure (ps.zip (g us ws))) : KBn K fd ps n ks (fun us ws => g us ws) (fun vs zs => g vs zs) := by
  obtain ⟨oc, od, kV, doc, pm, an, cdv, ct, osl, rfl, lk, hcd⟩ := F.ex
  exact ⟨fun s us ws X l1 l2 => .of_eq (h kV doc pm an cdv ct us ws l1 l2), fun r1 r2 => hrel r1 r2⟩
/-- isinstance(x, (a, b)) -/
theorem kit2 {K : PySem.W.Frag} {t a b : String} {r1 r2 : Bool} (h1 : kitB t a = some r1) (h2 : kitB t b = some r2) : PySem.W.kitAny K (.type t) [.type a, .type b] = some (r1 || r2) := by
  refine kitAny_cons (kit_ty h1) (fun e => ?_) (fun e => by rw [e]; rfl)
  subst e
  refine kitAny_cons (kit_ty h2) (fun e => by rw [e]; rfl) (fun e => by rw [e]; rfl)
theorem eqv_nil : ∀ ws : List Str, PyData.eqv (dStrs ws) (dStrs []) = decide (ws = [])
  | [] => rfl
  | s :: r => rfl
/-! ### signs as texts -/
def sg (l : List Nat) : List Str := l.map fun d => ⟨#[d]⟩
theorem sg_one {l : List Nat} : ∀ s ∈ sg l, s.length = 1 := fun s hs => by
  obtain ⟨d, _, rfl⟩ := List.mem_map.mp hs
  rfl
theorem sg_len (l : List Nat) : (sg l).length = l.length := List.length_map _
theorem sg_asc {l : List Nat} (h : ∀ c ∈ l, c < 128) : ∀ s ∈ sg l, Asc s := fun s hs => by
  obtain ⟨d, hd, rfl⟩ := List.mem_map.mp hs
  exact Asc.one (h d hd)
theorem tl_join_sg : ∀ l : List Nat, ((sg l).map tl).flatten = l
  | [] => rfl
  | c :: r => by
    have ih := tl_join_sg r
    show ([c] ++ ((sg r).map tl).flatten) = c :: r
    rw [ih]
    rfl
theorem sg_app (l : List Nat) (c : Nat) : (sg (l ++ [c])).map V.str = (sg l).map V.str ++ [.str ⟨#[c]⟩] := by
  unfold sg
  rw [List.map_append, List.map_append]
  rfl
theorem chr_inj {c d : Nat} (h : (⟨#[c]⟩ : Str) = ⟨#[d]⟩) : c = d := by
  have := congrArg tl h
  simpa using this
theorem ifC {A B : Prop} {c d : Nat} (h1 : c = d → A) (h2 : c ≠ d → B) : if decide (V.str ⟨#[c]⟩ = V.str ⟨#[d]⟩) = true then A else B := ifVS (fun h => h1 (chr_inj h)) fun h => h2 fun e => h (by rw [e])
theorem ifCn {A B : Prop} {c d : Nat} (h1 : c ≠ d → A) (h2 : c = d → B) : if (!decide (V.str ⟨#[c]⟩ = V.str ⟨#[d]⟩)) = true then A else B := ifVSn (fun h => h1 fun e => h (by rw [e])) fun h => h2 (chr_inj h)
theorem filt_in {pre : List Nat} {c d : Nat} (h : d ≠ c) : (pre ++ [d]).filter (fun x => decide (x ≠ c)) = pre.filter (fun x => decide (x ≠ c)) ++ [d] := by
  rw [List.filter_append, List.filter_cons, if_pos (by simpa using h)]
  rfl
theorem filt_out {pre : List Nat} {c d : Nat} (h : d = c) : (pre ++ [d]).filter (fun x => decide (x ≠ c)) = pre.filter (fun x => decide (x ≠ c)) := by
  rw [List.filter_append, List.filter_cons, if_neg (by simpa using h)]
  simp
theorem filt_asc {l : List Nat} {p : Nat → Bool} (h : ∀ c ∈ l, c < 128) : ∀ c ∈ l.filter p, c < 128 := fun c hc => h c (List.mem_filter.mp hc).1
theorem tl_joined_sg (l : List Nat) : tl (Txt.join (Str.ofString "") (sg l)) = l := by rw [tl_joinE, tl_join_sg]
/-! ### a text split at a sign -/
theorem split_tl (s : Str) {c : Nat} (h : c < 256) : (Txt.split s ⟨#[c]⟩).map tl = spl [c] 0 [] (tl s) := split_spl s ⟨#[c]⟩ (by simp) (kind_ok (by simpa using h))
theorem spl_asc : ∀ (l acc : List Nat) (c : Nat), (∀ d ∈ l, d < 128) → (∀ d ∈ acc, d < 128) → ∀ p ∈ spl [c] 0 acc l, ∀ d ∈ p, d < 128
  | [], acc, c, _, ha, p, hp, d, hd => by
    rw [spl_nil] at hp
    rw [List.mem_singleton.mp hp] at hd
    exact ha d hd
  | x :: r, acc, c, hl, ha, p, hp, d, hd => by
    have hr : ∀ d ∈ r, d < 128 := fun d h => hl d (List.mem_cons_of_mem _ h)
    by_cases e : pre [c] (x :: r) = true
    · rw [spl_hit e] at hp
      rcases List.mem_cons.mp hp with rfl | hp
      · exact ha d hd
      · exact spl_asc r [] c hr (fun _ h => by simp at h) p hp d hd
    · rw [spl_miss (by simpa using e)] at hp
      refine spl_asc r (acc ++ [x]) c hr (fun d h => ?_) p hp d hd
      rcases List.mem_append.mp h with h | h
      · exact ha d h
      · rw [List.mem_singleton.mp h]; exact hl x List.mem_cons_self
theorem split_asc {s : Str} {c : Nat} (h : c < 256) (a : Asc s) : ∀ w ∈ Txt.split s ⟨#[c]⟩, Asc w := fun w hw => by
  have : tl w ∈ (Txt.split s ⟨#[c]⟩).map tl := List.mem_map_of_mem hw
  rw [split_tl s h] at this
  exact spl_asc (tl s) [] c a (fun _ h => by simp at h) _ this
theorem spl_len : ∀ (l acc : List Nat) (c : Nat), (spl [c] 0 acc l).length ≤ l.length + 1
  | [], acc, c => by rw [spl_nil]; simp
  | x :: r, acc, c => by
    by_cases e : pre [c] (x :: r) = true
    · rw [spl_hit e, List.length_cons, List.length_cons]
      have := spl_len r [] c
      exact Nat.succ_le_succ this
    · rw [spl_miss (by simpa using e), List.length_cons]
      have := spl_len r (acc ++ [x]) c
      omega
theorem split_len {s : Str} {c : Nat} (h : c < 256) : (Txt.split s ⟨#[c]⟩).length ≤ s.length + 1 := by
  have := spl_len (tl s) [] c
  rw [← split_tl s h, List.length_map] at this
  rw [len_tl]
  exact this
theorem pre_one {c x : Nat} {r : List Nat} : pre [c] (x :: r) = decide (x = c) := by
  unfold pre
  by_cases h : x = c <;> simp [h]
/-! ### text * number -/
theorem op_mul_str {X : Cx} : OpR X (binaryOp .Mult) (fun x y H Q => ∃ i j, x = .str i ∧ y = .int j ∧ (0 ≤ j ∧ j ≤ 10000 ∧ i.length ≤ 1000) ∧ Q (.str (Txt.mul i j)) H) := fun pins s σ H x y v u Q I rx ry h => by
  obtain ⟨i, j, rfl, rfl, ⟨h0, h1, h2⟩, q⟩ := h
  obtain ⟨t, rfl⟩ := rx
  obtain ⟨t', rfl⟩ := ry
  refine SB.mul ⟨?_, fun h3 h4 => ?_, fun h3 h4 => ?_⟩ fun t' k => ⟨.str (Txt.mul i j), H, I.tok _, ⟨_, rfl⟩, q⟩
  · simp
    omega
  · have h5 : (i.length : Int) * j ≤ 1000 * 10000 := Int.mul_le_mul (by omega) h1 h0 (by decide)
    have h6 : (i.length : Int) ≤ (2 ^ 63 - 1) / j := Int.le_ediv_of_mul_le (by omega) (by omega)
    omega
  · have h5 : i.length * j.toNat ≤ 1000 * 10000 := Nat.mul_le_mul h2 (by omega)
    have h6 : i.length * j.toNat ≤ sizeLine := Nat.le_trans h5 (by decide)
    unfold Builtin.Str.tooLong
    exact decide_eq_false (by omega)
theorem fold_cps (a : Array Nat) : ∀ (k : Nat) (acc : Array Nat), ((List.replicate k a).foldl (fun x y => x ++ y) acc).toList = acc.toList ++ (List.replicate k a.toList).flatten
  | 0, acc => by simp
  | k + 1, acc => by
    rw [List.replicate_succ, List.foldl_cons, fold_cps a k, List.replicate_succ, List.flatten_cons, Array.toList_append, List.append_assoc]
theorem flat_nil : ∀ k : Nat, (List.replicate k ([] : List Nat)).flatten = []
  | 0 => rfl
  | k + 1 => by rw [List.replicate_succ, List.flatten_cons, flat_nil k]; rfl
theorem tl_mul (x : Str) (n : Int) : tl (Txt.mul x n) = (List.replicate n.toNat (tl x)).flatten := by
  unfold Txt.mul
  split
  · rename_i h
    rw [show n.toNat = 0 by omega]
    rfl
  · split
    · rename_i h1 h2
      rcases Bool.or_eq_true_iff.mp h2 with h | h
      · have : n = 1 := by simpa using h
        subst this
        simp
      · have h3 : x.length = 0 := by simpa using h
        rw [len_tl] at h3
        rw [List.length_eq_zero_iff.mp h3, flat_nil]
    · show ((List.replicate n.toNat x.cps).foldl (fun x y => x ++ y) #[]).toList = _
      rw [fold_cps]
      rfl
theorem mul_len (x : Str) (n : Int) : (Txt.mul x n).length = x.length * n.toNat := by
  rw [len_tl, tl_mul, List.length_flatten, List.map_replicate, List.sum_replicate_nat, len_tl, Nat.mul_comm]
theorem Asc.mul {x : Str} (a : Asc x) (n : Int) : Asc (Txt.mul x n) := fun c hc => by
  rw [tl_mul] at hc
  obtain ⟨l, hl, hc⟩ := List.mem_flatten.mp hc
  rw [List.eq_of_mem_replicate hl] at hc
  exact a c hc
/-! ### loops by what is behind -/
section
variable {g : TG} {tb : TS} {D : Ends} {σ : L2.St} {H : Hp}
theorem for_str {s : Str} (Pv : List Nat → L2.St → Hp → Prop) (h0 : Pv [] σ H)
    (hs : ∀ pre c post σ H, tl s = pre ++ c :: post → Pv pre σ H → g (.str ⟨#[c]⟩) σ H fun σ2 H2 => tb { D with nx := Pv (pre ++ [c]), ct := Pv (pre ++ [c]), bk := D.nx } σ2 H2) (hd : ∀ σ H, Pv (tl s) σ H → D.nx σ H) :
    ∃ W : Nat → Nat → L2.St → Hp → Prop, (∃ m, W 0 m σ H) ∧ ∀ i m σ H, W i m σ H →
      ((Its s).stop i H ∧ D.nx σ H) ∨ ((Its s).go i H ∧ ∃ N : L2.St → Hp → Prop, (∀ σ' H', N σ' H' → ∃ m', m' < m ∧ W (i + 1) m' σ' H') ∧ ∀ x H', (Its s).yld i H x H' → g x σ H' fun σ2 H2 => tb { D with nx := N, ct := N, bk := D.nx } σ2 H2) := by
  have hsz : s.cps.size = (tl s).length := by simp
  refine for_it walk_str (fun i σ H => Pv ((tl s).take i) σ H) (by simpa using h0) (fun _ _ _ _ _ => True.intro) ?_ (fun σ H p => hd σ H (by rw [hsz, List.take_length] at p; exact p))
  rintro i x σ H H' hi p ⟨rfl, c, hc, rfl⟩
  have hc' : (tl s)[i]? = some c := by simpa using hc
  have hl : i < (tl s).length := by omega
  have e : tl s = (tl s).take i ++ c :: (tl s).drop (i + 1) := by
    have h2 : (tl s)[i] = c := by rw [List.getElem?_eq_getElem hl] at hc'; exact Option.some.inj hc'
    rw [← h2, ← List.drop_eq_getElem_cons hl, List.take_append_drop]
  have e2 : (tl s).take (i + 1) = (tl s).take i ++ [c] := by rw [List.take_add_one, hc']; rfl
  rw [e2]
  exact hs _ c _ σ _ e p
theorem for_rg {lo : Int} {n : Nat} (Pv : Nat → L2.St → Hp → Prop) (h0 : Pv 0 σ H)
    (hs : ∀ i σ H, i < n → Pv i σ H → g (.int (lo + i)) σ H fun σ2 H2 => tb { D with nx := Pv (i + 1), ct := Pv (i + 1), bk := D.nx } σ2 H2) (hd : ∀ σ H, Pv n σ H → D.nx σ H) :
    ∃ W : Nat → Nat → L2.St → Hp → Prop, (∃ m, W 0 m σ H) ∧ ∀ i m σ H, W i m σ H →
      ((Itr lo n).stop i H ∧ D.nx σ H) ∨ ((Itr lo n).go i H ∧ ∃ N : L2.St → Hp → Prop, (∀ σ' H', N σ' H' → ∃ m', m' < m ∧ W (i + 1) m' σ' H') ∧ ∀ x H', (Itr lo n).yld i H x H' → g x σ H' fun σ2 H2 => tb { D with nx := N, ct := N, bk := D.nx } σ2 H2) := for_range Pv h0 hs hd
theorem for_li {K : PySem.W.Frag} {a : Addr} {xs : List V} (Pv : List V → L2.St → Hp → Prop) (h0 : Pv [] σ H) (hl : ∀ pre post σ H, xs = pre ++ post → Pv pre σ H → SqL K H a xs)
    (hs : ∀ pre x post σ H, xs = pre ++ x :: post → Pv pre σ H → g x σ H fun σ2 H2 => tb { D with nx := Pv (pre ++ [x]), ct := Pv (pre ++ [x]), bk := D.nx } σ2 H2) (hd : ∀ σ H, Pv xs σ H → D.nx σ H) :
    ∃ W : Nat → Nat → L2.St → Hp → Prop, (∃ m, W 0 m σ H) ∧ ∀ i m σ H, W i m σ H →
      ((Itl K a).stop i H ∧ D.nx σ H) ∨ ((Itl K a).go i H ∧ ∃ N : L2.St → Hp → Prop, (∀ σ' H', N σ' H' → ∃ m', m' < m ∧ W (i + 1) m' σ' H') ∧ ∀ x H', (Itl K a).yld i H x H' → g x σ H' fun σ2 H2 => tb { D with nx := N, ct := N, bk := D.nx } σ2 H2) := by
  refine for_it (walk_list (xs := xs)) (fun i σ H => Pv (xs.take i) σ H) (by simpa using h0) (fun i σ H _ p => hl (xs.take i) (xs.drop i) σ H (List.take_append_drop i xs).symm p) ?_ (fun σ H p => hd σ H (by rw [List.take_length] at p; exact p))
  rintro i x σ H H' hi p ⟨rfl, hc⟩
  have e : xs = xs.take i ++ x :: xs.drop (i + 1) := by
    have h2 : xs[i] = x := by rw [List.getElem?_eq_getElem hi] at hc; exact Option.some.inj hc
    rw [← h2, ← List.drop_eq_getElem_cons hi, List.take_append_drop]
  have e2 : xs.take (i + 1) = xs.take i ++ [x] := by rw [List.take_add_one, hc]; rfl
  rw [e2]
  exact hs _ x _ σ _ e p
end
section
variable {g : TG} {tt : TT} {te : TE} {vs : List Nat} {σ : L2.St} {H1 : Hp} {D : Addr} {Qd : Hp → Prop}
theorem lc_rg {lo : Int} {n : Nat} (Pv : Nat → Hp → Prop) (h0 : Pv 0 (upd H1 D (.lst [])))
    (hs : ∀ i H, i < n → Pv i H → g (.int (lo + i)) (wipe σ vs) H fun σ2 H2 => wipe σ2 vs = wipe σ vs ∧ tt σ2 H2 fun b H3 =>
      if b = true then te σ2 H3 fun y H4 => ∃ acc, H4 D = some (.lst acc) ∧ acc.length < sizeLine ∧ Pv (i + 1) (upd H4 D (.lst (acc ++ [y]))) else Pv (i + 1) H3) (hd : ∀ H, Pv n H → Qd H) :
    ∃ W : Nat → Nat → Hp → Prop, (∃ m, W 0 m (upd H1 D (.lst []))) ∧ ∀ i m H, W i m H →
      ((Itr lo n).stop i H ∧ Qd H) ∨ ((Itr lo n).go i H ∧ ∃ Nx : Hp → Prop, (∀ H', Nx H' → ∃ m', m' < m ∧ W (i + 1) m' H') ∧ ∀ x H', (Itr lo n).yld i H x H' → g x (wipe σ vs) H' fun σ2 H2 => wipe σ2 vs = wipe σ vs ∧ tt σ2 H2 fun b H3 =>
        if b = true then te σ2 H3 fun y H4 => ∃ acc, H4 D = some (.lst acc) ∧ acc.length < sizeLine ∧ Nx (upd H4 D (.lst (acc ++ [y]))) else Nx H3) := lc_range Pv h0 hs hd
theorem lc_str {s : Str} (Pv : List Nat → Hp → Prop) (h0 : Pv [] (upd H1 D (.lst [])))
    (hs : ∀ pre c post H, tl s = pre ++ c :: post → Pv pre H → g (.str ⟨#[c]⟩) (wipe σ vs) H fun σ2 H2 => wipe σ2 vs = wipe σ vs ∧ tt σ2 H2 fun b H3 =>
      if b = true then te σ2 H3 fun y H4 => ∃ acc, H4 D = some (.lst acc) ∧ acc.length < sizeLine ∧ Pv (pre ++ [c]) (upd H4 D (.lst (acc ++ [y]))) else Pv (pre ++ [c]) H3) (hd : ∀ H, Pv (tl s) H → Qd H) :
    ∃ W : Nat → Nat → Hp → Prop, (∃ m, W 0 m (upd H1 D (.lst []))) ∧ ∀ i m H, W i m H →
      ((Its s).stop i H ∧ Qd H) ∨ ((Its s).go i H ∧ ∃ Nx : Hp → Prop, (∀ H', Nx H' → ∃ m', m' < m ∧ W (i + 1) m' H') ∧ ∀ x H', (Its s).yld i H x H' → g x (wipe σ vs) H' fun σ2 H2 => wipe σ2 vs = wipe σ vs ∧ tt σ2 H2 fun b H3 =>
        if b = true then te σ2 H3 fun y H4 => ∃ acc, H4 D = some (.lst acc) ∧ acc.length < sizeLine ∧ Nx (upd H4 D (.lst (acc ++ [y]))) else Nx H3) := by
  have hsz : s.cps.size = (tl s).length := by simp
  refine lc_it walk_str (fun i H => Pv ((tl s).take i) H) (by simpa using h0) (fun _ _ _ _ => True.intro) ?_ (fun H p => hd H (by rw [hsz, List.take_length] at p; exact p))
  rintro i x H H' hi p ⟨rfl, c, hc, rfl⟩
  have hc' : (tl s)[i]? = some c := by simpa using hc
  have hl : i < (tl s).length := by omega
  have e : tl s = (tl s).take i ++ c :: (tl s).drop (i + 1) := by
    have h2 : (tl s)[i] = c := by rw [List.getElem?_eq_getElem hl] at hc'; exact Option.some.inj hc'
    rw [← h2, ← List.drop_eq_getElem_cons hl, List.take_append_drop]
  have e2 : (tl s).take (i + 1) = (tl s).take i ++ [c] := by rw [List.take_add_one, hc']; rfl
  rw [e2]
  exact hs _ c _ _ e p
theorem lc_li {K : PySem.W.Frag} {a : Addr} {xs : List V} (Pv : List V → Hp → Prop) (h0 : Pv [] (upd H1 D (.lst []))) (hl : ∀ pre post H, xs = pre ++ post → Pv pre H → SqL K H a xs)
    (hs : ∀ pre x post H, xs = pre ++ x :: post → Pv pre H → g x (wipe σ vs) H fun σ2 H2 => wipe σ2 vs = wipe σ vs ∧ tt σ2 H2 fun b H3 =>
      if b = true then te σ2 H3 fun y H4 => ∃ acc, H4 D = some (.lst acc) ∧ acc.length < sizeLine ∧ Pv (pre ++ [x]) (upd H4 D (.lst (acc ++ [y]))) else Pv (pre ++ [x]) H3) (hd : ∀ H, Pv xs H → Qd H) :
    ∃ W : Nat → Nat → Hp → Prop, (∃ m, W 0 m (upd H1 D (.lst []))) ∧ ∀ i m H, W i m H →
      ((Itl K a).stop i H ∧ Qd H) ∨ ((Itl K a).go i H ∧ ∃ Nx : Hp → Prop, (∀ H', Nx H' → ∃ m', m' < m ∧ W (i + 1) m' H') ∧ ∀ x H', (Itl K a).yld i H x H' → g x (wipe σ vs) H' fun σ2 H2 => wipe σ2 vs = wipe σ vs ∧ tt σ2 H2 fun b H3 =>
        if b = true then te σ2 H3 fun y H4 => ∃ acc, H4 D = some (.lst acc) ∧ acc.length < sizeLine ∧ Nx (upd H4 D (.lst (acc ++ [y]))) else Nx H3) := by
  refine lc_it (walk_list (xs := xs)) (fun i H => Pv (xs.take i) H) (by simpa using h0) (fun i H _ p => hl (xs.take i) (xs.drop i) H (List.take_append_drop i xs).symm p) ?_ (fun H p => hd H (by rw [List.take_length] at p; exact p))
  rintro i x H H' hi p ⟨rfl, hc⟩
  have e : xs = xs.take i ++ x :: xs.drop (i + 1) := by
    have h2 : xs[i] = x := by rw [List.getElem?_eq_getElem hi] at hc; exact Option.some.inj hc
    rw [← h2, ← List.drop_eq_getElem_cons hi, List.take_append_drop]
  have e2 : xs.take (i + 1) = xs.take i ++ [x] := by rw [List.take_add_one, hc]; rfl
  rw [e2]
  exact hs _ x _ _ e p
end
end FR
set_option Elab.async false
set_option linter.all false
set_option maxRecDepth 100000
/-! names and paths; defs with a star parameter -/
namespace FR
open PySem PySem.Spec PyProof.Rows L2 TL
theorem Keep.trans {M : List Addr} {H H1 H2 : Hp} (a : Keep M H H1) (b : Keep M H1 H2) : Keep M H H2 := fun p o e hp => b p o (a p o e hp) hp
theorem Keep.nil {M : List Addr} {H H1 : Hp} (a : Keep [] H H1) : Keep M H H1 := fun p o e _ => a p o e (by simp)
theorem Ow.sel {H0 H : Hp} {M : List Addr} {L L' : List (Addr × HO)} (W : Ow H0 M H L) (h : L'.Sublist L) : Ow H0 M H L' := ⟨W.keep, fun p hp => W.has p (h.subset hp), (h.map _).nodup W.nd, fun p hp => W.fr p (h.subset hp)⟩
theorem Ow.fresh {H0 H : Hp} {M : List Addr} {L : List (Addr × HO)} {p : Addr} {o : HO} (W : Ow H0 M H ((p, o) :: L)) (h : ∀ x ∈ M, x ∈ L.map (·.1)) : H0 p = none := by
  rcases W.fr _ List.mem_cons_self with r | r
  · exact r
  · exact absurd (h _ r) (List.nodup_cons.mp W.nd).1
theorem Ow.anyN {H0 H H' : Hp} {M : List Addr} {L : List (Addr × HO)} {a p : Addr} {o o' o2 : HO} (W : Ow H0 M H L) (i : Nat) (e : L[i]? = some (a, o)) (k : Keep [a] H H') (h : H' a = some o') (hp : H p = none) (h2 : H' p = some o2) : Ow H0 M H' ((p, o2) :: L.set i (a, o')) where
  keep := (W.any1 i e k h).keep
  has := fun q hq => by
    rcases List.mem_cons.mp hq with rfl | hq
    · exact h2
    · exact (W.any1 i e k h).has q hq
  nd := by
    rw [List.map_cons, List.nodup_cons, map_set_fst e]
    refine ⟨fun hm => ?_, W.nd⟩
    obtain ⟨q, hq, e⟩ := List.mem_map.mp hm
    have := W.has q hq
    rw [show q.1 = p from e, hp] at this
    cases this
  fr := fun q hq => by
    rcases List.mem_cons.mp hq with rfl | hq
    · by_cases hm : p ∈ M
      · exact .inr hm
      · cases e0 : H0 p with
        | none => exact .inl rfl
        | some u =>
          have := W.keep p u e0 hm
          rw [hp] at this
          cases this
    · exact (W.any1 i e k h).fr q hq
/-- a small letter -/
def lc (c : Nat) : Bool := decide (97 ≤ c ∧ c ≤ 122)
theorem lc_alpha : ∀ c : Fin 128, lc c.1 = true → Unicode.isAlpha c.1 = true ∧ Unicode.isLower c.1 = true ∧ (Unicode.isUpper c.1 || Unicode.isTitle c.1) = false := by decide +kernel
theorem all_tl (s : Str) (p : Nat → Bool) : s.cps.all p = (tl s).all p := by simp
theorem any_tl (s : Str) (p : Nat → Bool) : s.cps.any p = (tl s).any p := by simp
theorem isascii_asc {s : Str} (a : Asc s) : Txt.isascii s = true := by
  show s.cps.all (· < 128) = true
  rw [all_tl]
  exact List.all_eq_true.mpr fun c hc => decide_eq_true (a c hc)
/-- a name -/
structure Nm (s : Str) : Prop where
  l0 : 1 ≤ s.length
  l1 : s.length ≤ 8
  lo : ∀ c ∈ tl s, lc c = true
theorem Nm.lt {s : Str} (h : Nm s) {c : Nat} (hc : c ∈ tl s) : 97 ≤ c ∧ c ≤ 122 := of_decide_eq_true (h.lo c hc)
theorem Nm.asc {s : Str} (h : Nm s) : Asc s := fun c hc => by have := h.lt hc; omega
theorem Nm.alpha {s : Str} (h : Nm s) : Txt.isalpha s = true := by
  show (decide (s.length > 0) && s.cps.all Unicode.isAlpha) = true
  rw [all_tl, Bool.and_eq_true, decide_eq_true_eq, List.all_eq_true]
  exact ⟨h.l0, fun c hc => (lc_alpha ⟨c, h.asc c hc⟩ (h.lo c hc)).1⟩
theorem Nm.lower {s : Str} (h : Nm s) : Txt.islower s = true := by
  show (s.cps.any Unicode.isLower && !s.cps.any fun c => Unicode.isUpper c || Unicode.isTitle c) = true
  rw [any_tl, any_tl, Bool.and_eq_true, List.any_eq_true, Bool.not_eq_true', List.any_eq_false]
  refine ⟨?_, fun c hc => by have := (lc_alpha ⟨c, h.asc c hc⟩ (h.lo c hc)).2.2; simpa using this⟩
  have h0 := h.l0
  rw [len_tl] at h0
  obtain ⟨c, hc⟩ := List.exists_mem_of_length_pos h0
  exact ⟨c, hc, (lc_alpha ⟨c, h.asc c hc⟩ (h.lo c hc)).2.1⟩
theorem slash : Str.ofString "/" = ⟨#[47]⟩ := by decide +kernel
theorem tl_slash : tl (Str.ofString "/") = [47] := by decide +kernel
theorem tl_emp : tl (Str.ofString "") = [] := by decide +kernel
/-- names behind slashes -/
def flat (ns : List Str) : List Nat := (ns.map fun s => 47 :: tl s).flatten
def cat (ns : List Str) : Str := ns.foldl (fun a n => (a ++ Str.ofString "/") ++ n) (Str.ofString "")
theorem cat_app (ns : List Str) (n : Str) : cat (ns ++ [n]) = (cat ns ++ Str.ofString "/") ++ n := by
  unfold cat
  rw [List.foldl_append]
  rfl
theorem tl_catF : ∀ (ns : List Str) (a : Str), tl (ns.foldl (fun a n => (a ++ Str.ofString "/") ++ n) a) = tl a ++ flat ns
  | [], a => by simp [flat]
  | n :: r, a => by
    rw [List.foldl_cons, tl_catF r, tl_append, tl_append, tl_slash]
    simp [flat]
theorem tl_cat (ns : List Str) : tl (cat ns) = flat ns := by
  unfold cat
  rw [tl_catF, tl_emp]
  rfl
def Nms (ns : List Str) : Prop := ∀ s ∈ ns, Nm s
theorem Nms.app {a b : List Str} (ha : Nms a) (hb : Nms b) : Nms (a ++ b) := fun s h => (List.mem_append.mp h).elim (ha s) (hb s)
theorem Nms.sub {a b : List Str} (h : Nms b) (s : ∀ x ∈ a, x ∈ b) : Nms a := fun x hx => h x (s x hx)
theorem Nms.take {a : List Str} (h : Nms a) (k : Nat) : Nms (a.take k) := h.sub fun _ => List.mem_of_mem_take
theorem Nms.drop {a : List Str} (h : Nms a) (k : Nat) : Nms (a.drop k) := h.sub fun _ => List.mem_of_mem_drop
theorem Nms.dropLast {a : List Str} (h : Nms a) : Nms a.dropLast := h.sub fun _ hx => (List.dropLast_subset _) hx
theorem Nms.asc {a : List Str} (h : Nms a) : ∀ s ∈ a, Asc s := fun s hs => (h s hs).asc
theorem flat_len : ∀ {ns : List Str}, Nms ns → (flat ns).length ≤ 9 * ns.length
  | [], _ => by simp [flat]
  | n :: r, h => by
    have ih := flat_len (ns := r) fun s hs => h s (List.mem_cons_of_mem _ hs)
    have h1 := (h n List.mem_cons_self).l1
    rw [len_tl] at h1
    show ((47 :: tl n) ++ flat r).length ≤ _
    rw [List.length_append, List.length_cons, List.length_cons]
    omega
theorem cat_len {ns : List Str} (h : Nms ns) : (cat ns).length ≤ 9 * ns.length := by
  rw [len_tl, tl_cat]
  exact flat_len h
def pathOf (ns : List Str) : Str := if ns = [] then Str.ofString "/" else cat ns
theorem pathOf_nil : pathOf [] = Str.ofString "/" := rfl
theorem pathOf_ne {ns : List Str} (h : ns ≠ []) : pathOf ns = cat ns := if_neg h
theorem path_len {ns : List Str} (h : Nms ns) : (pathOf ns).length ≤ 9 * ns.length + 1 := by
  by_cases e : ns = []
  · subst e
    decide +kernel
  · rw [pathOf_ne e]
    exact Nat.le_trans (cat_len h) (by omega)
theorem flat_cons (n : Str) (r : List Str) : flat (n :: r) = 47 :: (tl n ++ flat r) := by simp [flat]
theorem path_starts (ns : List Str) : Txt.startswith (pathOf ns) (Str.ofString "/") = true := by
  rw [slash, starts_one]
  cases ns with
  | nil => decide +kernel
  | cons n r => rw [pathOf_ne (by simp), tl_cat, flat_cons]; rfl
theorem path_slash {ns : List Str} (h : Nms ns) (e : ns ≠ []) : pathOf ns ≠ Str.ofString "/" := fun he => by
  have := congrArg tl he
  rw [pathOf_ne e, tl_cat, tl_slash] at this
  cases ns with
  | nil => exact e rfl
  | cons n r =>
    rw [flat_cons] at this
    have h0 := (h n List.mem_cons_self).l0
    rw [len_tl] at h0
    have h2 := congrArg List.length this
    simp at h2
    simp [h2.1] at h0
theorem cat_emp {ns : List Str} : cat ns = Str.ofString "" ↔ ns = [] := by
  constructor
  · intro h
    cases ns with
    | nil => rfl
    | cons n r =>
      have := congrArg tl h
      rw [tl_cat, flat_cons, tl_emp] at this
      cases this
  · rintro rfl
    rfl
theorem spl_word : ∀ (l acc r : List Nat), (∀ c ∈ l, c ≠ 47) → spl [47] 0 acc (l ++ r) = spl [47] 0 (acc ++ l) r
  | [], acc, r, _ => by simp
  | c :: l, acc, r, h => by
    rw [List.cons_append, spl_miss (by rw [pre_one]; exact decide_eq_false (h c List.mem_cons_self)), spl_word l _ r fun d hd => h d (List.mem_cons_of_mem _ hd)]
    simp
theorem spl_flat : ∀ (ns : List Str) (acc : List Nat), Nms ns → spl [47] 0 acc (flat ns) = acc :: ns.map tl
  | [], acc, _ => by
    show spl [47] 0 acc [] = _
    rw [spl_nil]
    rfl
  | n :: r, acc, h => by
    have hn := h n List.mem_cons_self
    rw [flat_cons, spl_hit (by rw [pre_one]; rfl), List.map_cons]
    show acc :: spl [47] 0 [] (tl n ++ flat r) = _
    rw [spl_word _ _ _ fun c hc => by have := hn.lt hc; omega, spl_flat r _ fun s hs => h s (List.mem_cons_of_mem _ hs)]
    rfl
theorem split_path {ns : List Str} (h : Nms ns) (e : ns ≠ []) : Txt.split (pathOf ns) (Str.ofString "/") = Str.ofString "" :: ns := by
  refine map_tl_inj ?_
  rw [slash, split_tl _ (by decide), pathOf_ne e, tl_cat, spl_flat _ _ h, List.map_cons, tl_emp]
theorem flat_join : ∀ {ns : List Str}, ns ≠ [] → 47 :: joinL [47] (ns.map tl) = flat ns
  | [], h => absurd rfl h
  | [s], _ => by
    rw [flat_cons]
    show 47 :: tl s = 47 :: (tl s ++ [])
    rw [List.append_nil]
  | s :: t :: r, _ => by
    have ih := flat_join (ns := t :: r) (by simp)
    rw [flat_cons, ← ih]
    rfl
theorem join_path (ns : List Str) : Str.ofString "/" ++ Txt.join (Str.ofString "/") ns = pathOf ns := by
  refine ext_tl ?_
  rw [tl_append, join_eq, tl_join, tl_slash]
  cases ns with
  | nil => decide +kernel
  | cons n r =>
    rw [pathOf_ne (by simp), tl_cat]
    exact flat_join (by simp)
theorem names_sum {ns : List Str} (h : Nms ns) : (ns.map (·.length)).sum ≤ ns.length * 8 := sum_le fun s hs => (h s hs).l1
theorem ix_listK {X : Cx} {K : PySem.W.Frag} (h : X.K = K) : IxR X (rIxL K) := h ▸ ix_list
/-! slices -/
theorem cutV_to (xs : List V) (k : Nat) : cutV xs none (some (k : Int)) = xs.take k := by
  show (xs.drop 0).take (HT.sIx xs.length xs.length (some (k : Int)) - 0) = _
  rw [HT.sIx_nat, List.drop_zero, Nat.sub_zero]
  by_cases h : k ≤ xs.length
  · rw [Nat.min_eq_left h]
  · rw [Nat.min_eq_right (by omega), List.take_of_length_le (Nat.le_refl _), List.take_of_length_le (by omega)]
theorem cutV_from (xs : List V) (k : Nat) : cutV xs (some (k : Int)) none = xs.drop k := by
  show (xs.drop (HT.sIx xs.length 0 (some (k : Int)))).take (xs.length - HT.sIx xs.length 0 (some (k : Int))) = _
  rw [HT.sIx_nat]
  by_cases h : k ≤ xs.length
  · rw [Nat.min_eq_left h, List.take_of_length_le (by rw [List.length_drop]; exact Nat.le_refl _)]
  · rw [Nat.min_eq_right (by omega), Nat.sub_self, List.take_zero, List.drop_of_length_le (by omega)]
theorem cutV_last (xs : List V) : cutV xs none (some (-1)) = xs.dropLast := by
  show (xs.drop 0).take (((-1 : Int) + (xs.length : Int)).toNat - 0) = _
  rw [List.drop_zero, Nat.sub_zero, List.dropLast_eq_take, show ((-1 : Int) + (xs.length : Int)).toNat = xs.length - 1 by omega]
theorem tl_cutTo (s : Str) (k : Nat) : tl (cutS s none (some (k : Int))) = (tl s).take k := by
  rw [tl_cutS]
  show ((tl s).drop 0).take (HT.sIx s.length s.length (some (k : Int)) - 0) = _
  rw [HT.sIx_nat, len_tl, List.drop_zero, Nat.sub_zero]
  by_cases h : k ≤ (tl s).length
  · rw [Nat.min_eq_left h]
  · rw [Nat.min_eq_right (by omega), List.take_of_length_le (Nat.le_refl _), List.take_of_length_le (by omega)]
theorem eqv_strs2 : ∀ a b : List Str, PyData.eqvAll (a.map .str) (b.map .str) = decide (a = b)
  | [], [] => rfl
  | [], _ :: _ => rfl
  | _ :: _, [] => rfl
  | x :: a, y :: b => by
    rw [List.map_cons, List.map_cons, PyData.eqvAll, eqv_strs2 a b, PyData.eqv]
    by_cases h : x = y
    · subst h
      simp
    · simp [h]
theorem eqv_lists (a b : List Str) : PyData.eqv (dStrs a) (dStrs b) = decide (a = b) := by
  unfold dStrs
  rw [PyData.eqv, eqv_strs2]
theorem shaped_names {ns : List Str} (h : Nms ns) : SeqAt.shaped (dStrs ns) = true := shaped_strs h.asc
/-! ### a walk over a tuple by what is behind -/
section
variable {g : TG} {tb : TS} {D : Ends} {σ : L2.St} {H : Hp}
theorem for_tu {K : PySem.W.Frag} {a : Addr} {xs : List V} (Pv : List V → L2.St → Hp → Prop) (h0 : Pv [] σ H) (hl : ∀ pre post σ H, xs = pre ++ post → Pv pre σ H → SqT K H a xs)
    (hs : ∀ pre x post σ H, xs = pre ++ x :: post → Pv pre σ H → g x σ H fun σ2 H2 => tb { D with nx := Pv (pre ++ [x]), ct := Pv (pre ++ [x]), bk := D.nx } σ2 H2) (hd : ∀ σ H, Pv xs σ H → D.nx σ H) :
    ∃ W : Nat → Nat → L2.St → Hp → Prop, (∃ m, W 0 m σ H) ∧ ∀ i m σ H, W i m σ H →
      ((Itt K a).stop i H ∧ D.nx σ H) ∨ ((Itt K a).go i H ∧ ∃ N : L2.St → Hp → Prop, (∀ σ' H', N σ' H' → ∃ m', m' < m ∧ W (i + 1) m' σ' H') ∧ ∀ x H', (Itt K a).yld i H x H' → g x σ H' fun σ2 H2 => tb { D with nx := N, ct := N, bk := D.nx } σ2 H2) := by
  refine for_it (walk_tup (xs := xs)) (fun i σ H => Pv (xs.take i) σ H) (by simpa using h0) (fun i σ H _ p => hl (xs.take i) (xs.drop i) σ H (List.take_append_drop i xs).symm p) ?_ (fun σ H p => hd σ H (by rw [List.take_length] at p; exact p))
  rintro i x σ H H' hi p ⟨rfl, hc⟩
  have e : xs = xs.take i ++ x :: xs.drop (i + 1) := by
    have h2 : xs[i] = x := by rw [List.getElem?_eq_getElem hi] at hc; exact Option.some.inj hc
    rw [← h2, ← List.drop_eq_getElem_cons hi, List.take_append_drop]
  have e2 : xs.take (i + 1) = xs.take i ++ [x] := by rw [List.take_add_one, hc]; rfl
  rw [e2]
  exact hs _ x _ σ _ e p
end
/-! ### defs with a star parameter, and their calls -/
theorem okStar {P : Program} {w : World} {K : PySem.W.Frag} {mg : Str → Option Value} {base : Heap} {x qual pv : Str} {st : Stmt} {f : Addr} {fd : FuncData} {N ps : List Str} {k : Nat} {sp : Sp} (F : L2.Fun K x qual st f fd) (S : FnScope N (ps ++ [pv]) (defScope st))
    (hb : ∀ (kV doc pm : Value) (an : Option Addr) (cdv ct : Value) (us rest : List Value), us.length = ps.length → bindArgs (PySem.W.fnOf x qual (defArgs st) (defBody st) (defScope st) .none kV doc pm an cdv ct) ⟨us ++ rest, []⟩ = (newTuple rest >>= fun t => pure (ps.zip us ++ [(pv, t)])))
    (hbody : ∀ (cdv : Value) (A : Around) (outer : List Env) (s : Shared) (H : Hp) (vs : List V) (Q : VK) (E : XK), Room k (A.deeper (envOfC qual (defScope st) s.heap.objs.size f cdv)) → sp vs H Q E →
      ∃ t, PSs (cxOf CX0 P w K mg base N qual (defScope st) f cdv A outer s H E).nox (defBody st) t ∧ t { nx := fun _ H' => Q .non H', rt := Q } (start N vs) H) :
    FnR P w K mg base CX0 (k + 1) f (fun vs H Q E => ∃ ws rest, vs = ws ++ rest ∧ ws.length = ps.length ∧ rest.length ≤ sizeLine ∧ ∀ p, H p = Option.none → sp (ws ++ [V.ref p]) (upd H p (.tup rest)) Q E) := by
  obtain ⟨oc, od, kV, doc, pm, an, cdv, ct, osl, rfl, lk, hcd⟩ := F.ex
  refine StX.fn_star lk hcd S StX.cxUp_none (hb kV doc pm an cdv ct) fun A outer s H vs Q E hr hsp => ?_
  obtain ⟨t, h, q⟩ := hbody cdv A outer s H vs Q E hr hsp
  exact ⟨t, h.nox, q⟩
section
variable {X : Cx} {CX : CXT} {k : Nat} {f : Addr} {sp : Sp} {E : XK} {x : Str} {e : Expr} {es : List Expr} {t : TA} {p pos : Pos}
theorem pe_callRN (F : FnR X.prog X.w X.K X.mg X.base CX k f sp) (hr : Room k X.A) (hk : PySem.W.keepIn X.K (.ref f) = true) (hg : Gl X x) (hm : X.mg x = some (.ref f)) (hx : Passes CX X E) (ha : PA X (e :: es) t) (hd : (x == ("__debug__" : Str)) = false := by decide)
    (he : starEach (e :: es) X.env = (false, eval e X.env) :: starEach es X.env := by rfl) (hpl : (backTo pos (starEach es X.env)).any (·.1) = false := by rfl) :
    PE X (.Call (.Name x p) (e :: es) [] pos) (fun σ H Q => t σ H fun vs H1 => sp vs H1 Q E) := by
  refine ⟨fun pins s σ H Q I h => ?_⟩
  refine wpAny_Call_Name_kw (ld_glob I hg hm ?_ hd)
  refine PySem.W.callWith_K (h₀ := X.base) I.ok.mod.kin hk (thn (ha.run pos pins s σ H _ I h) fun us s1 ⟨vs, H1, I1, r, q⟩ => ⟨I1.kIn, ?_⟩) he hpl
  exact wpAny_call (run_fnR F hr hx I1 r q)
end

end FR
set_option Elab.async false
set_option linter.all false
set_option maxRecDepth 100000
namespace FR
open PySem PySem.Spec PyProof.Rows L2 TL
theorem pe_joinK {X : Cx} {K : PySem.W.Frag} {o e : Expr} {to te : TE} {apos pos : Pos} (h : X.K = K) (ho : PE X o to) (he : PE X e te) (hs : starEach [e] X.env = [(false, eval e X.env)] := by rfl) (hbase : attributeBase o "join" X.env (eval o X.env) = eval o X.env := by rfl) (hline : (apos.endLine == pos.line) = true := by rfl) :
    PE X (.Call (.Attribute o "join" apos) [e] [] pos) (tM1 (fun x xs H Q => ∃ a p, ∃ ys : List Str, x = .str a ∧ xs = [.ref p] ∧ (SqL K H p (ys.map V.str) ∨ SqT K H p (ys.map V.str)) ∧
      (ys.map (·.length)).sum + ys.length * a.length ≤ 16777216 ∧ Q (.str (Txt.join a ys)) H) to te) := h ▸ pe_join ho he hs hbase hline
end FR
set_option Elab.async false
set_option linter.all false
set_option maxRecDepth 100000
/-! promises that also know that no repr is under way; repr of data -/
namespace FR
open PySem PySem.Spec PyProof.Rows L2 TL
def FnG (P : Program) (w : World) (K : PySem.W.Frag) (mg : Str → Option Value) (base : Heap) (CX : CXT) (k : Nat) (f : Addr) (sp : Sp) : Prop :=
  ∀ (A : Around) (outer : List Env) (s : Shared) (H : Hp) (us : List Value) (vs : List V) (Q : VK) (E : XK), A.guards = some [] → Room k A → Env0 P w K mg base A outer s H → Vals vs us → sp vs H Q E → codeAny (model P w) A (.call (.ref f) ⟨us, []⟩) (CR CX outer P w H s Q E) s
section
variable {P : Program} {w : World} {K : PySem.W.Frag} {mg : Str → Option Value} {base : Heap} {CX : CXT} {k : Nat} {f : Addr} {sp : Sp}
theorem FnG.of (F : FnR P w K mg base CX k f sp) : FnG P w K mg base CX k f sp := fun A outer s H us vs Q E _ hr e0 r hs => F A outer s H us vs Q E hr e0 r hs
theorem okG {x qual : Str} {st : Stmt} {fd : FuncData} {N ps : List Str} (F : L2.Fun K x qual st f fd) (S : FnScope N ps (defScope st)) (B : Binds K fd ps []) (hlen : ∀ vs H Q E, sp vs H Q E → vs.length = ps.length)
    (hbody : ∀ (cdv : Value) (A : Around) (outer : List Env) (s : Shared) (H : Hp) (vs : List V) (Q : VK) (E : XK), A.guards = some [] → Room k (A.deeper (envOfC qual (defScope st) s.heap.objs.size f cdv)) → sp vs H Q E →
      ∃ t, PSs (cxOf CX P w K mg base N qual (defScope st) f cdv A outer s H E) (defBody st) t ∧ t { nx := fun _ H' => Q .non H', rt := Q } (start N vs) H) : FnG P w K mg base CX (k + 1) f sp := by
  intro A outer s H us vs Q E hg hr e0 r hsp
  obtain ⟨oc, od, kV, doc, pm, an, cdv, ct, osl, rfl, lk, hcd⟩ := F.ex
  have hv : vs.length = ps.length := hlen _ _ _ _ hsp
  have hu : us.length = ps.length := by rw [← r.length]; exact hv
  have KI : K.In s.heap := e0.mod.kin.keeps fun b o e => (e0.bs b o e).1
  have b0 := B s us KI (by rw [List.append_nil]; exact hu)
  rw [List.append_nil] at b0
  refine StX.run_bnd lk hcd S hr e0 (G := fun xs H2 => xs = vs ∧ H2 = H) (fun A' Ex Q' h => ?_) fun s2 H2 xs ⟨ex, eH⟩ hr' => ?_
  · exact b0 _ _ _ _ (h s H vs us e0 Un.refl rfl (fun _ _ z => z) r hv ⟨rfl, rfl⟩)
  · subst ex eH
    exact hbody cdv A outer s2 _ _ Q E hg hr' hsp
end
section
variable {X : Cx} {CX : CXT} {k : Nat} {f : Addr} {sp : Sp} {E : XK} {x : Str} {e : Expr} {es : List Expr} {t : TA} {p pos : Pos}
theorem pe_callG (F : FnG X.prog X.w X.K X.mg X.base CX k f sp) (hgd : X.A.guards = some []) (hr : Room k X.A) (hk : PySem.W.keepIn X.K (.ref f) = true) (hg : Gl X x) (hm : X.mg x = some (.ref f)) (hx : Passes CX X E) (ha : PA X (e :: es) t) (hd : (x == ("__debug__" : Str)) = false := by decide)
    (he : starEach (e :: es) X.env = (false, eval e X.env) :: starEach es X.env := by rfl) (hpl : (backTo pos (starEach es X.env)).any (·.1) = false := by rfl) :
    PE X (.Call (.Name x p) (e :: es) [] pos) (fun σ H Q => t σ H fun vs H1 => sp vs H1 Q E) := ⟨fun pins s σ H Q I h => by
  refine wpAny_Call_Name_kw (ld_glob I hg hm (PySem.W.callWith_K (h₀ := X.base) I.ok.mod.kin hk (thn (ha.run pos pins s σ H _ I h) fun us s1 hz => ?_) he hpl) hd)
  obtain ⟨vs, H1, I1, r, q⟩ := hz
  refine ⟨I1.kIn, wpAny_call (codeAny_mono (F X.A X.stack s1 H1 us vs Q E hgd hr I1.env0 r q) fun rr s' hq => ?_)⟩
  match rr, hq with
  | .error ee, hq => exact hx pins σ H1 s1 ee s' I1 hq
  | .ok (.ret u), hq => exact I1.after hq
  | .ok .next, hq => exact hq.elim
  | .ok .brk, hq => exact hq.elim
  | .ok .cont, hq => exact hq.elim⟩
/-- repr of data without dicts -/
def rReprD (K : PySem.W.Frag) : List V → Hp → VK → Prop := fun xs H Q => ∃ (p : Addr) (d : PyData), xs = [.ref p] ∧ Dp K H (.ref p) d ∧ d.showable = true ∧ d.hasDict = false ∧ d.depth ≤ 50 ∧ d.shown.length ≤ sizeLine ∧ Q (.str d.shown) H
theorem call_reprD (hgd : X.A.guards = some []) (hu : X.A.units + 65 < cLine) : CallR X (.builtin "repr") (rReprD X.K) := fun pins s σ H xs us Q I r h => by
  obtain ⟨p, d, rfl, hd, hs, hnd, hdp, hz, q⟩ := h
  obtain ⟨u, rfl, ru⟩ : ∃ u, us = [u] ∧ RelV (.ref p) u := by
    cases r with
    | cons a b => cases b; exact ⟨_, rfl, a⟩
  cases (show u = Value.ref p from ru)
  obtain ⟨as, rd⟩ := Dp.reads I d _ _ hd ru
  exact repr_of_reads' rd hs (fun e => by rw [hnd] at e; cases e) hgd (by omega) (fun _ _ e => e) (fun h' u tk hk => ⟨.str d.shown, H, I.kept hk, ⟨_, rfl⟩, q⟩) hz
end
/-! ### the end of a row, for such a promise -/
theorem law_callG {P : Program} {w : World} {K : PySem.W.Frag} {mg mb : Str → Option Value} {k : Nat} {fa a : Addr} {sp : Sp} {s1 : Shared} {vs : List Value} {ns : List Int}
    (KX : K.In s1.heap) (hns : s1.heap.Ns mainGlobals mg) (hb : s1.heap.Ns builtinsNs mb) (hbb : ∀ x : Str, x ≠ "__name__" → mb x = bootBuiltins x) (hlim : s1.heap.NoLimit) (hg : s1.gens = #[])
    (ha : s1.heap.get? a = some { cls := .type "list", data := .seq vs.toArray }) (hi : IntsAre vs ns) (hl : ns.length ≤ sizeLine) (hr : Room k callerA)
    (F : ∀ base : Heap, K.In base → base.Ns mainGlobals mg → FnG P w K mg base CX0 k fa sp)
    (hsp : ∀ H : Hp, Only H → SqL K H a (ns.map V.int) → sp [.ref a] H (fun v _ => v = .bl true) fun _ _ _ => False) :
    codeAny (model P w) callerA (.call (.ref fa) ⟨[.ref a], []⟩) (fun r s' => r = .ok (.ret (.bool true)) ∧ OldK s1.heap s'.heap ∧ s'.os = s1.os ∧ AllBare s'.gens) s1 := by
  have rv := vals_ints hi
  have lv := hi.length
  have main : ∀ H : Hp, Only H → SqL K H a (ns.map V.int) → HOk P w H s1.heap → (∀ b, H b ≠ none → b = a) → (H a ≠ none → K.lookup a = none) →
      codeAny (model P w) callerA (.call (.ref fa) ⟨[.ref a], []⟩) (fun r s' => r = .ok (.ret (.bool true)) ∧ OldK s1.heap s'.heap ∧ s'.os = s1.os ∧ AllBare s'.gens) s1 := by
    intro H hO hS hok hA hK
    have free : ∀ {b : Addr} {o : Obj} {es : Array DictEntry} {ep : Nat}, s1.heap.get? b = some o → o.data = .dict es ep → H b = none := by
      intro b o es ep e d
      refine Classical.byContradiction fun q => ?_
      cases hA b q
      cases ha.symm.trans e
      cases d
    have nsT : ∀ {b : Addr} {m : Str → Option Value}, s1.heap.Ns b m → (hidT s1.heap H).Ns b m := by
      intro b m ⟨o, es, ep, e, d, r⟩
      exact ⟨o, es, ep, hidT_get e (free e d), d, r⟩
    have KT : K.In (hidT s1.heap H) := by
      intro b o e
      refine hidT_get (KX b o e) (Classical.byContradiction fun q => ?_)
      cases hA b q
      cases (hK q).symm.trans e
    have md : Mod K mg (hidT s1.heap H) := ⟨KT, nsT hns, ⟨mb, nsT hb, hbb⟩, hlim.elim fun mc hc => ⟨mc, nsT hc.1, hc.2⟩⟩
    have en : Env0 P w K mg (hidT s1.heap H) callerA [] s1 H := ⟨rfl, md, fun _ _ e => of_hidT e, Nat.le_of_eq (hidT_size ..), True.intro, fun _ hb => (List.not_mem_nil hb).elim, hok, AllBare.of_eq hg⟩
    refine codeAny_mono (F _ KT (nsT hns) callerA [] s1 H [.ref a] [.ref a] _ _ rfl hr en (.cons rfl .nil) (hsp H hO hS)) fun r s' h => ?_
    match r, h with
    | .error e, h => exact h.elim
    | .ok .next, h => exact h.elim
    | .ok .brk, h => exact h.elim
    | .ok .cont, h => exact h.elim
    | .ok (.ret u), h =>
      obtain ⟨v, H', os, bare, un, hok', rr, q⟩ := h
      cases (show v = .bl true from q)
      cases (show u = Value.bool true from rr)
      refine ⟨rfl, OldK.of_keep fun b o e => ?_, os, bare⟩
      rcases hO b with z | ⟨ob, xs, z⟩
      · exact un.keep b o e z (fun y => (List.not_mem_nil y).elim) (List.not_mem_nil)
      · have t1 := (hok b _ z).1
        have t2 := (hok' b _ (un.frzs b ob _ z)).1
        rw [e] at t1
        cases t1
        exact t2
  cases hk : K.lookup a with
  | some o =>
    cases ha.symm.trans (KX a o hk)
    exact main (fun _ => none) (fun _ => Or.inl rfl) (Or.inr ⟨_, vs.toArray, _, hk, rfl, rfl, rfl, by rw [List.size_toArray, lv]; exact hl, by simpa using rv⟩) (fun b u z => nomatch (show (none : Option HO) = some u from z)) (fun b z => (z rfl).elim) (fun z => (z rfl).elim)
  | none =>
    have hs : ∀ b : Addr, b = a → (if b = a then some (HO.frz { cls := .type "list", data := .seq vs.toArray } (.lst (ns.map V.int))) else none) = some (HO.frz { cls := .type "list", data := .seq vs.toArray } (.lst (ns.map V.int))) := fun b e => if_pos e
    have hn : ∀ b : Addr, b ≠ a → (if b = a then some (HO.frz { cls := .type "list", data := .seq vs.toArray } (.lst (ns.map V.int))) else none) = none := fun b e => if_neg e
    refine main (fun b => if b = a then some (HO.frz { cls := .type "list", data := .seq vs.toArray } (.lst (ns.map V.int))) else none) (fun b => ?_) (Or.inl (Or.inr ⟨_, hs a rfl⟩)) (fun b u z => ?_) (fun b z => Classical.byContradiction fun e => z (hn b e)) (fun _ => hk)
    · by_cases e : b = a
      · exact Or.inr ⟨_, _, hs b e⟩
      · exact Or.inl (hn b e)
    · by_cases e : b = a
      · cases (hs b e).symm.trans z
        subst e
        exact ⟨ha, by rw [List.length_map]; exact hl, vs, _, rv, ha⟩
      · cases (hn b e).symm.trans z
theorem walk_ofG {l : PySem.W.OpenLaw} {n k : Nat} {q : Program} {loose : List Str} {XP : (Str → Option Value) → Heap → Prop} {YP : World → Heap → Prop} {d : DefRec} {K : Params → PySem.W.Frag} {sp : World → Sp}
    (hn : l.most = some n) (hn2 : n ≤ sizeLine) (hdf : d.params.defaults = []) (hr : Room k callerA) (hY : ∀ (w : World) (h : Heap), YP w h → (K w.params).In h)
    (F : ∀ (w : World) (mg : Str → Option Value) (fa : Addr) (h : Heap), (K w.params).In h → h.Ns mainGlobals mg → mg d.name = some (.ref fa) →
      ∀ base : Heap, (K w.params).In base → base.Ns mainGlobals mg → FnG l.prog w (K w.params) mg base CX0 k fa (sp w))
    (hsp : ∀ (w : World) (H : Hp) (a : Addr) (ns : List Int), ns.length ≤ n → Only H → SqL (K w.params) H a (ns.map V.int) → sp w [.ref a] H (fun v _ => v = .bl true) fun _ _ _ => False) :
    PySem.W.WalkO q loose XP YP l.row.toRowW d [] (fun f vs => PySem.call f vs) := by
  refine Att.attach_call hn hdf fun w s0 s1 mg mb fa o pm cd doc a vs ns G Y ho hd hcd hmg hobj hints hlen hg => ?_
  have KX := hY w _ Y
  exact law_callG KX G.T.g G.T.b G.T.builtins G.T.nolimit hg hobj hints (Nat.le_trans hlen hn2) hr (F w mg fa _ KX G.T.g hmg) fun H hO hS => hsp w H a ns hlen hO hS
end FR
set_option Elab.async false
set_option linter.all false
set_option maxRecDepth 100000
/-! repr of data with dicts -/
namespace FR
open PySem PySem.Spec PyProof.Rows L2 TL
def kD : Key → PyData
  | .inl i => .int i
  | .inr x => .str x
mutual
/-- x stands for the datum d, lists, tuples and dicts of this run all the way -/
inductive Dq (H : Hp) : V → PyData → Prop
  | non : Dq H .non .none
  | bl (b : Bool) : Dq H (.bl b) (.bool b)
  | int (i : Int) : Dq H (.int i) (.int i)
  | str (x : Str) : Dq H (.str x) (.str x)
  | lst {a : Addr} {xs : List V} {ds : List PyData} : H a = some (.lst xs) → sysModules < a → DqAll H xs ds → Dq H (.ref a) (.list ds)
  | tup {a : Addr} {xs : List V} {ds : List PyData} : H a = some (.tup xs) → DqAll H xs ds → Dq H (.ref a) (.tuple ds)
  | dct {a : Addr} {kvs : List (Key × V)} {ds : List (PyData × PyData)} : H a = some (.dK kvs) → DqKv H kvs ds → Dq H (.ref a) (.dict ds)
inductive DqAll (H : Hp) : List V → List PyData → Prop
  | nil : DqAll H [] []
  | cons {v : V} {vs : List V} {d : PyData} {ds : List PyData} : Dq H v d → DqAll H vs ds → DqAll H (v :: vs) (d :: ds)
inductive DqKv (H : Hp) : List (Key × V) → List (PyData × PyData) → Prop
  | nil : DqKv H [] []
  | cons {k : Key} {v : V} {vs : List (Key × V)} {d : PyData} {ds : List (PyData × PyData)} : Dq H v d → DqKv H vs ds → DqKv H ((k, v) :: vs) ((kD k, d) :: ds)
end
section
variable {X : Cx} {pins : List (Addr × Obj)} {σ : L2.St} {H : Hp} {s : Shared}
theorem kD_reads (k : Key) {u : Value} (h : keyIs k u = true) : Reads s.heap u (kD k) [] := by
  rcases keyIs_shape h with ⟨i, t, rfl, rfl⟩ | ⟨x, t, rfl, rfl⟩
  · exact .int i t
  · exact .str x t
mutual
theorem Dq.reads (I : Inv X pins σ H s) : ∀ (d : PyData) (v : V) (u : Value), Dq H v d → RelV v u → ∃ as, Reads s.heap u d as ∧ sysModules ∉ as
  | .none, _, _, h, r => by
    cases h
    cases r
    exact ⟨_, Reads.none, by simp⟩
  | .bool b, _, _, h, r => by
    cases h
    cases r
    exact ⟨_, Reads.bool b, by simp⟩
  | .int i, _, _, h, r => by
    cases h
    obtain ⟨t, rfl⟩ := r
    exact ⟨_, Reads.int i t, by simp⟩
  | .str x, _, _, h, r => by
    cases h
    obtain ⟨t, rfl⟩ := r
    exact ⟨_, Reads.str x t, by simp⟩
  | .list ds, _, _, h, r => by
    cases h with
    | lst hs hb ha =>
      cases r
      obtain ⟨_, its, n, rv, e⟩ := (show ObjOk X.prog X.w H s.heap _ (.lst _) from I.hok _ _ hs)
      obtain ⟨as, q, z⟩ := Dq.readsAll I ds _ _ ha rv
      exact ⟨_, Reads.list e rfl rfl q, fun h => (List.mem_cons.mp h).elim (fun e => by rw [← e] at hb; exact absurd hb (Nat.lt_irrefl _)) z⟩
  | .tuple ds, _, _, h, r => by
    cases h with
    | tup hs ha =>
      cases r
      obtain ⟨_, its, rv, o, e, hc, n, hd⟩ := (show ObjOk X.prog X.w H s.heap _ (.tup _) from I.hok _ _ hs)
      obtain ⟨as, q, z⟩ := Dq.readsAll I ds _ _ ha rv
      exact ⟨_, Reads.tuple e hc hd q, z⟩
  | .dict ds, _, _, h, r => by
    cases h with
    | dct hs ha =>
      cases r
      obtain ⟨_, ns, vs, kv, o, es, ep, e, hx, hd, _, hp, _⟩ := (show ObjOk X.prog X.w H s.heap _ (.dK _) from I.hok _ _ hs)
      obtain ⟨bs, q1, q2, z⟩ := Dq.readsKv I ds _ _ es.toList ha kv hp
      exact ⟨_, Reads.dict e hx.1 hd q1 q2, fun h => (List.mem_append.mp h).elim (fun h => (List.mem_cons.mp h).elim (fun e => by rw [← e] at ns; simp at ns) (fun h => by simp at h)) z⟩
theorem Dq.readsAll (I : Inv X pins σ H s) : ∀ (ds : List PyData) (vs : List V) (us : List Value), DqAll H vs ds → Vals vs us → ∃ as, ReadsAll s.heap us ds as ∧ sysModules ∉ as
  | [], _, _, h, r => by
    cases h
    cases r
    exact ⟨_, ReadsAll.nil, by simp⟩
  | d :: ds, _, _, h, r => by
    cases h with
    | cons h1 h2 =>
      cases r with
      | cons r1 r2 =>
        obtain ⟨as, q1, z1⟩ := Dq.reads I d _ _ h1 r1
        obtain ⟨bs, q2, z2⟩ := Dq.readsAll I ds _ _ h2 r2
        exact ⟨_, ReadsAll.cons q1 q2, fun h => (List.mem_append.mp h).elim z1 z2⟩
theorem Dq.readsKv (I : Inv X pins σ H s) : ∀ (ds : List (PyData × PyData)) (kvs : List (Key × V)) (vs : List (Key × Value)) (es : List DictEntry), DqKv H kvs ds → KV kvs vs → Pairs (mixKind X.prog X.w) es vs →
    ∃ bs, ReadsAll s.heap (es.map (·.key)) (ds.map (·.1)) [] ∧ ReadsAll s.heap (es.map (·.val)) (ds.map (·.2)) bs ∧ sysModules ∉ bs
  | [], _, _, _, h, r, p => by
    cases h
    cases r
    cases p
    exact ⟨_, ReadsAll.nil, ReadsAll.nil, by simp⟩
  | d :: ds, _, _, _, h, r, p => by
    cases h with
    | cons h1 h2 =>
      cases r with
      | cons r1 r2 =>
        cases p with
        | cons p1 p2 p3 =>
          obtain ⟨as, q1, z1⟩ := Dq.reads I _ _ _ h1 r1.2
          obtain ⟨bs, q2, q3, z2⟩ := Dq.readsKv I ds _ _ _ h2 r2 p3
          have p1' := p1
          rw [← r1.1] at p1'
          refine ⟨_, ?_, ?_, fun h => (List.mem_append.mp h).elim z1 z2⟩
          · exact ReadsAll.cons (as := []) (bs := []) (kD_reads _ (show keyIs _ _ = true from p1')) q2
          · rw [List.map_cons, List.map_cons, p2]
            exact ReadsAll.cons q1 q3
end
end
/-! lists at an address behind sysModules -/
structure NewS (o : HO) (Q : VK) (H : Hp) : Prop where
  to : ∀ (p : Addr) (H' : Hp), H p = none → sysModules < p → Keep [] H H' → H' p = some o → Q (.ref p) H'
section
variable {X : Cx} {es : List Expr} {t : TA} {pos : Pos}
def tLstS (t : TA) : TE := fun σ H Q => t σ H fun xs H1 => xs.length ≤ sizeLine ∧ NewS (.lst xs) Q H1
theorem pe_lstS (h : PA X es t) : PE X (.List es pos) (tLstS t) := by
  refine ⟨fun pins s σ H Q I hq => wpAny_List_spliced (thn (h.run _ pins s σ H _ I hq) fun us s1 hh => ?_)⟩
  obtain ⟨xs, H1, I1, r, z, q⟩ := hh
  refine ⟨by rw [← r.length]; exact z, .ref s1.heap.objs.size, upd H1 s1.heap.objs.size (.lst xs), I1.laid (t' := s1.toks) (fun _ _ e => Heap.get?_push_of_some _ e) (Nat.le_refl _) ⟨z, us, 0, r, Heap.get?_push_size _ rfl⟩, rfl, ?_⟩
  exact q.to _ _ (I1.hok.fresh (Nat.le_refl _)) I1.big (keep_new (I1.hok.fresh (Nat.le_refl _))) upd_same
end
section
variable {X : Cx}
def rReprQ : List V → Hp → VK → Prop := fun xs H Q => ∃ (p : Addr) (d : PyData), xs = [.ref p] ∧ Dq H (.ref p) d ∧ d.showable = true ∧ d.depth ≤ 50 ∧ d.shown.length ≤ sizeLine ∧ Q (.str d.shown) H
theorem call_reprQ (hgd : X.A.guards = some []) (hu : X.A.units + 65 < cLine) : CallR X (.builtin "repr") rReprQ := fun pins s σ H xs us Q I r h => by
  obtain ⟨p, d, rfl, hd, hs, hdp, hz, q⟩ := h
  obtain ⟨u, rfl, ru⟩ : ∃ u, us = [u] ∧ RelV (.ref p) u := by
    cases r with
    | cons a b => cases b; exact ⟨_, rfl, a⟩
  cases (show u = Value.ref p from ru)
  obtain ⟨as, rd, hsm⟩ := Dq.reads I d _ _ hd ru
  exact repr_of_reads' rd hs (fun _ => hsm) hgd (by omega) (fun _ _ e => e) (fun h' u tk hk => ⟨.str d.shown, H, I.kept hk, ⟨_, rfl⟩, q⟩) hz
end
end FR
set_option Elab.async false
set_option linter.all false
set_option maxRecDepth 100000
set_option maxHeartbeats 2000000
/-! exceptions of the program with one field, value -/
namespace PySem
namespace ExV
open PySem.W PySem.Calls PyProof.Rows PySem.HandSPX
/-! ### the text of __init__ -/
def iA (p1 p2 : Pos) : Arguments := { posonlyargs := [], args := [{ arg := "self", annotation := none, pos := p1 }, { arg := "value", annotation := none, pos := p2 }], vararg := none, kwonlyargs := [], kw_defaults := [], kwarg := none, defaults := [] }
def iB (q1 q2 q3 q4 : Pos) : List Stmt := [.Assign [.Attribute (.Name "self" q1) "value" q2] (.Name "value" q3) q4]
def iS : Scope := { kind := .function, names := [(PySem.Str.ofString "self", .local), (PySem.Str.ofString "value", .local)], isGenerator := false, isCoroutine := false, more := [] }
/-- what the written part says of Low, at C, and of its __init__, at fI -/
structure LowTxt (K : Frag) (mg : Str → Option Value) (cn qn : Str) (C fI : Addr) : Prop where
  gC : mg cn = some (.ref C)
  cls : ∃ nm q N bs bm sn sub ab col dd k0 k1 k2 k3 k5, K.lookup C = some (excClassObj nm q C N bs bm true sn sub ab col dd k0 k1 k2 k3 k5 "ValueError.__new__") ∧ refsVE bm = true
  sa : findIn K (.ref C) "__setattr__" = some (some (.builtin "object.__setattr__"))
  ga : findIn K (.ref C) "__getattribute__" = some (some (.builtin "BaseException.__getattribute__"))
  gg : findIn K (.ref C) "__getattr__" = some none
  noN : findIn K (.ref C) "value" = some none
  iC : findIn K (.ref C) "__init__" = some (some (.ref fI))
  tC : typeIn K (.ref fI) = some (.type "function")
  kC : keepIn K (.ref C) = true
  exC : subIn K (.ref C) (.type "BaseException") = some true
  tyC : typeIn K (.ref C) = some (.type "type")
  hdC : hasDictIn K C = true
  te : exmOne K (.ref C) (.ref C) = some true
  fn : ∃ (oc : Value) (od : Option Addr) (doc pm : Value) (an : Option Addr) (cdv ct : Value) (osl : Array (Option Value)) (p1 p2 q1 q2 q3 q4 : Pos),
    K.lookup fI = some ⟨oc, od, .func (fnOf "__init__" qn (iA p1 p2) (iB q1 q2 q3 q4) iS .none .none doc pm an cdv ct), osl⟩ ∧ codeIn K cdv qn = true
theorem one_size (v : Value) : [v].length ≤ sizeLine := by
  rw [sizeLine_eq]
  exact (by decide : 1 ≤ 16777216)
theorem kept_but {K : Frag} {h h' : Heap} {x : Addr} (X : K.In h) (hx : K.lookup x = none) (k : ∀ b o, b ≠ x → h.get? b = some o → h'.get? b = some o) : K.In h' := fun a o e =>
  k a o (fun z => by rw [z, hx] at e; cases e) (X a o e)
theorem ldC {M : Model} {s : Shared} {name : Str} {scope : Scope} {L a : Addr} {cd : Value} {m : Str → Option Value} {x : Str} {pos : Pos} {v : Value} {Q : Value → Shared → Prop} {A : Around} {E : Value → Shared → Prop} (hn : s.heap.Ns L m) (hv : m x = some v) (h : Q v s)
    (hk : scope.kind = .function := by rfl) (hl : (envOfC name scope L a cd).kindOf x = some .local := by rfl) (hd : (x == ("__debug__" : Str)) = false := by decide) :
    wpAny M A (eval (.Name x pos) (envOfC name scope L a cd)) Q E s := wpAny_Name (wpAny_loadName_local hk hl hn hv h) hd
/-- what __init__ leaves of a fresh exception at x -/
structure InitEnd (h h' : Heap) (x C dx t1 : Addr) (v : Value) : Prop where
  keep : ∀ b o, b ≠ x → h.get? b = some o → h'.get? b = some o
  obj : h'.get? x = some { cls := .ref C, dict := some dx, data := .fields #[.ref t1, .none, .none, .none, .bool false, .none] }
  dbig : h.objs.size ≤ dx
  dne : dx ≠ x
  ns : h'.Ns1 dx (fun y => if y = "value" then some v else none)
/-- a made Low -/
structure OwnMade (h h' : Heap) (e C d : Addr) (v : Value) : Prop where
  keep : ∀ b o, h.get? b = some o → h'.get? b = some o
  new : h.objs.size ≤ e
  obj : ∃ oe vs, h'.get? e = some oe ∧ oe.cls = .ref C ∧ oe.dict = some d ∧ oe.data = .fields vs ∧ vs[1]? = some .none
  dbig : h.objs.size ≤ d
  dne : d ≠ e
  ns : h'.Ns1 d (fun y => if y = "value" then some v else none)
section
variable {prog : Program} {w : World} {A : Around} {E : Value → Shared → Prop} {R : Result → Shared → Prop} {s : Shared} {K : Frag} {mg : Str → Option Value} {C fI : Addr} {cn qn : Str}
theorem low_init (T : LowTxt K mg cn qn C fI) {x t0 : Addr} {v : Value} (X : K.In s.heap) (hlim : s.heap.NoLimit) (hx : s.heap.get? x = some (excO C t0)) (hnx : K.lookup x = none) (hroom : A.depth < recursionLimit)
    (hq : ∀ h' tk dx, InitEnd s.heap h' x C dx t0 v → R (.ok (.ret .none)) { s with heap := h', toks := tk }) :
    codeAny (model prog w) A (.call (.ref fI) ⟨[.ref x, v], []⟩) R s := by
  obtain ⟨oc, od, doc, pm, an, cdv, ct, osl, p1, p2, q1, q2, q3, q4, ho, hcd⟩ := T.fn
  obtain ⟨nm, q, N, bs, bm, sn, sub, ab, col, dd, k0, k1, k2, k3, k5, hC, hbm⟩ := T.cls
  have hcl : clsIn K C = some { name := nm, bases := bs, mro := .ref C :: bm, ns := N, qualname := q, hasDict := true, slotNames := sn, subclasses := sub, abstract := ab, collection := col, hasDel := false } := by unfold clsIn; rw [hC] <;> rfl
  refine Att.call_fn (binds := [("self", .ref x), ("value", v)]) X hlim ho hcd hroom (BindsTo.of_eq (by first | rfl | with_unfolding_all rfl)) (by first | rfl | decide | with_unfolding_all rfl) (fun s₁ IC => ?_) rfl rfl rfl
  obtain ⟨h₁, tk₁, rfl⟩ := IC.toInCall.same
  have k : ∀ b o, s.heap.get? b = some o → h₁.get? b = some o := IC.toInCall.keep
  have hn := IC.toInCall.ns
  have hxL : s.heap.objs.size ≠ x := Nat.ne_of_gt (Heap.lt_size hx)
  have X₁ : K.In h₁ := X.keeps k
  have hx₁ := k _ _ hx
  -- self.by = by
  show wpAny _ _ (execs _ _) _ _ _
  refine wpAny_execs_cons (plainObj_wpAny_Assign_Attribute ?_)
  refine ldC (v := v) hn (by first | rfl | with_unfolding_all rfl | kernel_rfl) (ldC (v := .ref x) hn (by first | rfl | with_unfolding_all rfl | kernel_rfl) ?_)
  refine set_plain X₁ (ox := excO C t0) (od := none) ⟨hx₁, rfl, rfl, trivial⟩ T.sa ?_
  refine exc_osa X₁ hx₁ hcl (show refsVE (.ref C :: bm) = true from hbm) rfl T.noN (fun h₃ tk₃ dx k₃ dn dne hx₃ hn₃ => ?_)
  show wpAny _ _ (execs _ _) _ _ _
  have z : s.heap.objs.size < h₁.objs.size := hn.lt
  exact wpAny_execs_nil (hq h₃ tk₃ dx ⟨fun b o hb e => k₃ b o hb (k b o e), hx₃, Nat.le_of_lt (Nat.lt_of_lt_of_le z dn), dne, hn₃⟩)
theorem low_made (T : LowTxt K mg cn qn C fI) {v : Value} (X : K.In s.heap) (hlim : s.heap.NoLimit) (hroom : A.depth + 1 < recursionLimit)
    (hq : ∀ h' tk e d, OwnMade s.heap h' e C d v → R (.ok (.ret (.ref e))) { s with heap := h', toks := tk }) :
    codeAny (model prog w) A (.call (.ref C) ⟨[v], []⟩) R s := by
  obtain ⟨nm, q, N, bs, bm, sn, sub, ab, col, dd, k0, k1, k2, k3, k5, hC, hbm⟩ := T.cls
  obtain ⟨hp, g, dr, tk, os⟩ := s
  have k : ∀ b o, hp.get? b = some o → ((hp.push (kdv_tup [v])).push (excO C hp.objs.size)).get? b = some o := fun b o e => Heap.get?_push_of_some _ (Heap.get?_push_of_some _ e)
  have hget : ((hp.push (kdv_tup [v])).push (excO C hp.objs.size)).get? (hp.objs.size + 1) = some (excO C hp.objs.size) := by heap_get
  have hnx : K.lookup (hp.objs.size + 1) = none := by
    cases e : K.lookup (hp.objs.size + 1) with
    | none => rfl
    | some o =>
      have z : hp.get? (hp.objs.size + 1) = some o := X _ _ e
      exact absurd (Nat.lt_of_succ_lt (Heap.lt_size z)) (Nat.lt_irrefl _)
  refine call_own F.excBase_ValueError (fun X => refsVE_contains X bm hbm) (X _ _ hC) (looks_findIn X T.iC) (fun self => bind_fn X self T.tC) (one_size v) ?_
  refine low_init (s := ⟨(hp.push (kdv_tup [v])).push (excO C hp.objs.size), g, dr, tk, os⟩) T (X.keeps k) (hlim.keeps k) hget hnx ?_ fun h' tk' dx ⟨k', hx, dn, dne, hns⟩ => ?_
  · show A.depth + 1 < recursionLimit
    exact hroom
  · have old : ∀ b o, hp.get? b = some o → h'.get? b = some o := fun b o e => k' b o (Nat.ne_of_lt (Nat.lt_succ_of_lt (Heap.lt_size e))) (k b o e)
    have z : hp.objs.size + 1 + 1 ≤ dx := by
      first
        | (simpa only [Heap.size_push] using dn)
        | exact dn
        | (have q := dn; rw [Heap.size_push, Heap.size_push] at q; exact q)
    exact ⟨rfl, hq h' tk' (hp.objs.size + 1) dx ⟨old, Nat.le_succ _, ⟨_, _, hx, rfl, rfl, rfl, rfl⟩, Nat.le_trans (Nat.le_trans (Nat.le_succ _) (Nat.le_succ _)) z, dne, hns⟩⟩
end
end ExV
end PySem
namespace L2
open PySem PySem.Spec PyProof.Rows
theorem relO_low {v : V} {v' : Value} (r : RelV v v') (f : Str) : RelO (List.lookup f [(("value" : Str), v)]) (if f = "value" then some v' else none) := by
  by_cases hw : f = "value"
  · subst hw
    rw [if_pos rfl]
    have q : List.lookup ("value" : Str) [(("value" : Str), v)] = some v := by simp [List.lookup]
    rw [q]
    exact r
  · rw [if_neg hw]
    have qw : (f == ("value" : Str)) = false := by simpa using hw
    have q2 : List.lookup f [(("value" : Str), v)] = none := by simp [List.lookup, qw]
    rw [q2]
    trivial
section
variable {X : Cx} {C fI : Addr} {cn qn : Str}
/-- Low(e) -/
def tMkLow (C : Addr) (ta : TA) : St → Hp → XK → Prop := fun σ H Q => ta σ H fun vs H1 => ∃ v, vs = [v] ∧ ∀ d, H1 d = none → Q (.ref C) (some d) (upd H1 d (.xd [(("value" : Str), v)]))
theorem pmk_low {a : Expr} {ta : TA} {p pos : Pos} {k : Nat} (T : PySem.ExV.LowTxt X.K X.mg cn qn C fI) (hr : Room k X.A) (ha : PA X [a] ta) (hdb : (cn == ("__debug__" : Str)) = false := by decide) (hg : Gl X cn := by rfl)
    (he : starEach (a :: []) X.env = (false, eval a X.env) :: starEach [] X.env := by rfl) (hpl : (backTo pos (starEach [] X.env)).any (·.1) = false := by rfl) :
    PMk X (.Call (.Name cn p) [a] [] pos) (tMkLow C ta) := by
  intro pins s σ H Q I h
  refine wpAny_Call_Name_kw (ld_glob I hg T.gC ?_ hdb)
  refine PySem.W.callWith_K (h₀ := X.base) I.ok.mod.kin T.kC (thn (ha.run pos pins s σ H _ I h) fun us s1 hh => ?_) he hpl
  obtain ⟨vs, H1, I1, r1, v, ev, q1⟩ := hh
  subst ev
  refine ⟨I1.kIn, ?_⟩
  cases r1 with
  | cons rv rn =>
    rename_i v' us'
    cases rn
    show wpAny _ _ (call (.ref C) [v']) _ _ _
    have hlim := I1.nolimit
    obtain ⟨hp, g, dr, tk, os⟩ := s1
    refine wpAny_call (PySem.ExV.low_made T I1.kIn hlim (by have := hr.dp; omega) fun h' tk' e d M => ?_)
    show MkP X pins σ Q (.ref e) ⟨h', g, dr, tk', os⟩
    obtain ⟨oe, fv, hoe, hc, hd, hdat, h1⟩ := M.obj
    have hns := M.ns
    obtain ⟨G', g1, g2⟩ := restrict h' fun b => decide (b ≠ e)
    have gk : ∀ b, b ≠ e → G'.get? b = h'.get? b := fun b hb => g1 b (decide_eq_true hb)
    have ge : G'.get? e = none := g2 e (by simp)
    have old : ∀ b o, hp.get? b = some o → G'.get? b = some o := fun b o q => (gk b (Nat.ne_of_lt (Nat.lt_of_lt_of_le (Heap.lt_size q) M.new))).trans (M.keep b o q)
    have ob : ObjOk X.prog X.w (upd H1 d (.xd [(("value" : Str), v)])) G' d (.xd [(("value" : Str), v)]) :=
      ⟨_, hns.at (fun o q => (gk d M.dne).trans q), fun f => relO_low rv f⟩
    have J : Inv X pins σ (upd H1 d (.xd [(("value" : Str), v)])) ⟨G', g, dr, tk', os⟩ := I1.laid (t' := tk') old M.dbig ob
    refine ⟨e, oe, fv, ⟨G', g, dr, tk', os⟩, _, .ref C, some d, rfl, J, fun b o q => ?_, ge, hoe, ⟨hc, hd⟩, hdat, h1, ?_, rfl, I1.bare, raises_own T.exC T.tyC, q1 d (I1.hok.fresh M.dbig)⟩
    · by_cases hb : b = e
      · have q' : G'.get? b = some o := q
        rw [hb, ge] at q'; cases q'
      · exact (gk b hb).symm.trans q
    · rw [upd_ne (Ne.symm M.dne)]
      exact I1.hok.fresh M.new
/-- raise Low(e) -/
def tRaiseLow (C : Addr) (W : WX) (ta : TA) : TS := fun _ σ H => tMkLow C ta σ H fun cls d H' => W cls d σ H'
theorem ps_raiseLow {a : Expr} {ta : TA} {W : WX} {p pos pos2 : Pos} {k : Nat} (hc : X.calm = true) (T : PySem.ExV.LowTxt X.K X.mg cn qn C fI) (hr : Room k X.A) (tk : Takes X W) (ha : PA X [a] ta) (hdb : (cn == ("__debug__" : Str)) = false := by decide) (hg : Gl X cn := by rfl)
    (he : starEach (a :: []) X.env = (false, eval a X.env) :: starEach [] X.env := by rfl) (hpl : (backTo pos (starEach [] X.env)).any (·.1) = false := by rfl) :
    PS X (.Raise (some (.Call (.Name cn p) [a] [] pos)) none pos2) (tRaiseLow C W ta) := ps_raise hc tk (pmk_low T hr ha hdb hg he hpl)
/-- low.by, low the exception that the suite holds (at a; its class cls, its dict d) -/
def tByLow (C : Addr) (a : Addr) (cls : Value) (d : Option Addr) (te : TE) : TE := fun σ H Q => te σ H fun x H1 => x = .ref a ∧ cls = .ref C ∧ ∃ (dd : Addr) (v : V), d = some dd ∧ H1 dd = some (.xd [(("value" : Str), v)]) ∧ Q v H1
theorem pe_byLow {a : Addr} {oe : Obj} {cls : Value} {d : Option Addr} {pn : List (Addr × Obj)} {e : Expr} {te : TE} {pos : Pos} (T : PySem.ExV.LowTxt X.K X.mg cn qn C fI) (hz : Zc cls d oe) (hf : ∃ vs, oe.data = .fields vs) (he : PE (X.suite a ((a, oe) :: pn)) e te)
    (hb : attributeBase e "value" X.env (eval e X.env) = eval e X.env := by rfl) :
    PE (X.suite a ((a, oe) :: pn)) (.Attribute e "value" pos) (tByLow C a cls d te) := by
  refine ⟨fun pins s σ H Q I h => ?_⟩
  refine attr_of hb (thn (he.run pins s σ H _ I h) fun u s1 hh => ?_)
  obtain ⟨x, H1, I1, rx, ex, ec, dd, v, ed, ea, q⟩ := hh
  subst ex
  obtain rfl : u = Value.ref a := rx
  subst ec
  subst ed
  obtain ⟨ha, _⟩ := I1.pin (a, oe) (List.mem_append_left _ List.mem_cons_self)
  obtain ⟨vs, hd⟩ := hf
  have hx : ObjOk X.prog X.w H1 s1.heap dd (.xd [(("value" : Str), v)]) := I1.hok dd _ ea
  obtain ⟨mA, hns, hr⟩ := hx
  obtain ⟨od, ho, hl⟩ := lookIn_ns hns
  have l : List.lookup ("value" : Str) [(("value" : Str), v)] = some v := by simp [List.lookup]
  obtain ⟨u, hu, ru⟩ := RelO.some_of (v := v) (o := mA "value") (by rw [← l]; exact hr "value")
  have J : PySem.W.InstAt s1.heap a oe C (some od) := ⟨ha, hz.1, by unfold PySem.W.notCls; rw [hd] <;> rfl, by rw [hz.2]; exact ho⟩
  exact HandSPX.exc_get I1.kIn J T.ga T.gg T.exC (PySem.W.findObj_own T.hdC T.noN rfl (by rw [hl, hu])) (handed_of ru) ⟨v, H1, I1.tok _, ru, q⟩
end
end L2
set_option Elab.async false
set_option linter.all false
set_option maxRecDepth 100000
set_option maxHeartbeats 2000000
/-! try with several clauses «except C as n» of one name; what no clause takes does not come -/
namespace FR
open PySem PySem.Spec PyProof.Rows L2 TL
/-- behind a suite the clause's name is gone -/
def gone (i : Nat) (D : Ends) : Ends := { nx := fun σ H => D.nx (σ.set i none) H, rt := D.rt, bk := fun σ H => D.bk (σ.set i none) H, ct := fun σ H => D.ct (σ.set i none) H }
def wAsM (K : PySem.W.Frag) (i : Nat) (D : Ends) : List (Value × (Addr → Value → Option Addr → TS)) → WX
  | [] => fun _ _ _ _ => False
  | (c, ts) :: r => fun cls d σ H => ∃ b, PySem.W.exmOne K cls c = some b ∧ (b = true → ∀ a, H a = none → ts a cls d (gone i D) (σ.set i (some (.ref a))) H) ∧ (b = false → wAsM K i D r cls d σ H)
inductive ClausesOk (X : Cx) (n : Str) : List ExceptHandler → List (Value × (Addr → Value → Option Addr → TS)) → Prop
  | nil : ClausesOk X n [] []
  | cons {x : Str} {c : Value} {ts : Addr → Value → Option Addr → TS} {st : Stmt} {sts : List Stmt} {p1 p2 : Pos} {hds : List ExceptHandler} {l : List (Value × (Addr → Value → Option Addr → TS))} (hc : Names X x c)
      (hsu : ∀ (a : Addr) (oe : Obj) (cls : Value) (d : Option Addr) (pn : List (Addr × Obj)), Zc cls d oe → (∃ vs, oe.data = .fields vs) → PSs (X.suite a ((a, oe) :: pn)) (st :: sts) (ts a cls d)) (r : ClausesOk X n hds l) :
      ClausesOk X n (.ExceptHandler (some (.Name x p1)) (some n) (st :: sts) p2 :: hds) ((c, ts) :: l)
section
variable {X : Cx} {n : Str} {i : Nat} {body : List Stmt} {hd0 : ExceptHandler} {hds : List ExceptHandler} {l : List (Value × (Addr → Value → Option Addr → TS))} {pos : Pos} {tb : WX → TS}
theorem ps_try_asM (hs : X.stack = X.env :: X.outer) (hf : X.env.frame = some X.env.locals) (hN : X.N.Nodup) (hi : X.N[i]? = some n) (hln : X.env.kindOf n = some .local)
    (hb : ∀ (W : WX) (pn : List (Addr × Obj)) (xe : Value → Shared → Prop), Takes (X.tr pn xe) W → PassesOwn (model X.prog X.w) X.A X.env xe → PSs (X.tr pn xe) body (tb W))
    (hh : ClausesOk X n (hd0 :: hds) l) : PS X (.Try body (hd0 :: hds) [] [] pos) (fun D σ H => tb (wAsM X.K i D l) D σ H) := by
  refine ⟨fun pins s σ H D I h => wpAny_Try_except ?_⟩
  have okX := I.ok
  have fr : X.A.frames = some (X.env :: X.outer) := by rw [okX.frames, hs]
  let land : Value → Shared → Prop := fun e s1 => wpAny (model X.prog X.w) X.A (noteFrame e X.env) (fun _ s2 => wpAny (model X.prog X.w) X.A (setFlight e none) (fun _ s3 => wpAny (model X.prog X.w) X.A (handleBy e X.env (hd0 :: hds)) (SP X pins D) X.xe s3) X.xe s2) X.xe s1
  have caught : ∀ (u : Value) (s1 : Shared), XE (X.tr (X.pn ++ pins) land) (wAsM X.K i D l) u s1 → land u s1 := by
    intro u s1 xx
    obtain ⟨a, B, sI, _, σ1, H1, cls, d, rfl, J0, nb, up, sky, na, os, ag, w⟩ := xx
    have J : Inv X pins σ1 H1 sI := J0.ofTry okX
    show wpAny (model X.prog X.w) X.A (noteFrame (.ref a) X.env) _ _ _
    refine Sky.land Zc.steady fr hf (by rw [← hs]; exact sky) fun g1 fl1 up1 => ?_
    have K1 : Inv X pins σ1 H1 { s1 with heap := g1 } := J.landed nb fl1.1 (up.trans up1) os ag
    obtain ⟨ob, fv, e1, z1, d1⟩ := fl1.there
    have out : a ∉ frs (X.env :: X.outer) := fun m => by
      obtain ⟨_, o2, e2, q⟩ := fl1.2.2.1.mem m
      cases e1.symm.trans e2
      exact q _ d1
    have n1 : a ≠ X.env.locals := fun z => out (List.mem_filterMap.mpr ⟨_, List.mem_cons_self, by rw [hf, z]⟩)
    have n2 : a ∉ X.fs := fun m => by
      obtain ⟨e2, m2, q⟩ := List.mem_filterMap.mp m
      exact out (List.mem_filterMap.mpr ⟨e2, List.mem_cons_of_mem _ m2, q⟩)
    have S1 := K1.suite e1 d1 na n1 n2
    have each : ∀ {cs : List ExceptHandler} {ws : List (Value × (Addr → Value → Option Addr → TS))}, ClausesOk X n cs ws → wAsM X.K i D ws cls d σ1 H1 → wpAny (model X.prog X.w) X.A (handleBy (.ref a) X.env cs) (SP X pins D) X.xe { s1 with heap := g1 } := by
      intro cs ws ck
      induction ck with
      | nil => exact fun z => z.elim
      | @cons x c ts st sts p1 p2 more wmore hc hsu _ ih =>
        rintro ⟨b, hm, yes, no⟩
        refine wpAny_handleBy_cons (codeAny_handlers_test ?_) (fun q => by cases q)
        have ty : PySem.W.Looks (model X.prog X.w) g1 (typeOf (.ref a)) cls := fun _ _ _ _ k q => wpAny_typeOf_ref (k _ _ e1) (by rw [z1.1]; exact q)
        have one := PySem.W.exm_one (M := model X.prog X.w) K1.kIn ty hm
        have named : ∀ {Q E : Value → Shared → Prop}, Q c { s1 with heap := g1 } → wpAny (model X.prog X.w) (X.A.mark (some (.ref a))) (eval (.Name x p1) X.env) Q E { s1 with heap := g1 } := by
          intro Q E q
          obtain ⟨y1, y2, y3 | ⟨y3, y4, y5⟩⟩ := hc
          · exact ld_glob (X := X.suite a ((a, ob) :: (X.pn ++ pins))) S1 y1 y3 q y2
          · exact ld_blt (X := X.suite a ((a, ob) :: (X.pn ++ pins))) S1 y1 y3 y4 q y5 y2
        refine named (one.here ?_)
        cases b with
        | false => exact ih (no rfl)
        | true =>
          refine codeAny_handlers_suite_as (HandSPX.lands_againZ fl1 fun g2 fl2 up2 => ?_)
          obtain ⟨oc, fw, e2, z2, d2⟩ := fl2.there
          have K2 : Inv X pins σ1 H1 { s1 with heap := g2 } := J.landed nb fl2.1 ((up.trans up1).trans up2) os ag
          have S2 := K2.suite e2 d2 na n1 n2
          refine store_ok (X := X.suite a ((a, oc) :: (X.pn ++ pins))) (v := .ref a) S2 hN hi (.inl hln) rfl (fun s5 S5 => ?_) (.inr hln)
          refine wpAny_mono ((hsu a oc cls d (X.pn ++ pins) z2 ⟨_, d2⟩).run [] s5 _ H1 _ S5 (yes rfl a na)) (fun f s6 hz => ?_) (fun _ _ z => z.elim)
          have ends : ∀ {σ6 : L2.St} {H6 : Hp} {Q : Shared → Prop}, Inv (X.suite a ((a, oc) :: (X.pn ++ pins))) [] σ6 H6 s6 → (∀ s7, Inv X pins (σ6.set i none) H6 s7 → Q s7) → wpAny (model X.prog X.w) X.A (do bindName X.env n .none; unbindBehindTheSuite X.env n p2) (fun _ s7 => Q s7) X.xe s6 :=
            fun S6 hq => gone_ok (S6.unsuite okX) hN hi hln hq
          match f, hz with
          | .next, ⟨_, _, S6, q6⟩ => exact ends S6 fun _ J7 => ⟨_, _, J7, q6⟩
          | .brk, ⟨_, _, S6, q6⟩ => exact ends S6 fun _ J7 => ⟨_, _, J7, q6⟩
          | .cont, ⟨_, _, S6, q6⟩ => exact ends S6 fun _ J7 => ⟨_, _, J7, q6⟩
          | .ret _, ⟨_, _, _, S6, r6, q6⟩ => exact ends S6 fun _ J7 => ⟨_, _, _, J7, r6, q6⟩
    exact each hh w
  refine wpAny_mono ((hb _ _ land caught PassesOwn.looking).run [] s σ H D (I.toTry _) h) (fun f s1 hz => ?_) (fun _ _ z => z)
  match f, hz with
  | .next, ⟨_, _, J, q⟩ => exact wpAny_execs_nil ⟨_, _, J.ofTry okX, q⟩
  | .brk, ⟨_, _, J, q⟩ => exact ⟨_, _, J.ofTry okX, q⟩
  | .cont, ⟨_, _, J, q⟩ => exact ⟨_, _, J.ofTry okX, q⟩
  | .ret _, ⟨_, _, _, J, r, q⟩ => exact ⟨_, _, _, J.ofTry okX, r, q⟩
end
end FR
set_option Elab.async false
set_option linter.all false
set_option maxRecDepth 100000
/-! isinstance of the exception that a suite holds, one with fields -/
namespace FR
open PySem PySem.Spec PyProof.Rows L2 TL
/-- the exception that the suite holds is one of the class D, with its own dict -/
def HeldE (K : PySem.W.Frag) (cls : Value) (d : Option Addr) (H : Hp) (D : Addr) : Prop := cls = .ref D ∧ ExcC K D ∧ ∃ (dd : Addr) (fs : List (Str × V)), d = some dd ∧ H dd = some (.xd fs)
section
variable {X : Cx} {a : Addr} {oe : Obj} {pn : List (Addr × Obj)} {cls : Value} {d : Option Addr} {pins : List (Addr × Obj)} {σ : L2.St} {H : Hp} {s : Shared} {D : Addr}
theorem kit_held (hz : Zc cls d oe) (hf : ∃ vs, oe.data = .fields vs) (I : Inv (X.suite a ((a, oe) :: pn)) pins σ H s) (h : HeldE X.K cls d H D) : ∃ od, PySem.W.KitX X.K (.ref a) (.ref D) (fun g => PySem.W.InstAt g a oe D (some od)) ∧ PySem.W.InstAt s.heap a oe D (some od) := by
  obtain ⟨rfl, C, dd, fs, rfl, hx⟩ := h
  obtain ⟨hget, _⟩ := I.pin (a, oe) (List.mem_append_left _ List.mem_cons_self)
  obtain ⟨vs, hv⟩ := hf
  obtain ⟨mA, hns, _⟩ := (show ObjOk X.prog X.w H s.heap dd (.xd fs) from I.hok dd _ hx)
  obtain ⟨od, ho, _⟩ := lookIn_ns hns
  obtain ⟨cd, hc, _⟩ := PySem.W.any_some C.hd
  refine ⟨od, PySem.W.kitx_exc (by rw [hc]; rfl) C.hg C.hk C.hs C.ha C.hn C.ht C.hm, hget, hz.1, ?_, ?_⟩
  · unfold PySem.W.notCls
    rw [hv] <;> rfl
  · rw [hz.2]
    exact ho
def rIsH (K : PySem.W.Frag) (a : Addr) (cls : Value) (d : Option Addr) : List V → Hp → VK → Prop := fun xs H Q => ∃ (D : Addr) (c : V) (cv : Value) (b : Bool), HeldE K cls d H D ∧ xs = [.ref a, c] ∧ ClsV c cv ∧ PySem.W.kitOne K (.ref D) cv = some b ∧ Q (.bl b) H
theorem call_isH (hz : Zc cls d oe) (hf : ∃ vs, oe.data = .fields vs) : CallR (X.suite a ((a, oe) :: pn)) (.builtin "isinstance") (rIsH X.K a cls d) := by
  intro pins s σ H xs us Q I r h
  obtain ⟨D, c, cv, b, hh, rfl, hc, e, q⟩ := h
  cases r with
  | cons rx rr =>
    cases rr with
    | cons rt rr =>
      cases rr
      cases (show _ = Value.ref a from rx)
      cases hc.eq rt
      obtain ⟨od, Z, J⟩ := kit_held hz hf I hh
      exact PySem.W.kia_one Z I.kIn J e (fun z => nomatch z) fun tk => ⟨.bl b, H, I.tok tk, rfl, q⟩
def rIsHT (K : PySem.W.Frag) (a : Addr) (cls : Value) (d : Option Addr) : List V → Hp → VK → Prop := fun xs H Q => ∃ (D tp : Addr) (cs : List V) (cvs : List Value) (b : Bool), HeldE K cls d H D ∧ xs = [.ref a, .ref tp] ∧ H tp = some (.tup cs) ∧ Paired ClsV cs cvs ∧ PySem.W.kitAny K (.ref D) cvs = some b ∧ Q (.bl b) H
theorem call_isHT (hz : Zc cls d oe) (hf : ∃ vs, oe.data = .fields vs) : CallR (X.suite a ((a, oe) :: pn)) (.builtin "isinstance") (rIsHT X.K a cls d) := by
  intro pins s σ H xs us Q I r h
  obtain ⟨D, tp, cs, cvs, b, hh, rfl, ht, hc, e, q⟩ := h
  cases r with
  | cons rx rr =>
    cases rr with
    | cons rt rr =>
      cases rr
      cases (show _ = Value.ref a from rx)
      cases (show _ = Value.ref tp from rt)
      obtain ⟨od, Z, J⟩ := kit_held hz hf I hh
      obtain ⟨_, its, rv, ⟨oc, od2, dt, sl⟩, h1, h2, n, h3⟩ := (show ObjOk X.prog X.w H s.heap tp (.tup cs) from I.hok tp _ ht)
      have e3 := ClsV.all hc rv
      subst e3
      simp only at h2 h3
      subst h2 h3
      exact PySem.W.kia_tup Z I.kIn J h1 e (fun z => nomatch z) fun tk => ⟨.bl b, H, I.tok tk, rfl, q⟩
end
end FR
set_option Elab.async false
set_option linter.all false
set_option maxRecDepth 100000
/-! a text beside a dict; «x not in texts» for anything -/
namespace FR
open PySem PySem.Spec PyProof.Rows L2 TL PySem.SeqAt
theorem str_eq_dict (b : Str) (u : Tok) (l : Addr) (c : Value) (es : Array DictEntry) (n : Nat) (dd : Option Addr) (sl : Array (Option Value)) :
    Meets (Builtin.«str.__eq__» ⟨[.str b u, .ref l], []⟩) (fun _ R s => s.heap.get? l = some { cls := c, dict := dd, data := .dict es n, slots := sl } ∧ R (.ok (.ret .notImplemented)) s) :=
  .of_wp fun prog w A R s h => by
    obtain ⟨hp, g, d, tk, os⟩ := s
    obtain ⟨hl, h⟩ := h
    wp_walk using wpAny_loadPart' hl, wpAny_load hl
    exact ⟨_, rfl, h⟩
theorem dict_eq_str (b : Str) (u : Tok) (l : Addr) (c : Value) (es : Array DictEntry) (n : Nat) (dd : Option Addr) (sl : Array (Option Value)) :
    Meets (Builtin.«dict.__eq__» ⟨[.ref l, .str b u], []⟩) (fun _ R s => s.heap.get? l = some { cls := c, dict := dd, data := .dict es n, slots := sl } ∧ R (.ok (.ret .notImplemented)) s) :=
  .of_wp fun prog w A R s h => by
    obtain ⟨hp, g, d, tk, os⟩ := s
    obtain ⟨hl, h⟩ := h
    have f1 := F.sub_str_dict
    wp_walk using wpAny_loadPart' hl, wpAny_load hl
    exact ⟨_, rfl, h⟩
theorem eqAt_str_dict {A : Around} {s : Shared} {l : Addr} {o : Obj} {es : Array DictEntry} {n : Nat} (b : Str) (u : Tok) (ho : s.heap.get? l = some o) (hx : o.cls = .type "dict") (hd : o.data = .dict es n) (hu : A.units < cLine) : EqAt A s (.str b u) (.ref l) false := fun prog w E Q h => by
  unfold eqBool
  refine wpAny_holding (wpAny_ite_split (fun hab => absurd (eq_of_beq hab) nofun) (fun _ => wpAny_bind ?_))
  obtain ⟨cls, dd, data, sl⟩ := o
  simp only at hx hd
  subst hx hd
  exact rc_eq_decline_or (k := false) (typeIs_str s b u) ⟨_, ho, rfl⟩ (by decide) F.sub_dict_str F.slot_str_eq F.slot_dict_eq_refl
    (fun _ hq => call_meets F.slot_str_eq (typeIs_str s b u) F.entry_str_eq (F.args_str_eq_2 _ _) (str_eq_dict b u l (.type "dict") es n dd sl) ⟨ho, hq⟩)
    (fun _ hq => call_meets F.slot_dict_eq_refl ⟨_, ho, rfl⟩ F.entry_dict_eq (F.args_dict_eq_2 _ _) (dict_eq_str b u l _ es n dd sl) ⟨ho, hq⟩)
    (fun _ hq => wpAny_of_eq (rfl : isSame (.str b u) (.ref l) = pure false) hq) (.inr hu) (wpAny_truthy_bool h)
section
variable {X : Cx}
theorem vals_strs : ∀ {ws : List Str} {us : List Value}, Vals (ws.map V.str) us → ∀ u ∈ us, ∃ x t, u = Value.str x t
  | [], _, h, u, hu => by
    cases h
    simp at hu
  | w :: r, _, .cons a b, u, hu => by
    rcases List.mem_cons.mp hu with rfl | hu
    · obtain ⟨t, rfl⟩ := a
      exact ⟨_, t, rfl⟩
    · exact vals_strs b u hu
/-- what «v not in the texts ws» gives -/
def NInW (K : PySem.W.Frag) (H : Hp) (v : V) (ws : List Str) (r : Bool) : Prop := (flatV v = true ∧ (!inV v (ws.map V.str)) = r) ∨ (∃ d, Dp K H v d ∧ SeqAt.shaped d = true ∧ SeqAt.shaped (.list (ws.map .str)) = true ∧ (!(ws.map PyData.str).any fun z => PyData.eqv z d) = r) ∨
  ∃ (a : Addr) (kvs : List (Key × V)), v = .ref a ∧ H a = some (.dK kvs) ∧ true = r
def rNotInW (K : PySem.W.Frag) : R2 := fun x y H Q => ∃ (p : Addr) (ws : List Str) (r : Bool), y = .ref p ∧ SqL K H p (ws.map V.str) ∧ NInW K H x ws r ∧ Q (.bl r) H
theorem op_notInW (hu : X.A.units + 65 < cLine) : OpR X (compareOp .NotIn) (rNotInW X.K) := by
  intro pins s σ H x y v u Q I rx ry h
  obtain ⟨p, ws, r, rfl, hp, ⟨hf, rfl⟩ | ⟨d, hd, s1, s2, rfl⟩ | ⟨a, kvs, rfl, ha, rfl⟩, q⟩ := h
  · exact op_notIn_seq pins s σ H x _ v u Q I rx ry ⟨p, _, rfl, .inl hp, hf, flat_strs ws, q⟩
  · exact op_notInD hu pins s σ H x _ v u Q I rx ry ⟨d, _, hd, .lst hp (dpAll_strs ws), s1, s2, q⟩
  · cases (show v = Value.ref a from rx)
    cases (show u = Value.ref p from ry)
    obtain ⟨_, _, vs, kv, o, es, ep, e, hx, hd, _, _, _⟩ := (show ObjOk X.prog X.w H s.heap a (.dK _) from I.hok _ _ ha)
    obtain ⟨its, rv, hl, _⟩ := I.list hp
    refine notIn_listAt (fun _ => false) hl.isList (fun z hz => ?_) ⟨.bl true, H, I, ?_, q⟩
    · obtain ⟨x, t, rfl⟩ := vals_strs rv z (by simpa using hz)
      exact eqAt_str_dict x t e hx.1 hd (by show X.A.units + 1 < cLine; omega)
    · show Value.bool _ = Value.bool true
      simp
theorem op_notInWK {X : Cx} {K : PySem.W.Frag} (h : X.K = K) (hu : X.A.units + 65 < cLine) : OpR X (compareOp .NotIn) (rNotInW K) := h ▸ op_notInW hu
end
end FR
set_option Elab.async false
set_option linter.all false
set_option maxRecDepth 100000
/-! raising defs with a star parameter, called -/
namespace FR
open PySem PySem.Spec PyProof.Rows L2 TL
theorem okStarX {P : Program} {w : World} {K : PySem.W.Frag} {mg : Str → Option Value} {base : Heap} {x qual pv : Str} {st : Stmt} {f : Addr} {fd : FuncData} {N ps : List Str} {k : Nat} {sp : Sp} (F : L2.Fun K x qual st f fd) (S : FnScope N (ps ++ [pv]) (defScope st))
    (hb : ∀ (kV doc pm : Value) (an : Option Addr) (cdv ct : Value) (us rest : List Value), us.length = ps.length → bindArgs (PySem.W.fnOf x qual (defArgs st) (defBody st) (defScope st) .none kV doc pm an cdv ct) ⟨us ++ rest, []⟩ = (newTuple rest >>= fun t => pure (ps.zip us ++ [(pv, t)])))
    (hbody : ∀ (cdv : Value) (A : Around) (outer : List Env) (s : Shared) (H : Hp) (vs : List V) (Q : VK) (E : XK), Room k (A.deeper (envOfC qual (defScope st) s.heap.objs.size f cdv)) → sp vs H Q E →
      ∃ t, PSs (cxOf (L2.CX P w) P w K mg base N qual (defScope st) f cdv A outer s H E) (defBody st) t ∧ t { nx := fun _ H' => Q .non H', rt := Q } (start N vs) H) :
    FnR P w K mg base (L2.CX P w) (k + 1) f (fun vs H Q E => ∃ ws rest, vs = ws ++ rest ∧ ws.length = ps.length ∧ rest.length ≤ sizeLine ∧ ∀ p, H p = Option.none → sp (ws ++ [V.ref p]) (upd H p (.tup rest)) Q E) := by
  obtain ⟨oc, od, kV, doc, pm, an, cdv, ct, osl, rfl, lk, hcd⟩ := F.ex
  exact StX.fn_star lk hcd S StX.cxUp (hb kV doc pm an cdv ct) fun A outer s H vs Q E hr hsp => hbody cdv A outer s H vs Q E hr hsp
section
variable {X : Cx} {CX : CXT} {k : Nat} {f : Addr} {sp : Sp} {E : L2.St → XK} {x : Str} {e : Expr} {es : List Expr} {t : TA} {p pos : Pos}
theorem pe_callRX (F : FnR X.prog X.w X.K X.mg X.base CX k f sp) (hr : Room k X.A) (hk : PySem.W.keepIn X.K (.ref f) = true) (hg : Gl X x) (hm : X.mg x = some (.ref f)) (hx : ∀ σ, PassesAt CX X σ (E σ)) (ha : PA X (e :: es) t) (hd : (x == ("__debug__" : Str)) = false := by decide)
    (he : starEach (e :: es) X.env = (false, eval e X.env) :: starEach es X.env := by rfl) (hpl : (backTo pos (starEach es X.env)).any (·.1) = false := by rfl) :
    PE X (.Call (.Name x p) (e :: es) [] pos) (fun σ H Q => t σ H fun vs H1 => sp vs H1 Q (E σ)) := ⟨fun pins s σ H Q I h => by
  refine wpAny_Call_Name_kw (ld_glob I hg hm (PySem.W.callWith_K (h₀ := X.base) I.ok.mod.kin hk (thn (ha.run pos pins s σ H _ I h) fun us s1 hz => ?_) he hpl) hd)
  obtain ⟨vs, H1, I1, r, q⟩ := hz
  refine ⟨I1.kIn, wpAny_call (codeAny_mono (F X.A X.stack s1 H1 us vs Q (E σ) hr I1.env0 r q) fun rr s' hq => ?_)⟩
  match rr, hq with
  | .error ee, hq => exact hx σ pins H1 s1 ee s' I1 hq
  | .ok (.ret u), hq => exact I1.after hq
  | .ok .next, hq => exact hq.elim
  | .ok .brk, hq => exact hq.elim
  | .ok .cont, hq => exact hq.elim⟩
end
end FR
set_option Elab.async false
set_option linter.all false
set_option maxRecDepth 100000
/-! how long a shown list is; facts that hang on some addresses alone -/
namespace FR
open PySem PySem.Spec PyProof.Rows L2 TL
theorem len_sep : (Str.ofString ", ").length = 2 := by decide +kernel
theorem len_open : (Str.ofString "[").length = 1 := by decide +kernel
theorem len_close : (Str.ofString "]").length = 1 := by decide +kernel
theorem len_none : (Str.ofString "").length = 0 := by decide +kernel
theorem shown3 (a b c : PyData) : (PyData.list [a, b, c]).shown.length = a.shown.length + b.shown.length + c.shown.length + 6 := by
  show (listText [a.shown, b.shown, c.shown]).length = _
  unfold listText
  rw [len_app, len_close]
  show ((((((Str.ofString "[" ++ Str.ofString "") ++ a.shown) ++ Str.ofString ", ") ++ b.shown) ++ Str.ofString ", ") ++ c.shown).length + 1 = _
  rw [len_app, len_app, len_app, len_app, len_app, len_app, len_open, len_none, len_sep]
  omega
theorem shown2 (a b : PyData) : (PyData.list [a, b]).shown.length = a.shown.length + b.shown.length + 4 := by
  show (listText [a.shown, b.shown]).length = _
  unfold listText
  rw [len_app, len_close]
  show ((((Str.ofString "[" ++ Str.ofString "") ++ a.shown) ++ Str.ofString ", ") ++ b.shown).length + 1 = _
  rw [len_app, len_app, len_app, len_app, len_open, len_none, len_sep]
  omega
theorem Keep.trans0 {H H1 : Hp} {D : Addr} {o : HO} (k : Keep [] H H1) (hD : H D = none) : Keep [] H (upd H1 D o) := fun b u e hb => by
  rw [upd_ne (ne_of_none e hD)]
  exact k b u e hb
def Held (S : List Addr) (H : Hp) (F : Hp → Prop) : Prop := (∀ a ∈ S, H a ≠ none) ∧ ∀ H', (∀ a ∈ S, H' a = H a) → F H'
section
variable {S T M : List Addr} {H H' : Hp} {F G : Hp → Prop}
theorem Held.at (h : Held S H F) : F H := h.2 H fun _ _ => rfl
theorem Held.mono (h : Held S H F) (k : Keep M H H') (d : ∀ a ∈ S, a ∉ M) : Held S H' F := by
  have e : ∀ a ∈ S, H' a = H a := fun a ha => by
    cases e : H a with
    | none => exact absurd e (h.1 a ha)
    | some o => exact k a o e (d a ha)
  exact ⟨fun a ha => by rw [e a ha]; exact h.1 a ha, fun H2 e2 => h.2 H2 fun a ha => (e2 a ha).trans (e a ha)⟩
theorem Held.mono0 (h : Held S H F) (k : Keep [] H H') : Held S H' F := h.mono k (by simp)
theorem Held.and (h : Held S H F) (g : Held T H G) : Held (S ++ T) H (fun H => F H ∧ G H) :=
  ⟨fun a ha => (List.mem_append.mp ha).elim (h.1 a) (g.1 a), fun H2 e => ⟨h.2 H2 fun a ha => e a (List.mem_append_left _ ha), g.2 H2 fun a ha => e a (List.mem_append_right _ ha)⟩⟩
theorem Held.imp (h : Held S H F) (i : ∀ H, F H → G H) : Held S H G := ⟨h.1, fun H2 e => i _ (h.2 H2 e)⟩
theorem Held.none (h : ∀ H, F H) : Held [] H F := ⟨by simp, fun H2 _ => h H2⟩
theorem Held.one {a : Addr} {o : HO} (h : H a = some o) (i : ∀ H2 : Hp, H2 a = some o → F H2) : Held [a] H F := ⟨fun x hx => by rw [List.mem_singleton.mp hx, h]; simp, fun H2 e => i H2 ((e a (by simp)).trans h)⟩
theorem Held.fresh (h : Held S H F) {p : Addr} (np : H p = Option.none) : p ∉ S := fun hp => h.1 p hp np
end
theorem Dq.mono {H H' : Hp} (k : Keep [] H H') {v : V} {d : PyData} (h : Dq H v d) : Dq H' v d := by
  refine Dq.rec (motive_1 := fun v d _ => Dq H' v d) (motive_2 := fun vs ds _ => DqAll H' vs ds) (motive_3 := fun vs ds _ => DqKv H' vs ds) .non .bl .int .str ?_ ?_ ?_ .nil (fun _ _ a b => .cons a b) .nil (fun _ _ a b => .cons a b) h
  · intro a xs ds hx hb _ ih
    exact .lst (k _ _ hx (by simp)) hb ih
  · intro a xs ds hx _ ih
    exact .tup (k _ _ hx (by simp)) ih
  · intro a kvs ds hx _ ih
    exact .dct (k _ _ hx (by simp)) ih
theorem u65 {k : Nat} {A : Around} (r : Room k A) : A.units + 65 < cLine := by have := r.un; omega
theorem okG0 {P : Program} {w : World} {K : PySem.W.Frag} {mg : Str → Option Value} {base : Heap} {k : Nat} {f : Addr} {sp : Sp} {x qual : Str} {st : Stmt} {fd : FuncData} {N ps : List Str} (F : L2.Fun K x qual st f fd) (S : FnScope N ps (defScope st)) (B : Binds K fd ps []) (hlen : ∀ vs H Q E, sp vs H Q E → vs.length = ps.length)
    (hbody : ∀ (cdv : Value) (A : Around) (outer : List Env) (s : Shared) (H : Hp) (vs : List V) (Q : VK) (E : XK), A.guards = some [] → Room k (A.deeper (envOfC qual (defScope st) s.heap.objs.size f cdv)) → sp vs H Q E →
      ∃ t, PSs (cxOf CX0 P w K mg base N qual (defScope st) f cdv A outer s H E).nox (defBody st) t ∧ t { nx := fun _ H' => Q .non H', rt := Q } (start N vs) H) : FnG P w K mg base CX0 (k + 1) f sp :=
  okG F S B hlen fun cdv A outer s H vs Q E hg hr hs => (hbody cdv A outer s H vs Q E hg hr hs).elim fun t h => ⟨t, h.1.nox, h.2⟩
end FR
set_option Elab.async false
set_option linter.all false
set_option maxRecDepth 100000
/-! what `except` and isinstance say of two classes of the text -/
namespace FR
open PySem PySem.Spec PyProof.Rows L2
/-- an error of the class at S is what «except T» names, or not -/
theorem exm_of {K : PySem.W.Frag} {t S : Addr} {b : Bool} (h1 : PySem.W.subIn K (.ref S) (.type "BaseException") = some true) (h2 : PySem.W.isClsIn K S = true) (h3 : PySem.W.typeIn K (.ref S) = some (.type "type")) (h4 : PySem.W.subIn K (.ref t) (.ref S) = some b) :
    PySem.W.exmOne K (.ref t) (.ref S) = some b := by
  have e1 : (PySem.W.subIn K (.ref S) (.type "BaseException") == some true) = true := by rw [h1] <;> rfl
  have e2 : ((PySem.W.clsIn K S).isSome && PySem.W.typeIn K (.ref S) == some (.type "type")) = true := by
    rw [show (PySem.W.clsIn K S).isSome = true from h2, h3] <;> rfl
  unfold PySem.W.exmOne
  rw [if_pos e1]
  show (if ((PySem.W.clsIn K S).isSome && PySem.W.typeIn K (.ref S) == some (.type "type")) = true then PySem.W.subIn K (.ref t) (.ref S) else none) = some b
  rw [if_pos e2]
  exact h4
theorem kit_of {K : PySem.W.Frag} {t S : Addr} {b : Bool} (hs : PySem.W.subIn K (.ref t) (.ref t) = some true) (h2 : PySem.W.isClsIn K S = true) (h3 : PySem.W.typeIn K (.ref S) = some (.type "type")) (h4 : PySem.W.subIn K (.ref t) (.ref S) = some b) :
    PySem.W.kitOne K (.ref t) (.ref S) = some b := by
  have e2 : ((PySem.W.clsIn K S).isSome && PySem.W.typeIn K (.ref S) == some (.type "type")) = true := by
    rw [show (PySem.W.clsIn K S).isSome = true from h2, h3] <;> rfl
  unfold PySem.W.kitOne
  by_cases e : ((Value.ref t : Value) == .ref S) = true
  · rw [if_pos e]
    have e' : t = S := by simpa using e
    subst e'
    exact hs.symm.trans h4
  · rw [if_neg e]
    show (if ((PySem.W.clsIn K S).isSome && PySem.W.typeIn K (.ref S) == some (.type "type")) = true then PySem.W.subIn K (.ref t) (.ref S) else none) = some b
    rw [if_pos e2]
    exact h4

end FR
set_option Elab.async false
set_option linter.all false
set_option maxRecDepth 100000
/-! x = e.replace(old, new) in a def: it wants that something has been made before, as it has where a def runs -/
namespace FR
open PySem PySem.Spec PyProof.Rows L2 TL
theorem okT {P : Program} {w : World} {K : PySem.W.Frag} {mg : Str → Option Value} {base : Heap} {x qual : Str} {st : Stmt} {f : Addr} {fd : FuncData} {N ps : List Str} {k : Nat} {sp : Sp}
    (F : Fun K x qual st f fd) (S : FnScope N ps (defScope st)) (nc : ∀ y ∈ (defScope st).names, y.2 ≠ NameKind.cell) (hp : 1 ≤ ps.length) (len : ∀ vs H Q E, sp vs H Q E → vs.length = ps.length)
    (body : ∀ (cdv : Value) (A : Around) (outer : List Env) (s : Shared) (H : Hp) (vs : List V) (Q : VK) (E : XK), Room k (A.deeper (envOfC qual (defScope st) s.heap.objs.size f cdv)) → sp vs H Q E →
      ∃ t, PSsT (cxOf CX0 P w K mg base N qual (defScope st) f cdv A outer s H E) (defBody st) t ∧ t { nx := fun _ H' => Q .non H', rt := Q } (start N vs) H) :
    FnOk P w K mg base CX0 (k + 1) f fd ps sp := by
  obtain ⟨oc, od, kV, doc, pm, an, cdv, ct, osl, rfl, hl, hc⟩ := F.ex
  exact fn_ofT hl hc S nc hp len fun A outer s H vs Q E hr h => body cdv A outer s H vs Q E hr h
theorem pst_asg {X : Cx} {pos : Pos} {tg e : Expr} {te : TE} {g : TG} (he : PET X e te) (hg : PG X tg g) (h1 : swapsWithSole [tg] e pos.line X.env = pure false := by rfl)
    (h2 : swappedStores [tg] e X.env = pure none := by rfl) (h3 : (assignEach [tg] X.env).map (fun x => x.2) = [assign tg X.env] := by rfl) : PST X (.Assign [tg] e pos) (tAsg te g) := by
  intro pins s σ H D ht I h
  refine wpAny_Assign_stores (wpAny_mono (he pins s σ H _ ht I h) (fun v s1 z => ?_) fun _ _ z => z) h1 h2
  obtain ⟨x, H1, I1, r1, q⟩ := z
  rw [h3]
  unfold assignAll
  exact wpAny_mono (hg.run pins s1 σ H1 x v _ I1 r1 q) (fun u s2 z => z) fun _ _ z => z
/-- without its slashes -/
def noSl (s : Str) : Str := Txt.replace s "/" ""
theorem repl_filter (c : Nat) : ∀ l : List Nat, PySem.StrLaws.replL [c] [] l = l.filter (fun d => d != c)
  | [] => PySem.StrLaws.replL_nil
  | d :: r => by
    by_cases e : d = c
    · subst e
      rw [PySem.StrLaws.replL_hit (by simp) (by simp)]
      simpa using repl_filter d r
    · rw [PySem.StrLaws.replL_miss (by simp [e]), repl_filter c r]
      simp [e]
theorem tl_noSl (s : Str) : tl (noSl s) = (tl s).filter (fun d => d != 47) := by
  refine (PySem.StrLaws.replace_list (x := s) (y := "/") (z := "") (by decide +kernel)).trans ?_
  exact repl_filter 47 _
theorem noSl_asc {s : Str} (a : Asc s) : Asc (noSl s) := fun c hc => a c (by rw [tl_noSl] at hc; exact (List.mem_filter.mp hc).1)
end FR
set_option Elab.async false
set_option linter.all false
set_option maxRecDepth 100000
/-! the parts of a path, and what is left of it without its slashes -/
namespace FR
open PySem PySem.Spec PyProof.Rows L2 TL
theorem spl_all (c : Nat) : ∀ (l acc : List Nat), (spl [c] 0 acc l).flatten = acc ++ l.filter (fun d => d != c)
  | [], acc => by rw [spl_nil]; simp
  | x :: r, acc => by
    by_cases e : pre [c] (x :: r) = true
    · rw [spl_hit e]
      have : x = c := by rw [pre_one] at e; simpa using e
      subst this
      have := spl_all x r []
      simp only [List.flatten_cons]
      show acc ++ (spl [x] 0 [] r).flatten = _
      rw [this]
      simp
    · rw [spl_miss (by simpa using e), spl_all c r (acc ++ [x])]
      have : x ≠ c := by rw [pre_one] at e; simpa using e
      simp [this]
theorem path_parts {s : Str} (h : Txt.startswith s ⟨#[47]⟩ = true) : (((Txt.split s ⟨#[47]⟩).drop 1).map tl).flatten = tl (noSl s) ∧ (Txt.split s ⟨#[47]⟩).drop 1 ≠ [] := by
  rw [starts_one] at h
  have e1 : ((Txt.split s ⟨#[47]⟩).drop 1).map tl = (spl [47] 0 [] (tl s)).drop 1 := by rw [List.map_drop, split_tl _ (by decide)]
  cases e : tl s with
  | nil => rw [e] at h; cases h
  | cons c r =>
    rw [e] at h
    have : c = 47 := by simpa using h
    subst this
    have e2 : (spl [47] 0 [] (47 :: r)).drop 1 = spl [47] 0 [] r := by
      rw [spl_hit (by rw [pre_one]; rfl)]
      rfl
    rw [e, e2] at e1
    constructor
    · rw [e1, spl_all, tl_noSl, e]
      simp
    · intro h0
      rw [h0] at e1
      have : ∀ (l acc : List Nat), spl [47] 0 acc l ≠ [] := by
        intro l
        induction l with
        | nil => intro acc; rw [spl_nil]; simp
        | cons x r ih =>
          intro acc
          by_cases e : pre [47] (x :: r) = true
          · rw [spl_hit e]; simp
          · rw [spl_miss (by simpa using e)]; exact ih _
      exact this r [] e1.symm
theorem path_split {s : Str} (h : Txt.startswith s ⟨#[47]⟩ = true) (p : Nat → Bool) :
    ((Txt.split s ⟨#[47]⟩).drop 1).all (fun u => decide (u ≠ Str.ofString "" ∧ u.length ≤ 8) && (tl u).all p) =
      ((decide (noSl s ≠ Str.ofString "") && (tl (noSl s)).all p) && ((Txt.split s ⟨#[47]⟩).drop 1).all (fun u => decide (1 ≤ u.length ∧ u.length ≤ 8))) := by
  obtain ⟨hf, hn⟩ := path_parts h
  have ne : ∀ u : Str, u ≠ Str.ofString "" ↔ 1 ≤ u.length := fun u => by
    constructor
    · intro e
      rcases Nat.eq_zero_or_pos u.length with z | z
      · refine absurd (ext_tl ?_) e
        rw [len_tl] at z
        rw [List.length_eq_zero_iff.mp z]
        decide +kernel
      · exact z
    · intro e h
      rw [h] at e
      exact absurd e (by decide +kernel)
  rw [Bool.eq_iff_iff, ← hf, List.all_flatten, List.all_map]
  simp only [Bool.and_eq_true, List.all_eq_true, decide_eq_true_eq, Function.comp]
  generalize (Txt.split s ⟨#[47]⟩).drop 1 = ps at hf hn
  constructor
  · intro a
    refine ⟨⟨?_, fun u hu => (a u hu).2⟩, fun u hu => ⟨(ne u).mp (a u hu).1.1, (a u hu).1.2⟩⟩
    intro e
    cases ps with
    | nil => exact hn rfl
    | cons u r =>
      have hu := (ne u).mp (a u (by simp)).1.1
      rw [e] at hf
      have := congrArg List.length hf
      rw [List.map_cons, List.flatten_cons, List.length_append, ← len_tl] at this
      have z : (tl (Str.ofString "")).length = 0 := by decide +kernel
      omega
  · rintro ⟨⟨_, a⟩, b⟩ u hu
    exact ⟨⟨(ne u).mpr (b u hu).1, (b u hu).2⟩, a u hu⟩
end FR
set_option Elab.async false
set_option linter.all false
set_option maxRecDepth 100000
/-! the last slash of a path; a path without its slashes -/
namespace FR
open PySem PySem.Spec PyProof.Rows L2 TL
theorem rfind_one {x : Str} {c i : Nat} (h : (tl x)[i]? = some c) (h2 : ∀ k, i < k → (tl x)[k]? ≠ some c) : Txt.rfind x ⟨#[c]⟩ = (i : Int) := by
  unfold Txt.rfind
  rcases PySem.StrLaws.last_spec x ⟨#[c]⟩ with ⟨_, hn⟩ | ⟨j, e, hj, hm⟩
  · exact absurd ((PySem.StrLaws.subAt_one x c i).mpr h) (hn i)
  · rw [e]
    have hj' := (PySem.StrLaws.subAt_one x c j).mp hj
    rcases Nat.lt_trichotomy i j with l | l | l
    · exact absurd hj' (h2 j l)
    · rw [l]
    · exact absurd ((PySem.StrLaws.subAt_one x c i).mpr h) (hm i l)
theorem flat_app (ms : List Str) (n : Str) : flat (ms ++ [n]) = flat ms ++ 47 :: tl n := by simp [flat]
theorem rfind_path {ms : List Str} {n : Str} (hn : Nm n) : Txt.rfind (pathOf (ms ++ [n])) (Str.ofString "/") = ((flat ms).length : Int) ∧ cutS (pathOf (ms ++ [n])) none (some ((flat ms).length : Int)) = cat ms := by
  have e : tl (pathOf (ms ++ [n])) = flat ms ++ 47 :: tl n := by rw [pathOf_ne (by simp), tl_cat, flat_app]
  constructor
  · rw [slash]
    refine rfind_one (by rw [e, List.getElem?_append_right (Nat.le_refl _), Nat.sub_self]; rfl) fun k hk h => ?_
    rw [e, List.getElem?_append_right (by omega)] at h
    obtain ⟨j, hj⟩ : ∃ j, k - (flat ms).length = j + 1 := ⟨k - (flat ms).length - 1, by omega⟩
    rw [hj, List.getElem?_cons_succ] at h
    have := hn.lt (List.mem_of_getElem? h)
    omega
  · refine ext_tl ?_
    rw [tl_cutTo, e, tl_cat, List.take_left]
theorem low_of {s : Str} (h0 : tl s ≠ []) (h : ∀ c ∈ tl s, lc c = true) : Txt.isascii s = true ∧ Txt.isalpha s = true ∧ Txt.islower s = true := by
  have ha : Asc s := fun c hc => by have := of_decide_eq_true (h c hc); omega
  refine ⟨isascii_asc ha, ?_, ?_⟩
  · show (decide (s.length > 0) && s.cps.all Unicode.isAlpha) = true
    rw [all_tl, Bool.and_eq_true, decide_eq_true_eq, List.all_eq_true, len_tl]
    exact ⟨List.length_pos_iff.mpr h0, fun c hc => (lc_alpha ⟨c, ha c hc⟩ (h c hc)).1⟩
  · show (s.cps.any Unicode.isLower && !s.cps.any fun c => Unicode.isUpper c || Unicode.isTitle c) = true
    rw [any_tl, any_tl, Bool.and_eq_true, List.any_eq_true, Bool.not_eq_true', List.any_eq_false]
    refine ⟨?_, fun c hc => by have := (lc_alpha ⟨c, ha c hc⟩ (h c hc)).2.2; simpa using this⟩
    obtain ⟨c, hc⟩ := List.exists_mem_of_ne_nil _ h0
    exact ⟨c, hc, (lc_alpha ⟨c, ha c hc⟩ (h c hc)).2.1⟩
theorem path_noSl {ns : List Str} (h : Nms ns) (e : ns ≠ []) : Txt.isascii (noSl (pathOf ns)) = true ∧ Txt.isalpha (noSl (pathOf ns)) = true ∧ Txt.islower (noSl (pathOf ns)) = true := by
  have hm : ∀ c, c ∈ tl (noSl (pathOf ns)) ↔ ∃ s ∈ ns, c ∈ tl s := fun c => by
    rw [tl_noSl, pathOf_ne e, tl_cat, List.mem_filter]
    unfold flat
    rw [List.mem_flatten]
    constructor
    · rintro ⟨⟨l, hl, hc⟩, hne⟩
      obtain ⟨s, hs, rfl⟩ := List.mem_map.mp hl
      rcases List.mem_cons.mp hc with rfl | hc
      · simp at hne
      · exact ⟨s, hs, hc⟩
    · rintro ⟨s, hs, hc⟩
      refine ⟨⟨_, List.mem_map.mpr ⟨s, hs, rfl⟩, List.mem_cons_of_mem _ hc⟩, ?_⟩
      have := (h s hs).lt hc
      simp
      omega
  refine low_of (fun z => ?_) fun c hc => ?_
  · cases ns with
    | nil => exact e rfl
    | cons n r =>
      have h0 := (h n List.mem_cons_self).l0
      rw [len_tl] at h0
      obtain ⟨c, hc⟩ := List.exists_mem_of_length_pos h0
      have := (hm c).mpr ⟨n, List.mem_cons_self, hc⟩
      rw [z] at this
      cases this
  · obtain ⟨s, hs, hc⟩ := (hm c).mp hc
    exact (h s hs).lo c hc
end FR
set_option Elab.async false
set_option linter.all false
set_option maxRecDepth 100000
/-! operators, `in`, len, bool, str and == of own classes whose instances have a dict -/
namespace FR
open PySem PySem.Spec PyProof.Rows L2 TL
open SlX (cmpback run_at)
section
variable {X : Cx} {pins : List (Addr × Obj)} {σ : L2.St} {H : Hp} {s : Shared} {C g : Addr} {n : Nat} {sp : Sp} {E : XK} {CX : CXT}
theorem ins_inst {a dx : Addr} {fs : List (Str × V)} (I : Inv X pins σ H s) (e : H a = some (.ins C dx fs)) : ∃ od, PySem.W.InstAt s.heap a (PySem.W.instObj C dx) C (some od) := by
  obtain ⟨mA, O, _⟩ := ins_get I.hok e
  obtain ⟨od, J, _⟩ := O.look
  exact ⟨od, J⟩
/-- x op y, both of the class at C, its def for op at g -/
def rBinI (C : Addr) (sp : Sp) (E : XK) : R2 := fun x y H Q => ∃ a dx fs b dy gs, x = .ref a ∧ y = .ref b ∧ H a = some (.ins C dx fs) ∧ H b = some (.ins C dy gs) ∧ sp [x, y] H Q E
theorem op_binI {op : Operator} (hc : PySem.W.selfFirst X.K C = true) (hs : PySem.W.findIn X.K (.ref C) (PySem.dunder op.info.2) = some (some (.ref g))) (hf : PySem.W.isFn X.K (.ref g) = true) (F : FnR X.prog X.w X.K X.mg X.base CX n g sp)
    (hr : Room n X.A) (hx : Passes CX X E) : OpR X (binaryOp op) (rBinI C sp E) := by
  intro pins s σ H x y v u Q I rx ry h
  obtain ⟨a, dx, fs, b, dy, gs, rfl, rfl, ha, hb, q⟩ := h
  cases (show v = Value.ref a from rx)
  cases (show u = Value.ref b from ry)
  obtain ⟨od, J⟩ := ins_inst I ha
  obtain ⟨od', J'⟩ := ins_inst I hb
  obtain ⟨m, hF⟩ := I.fr
  refine PySem.W.binop_K (op := op) hF I.ok.mod.kin J J'.type hc hs hf ?_
  refine wpAny_mono (wpAny_call (run_fnR (us := [.ref a, .ref b]) (vs := [.ref a, .ref b]) F hr hx I (.cons rfl (.cons rfl .nil)) q)) (fun w s' z => ?_) fun _ _ x => x
  obtain ⟨z', H', I', rz, qz⟩ := z
  exact cmpback rz ⟨z', H', I', rz, qz⟩
/-- ~x -/
def rInvI (C : Addr) (sp : Sp) (E : XK) : V → Hp → VK → Prop := fun x H Q => ∃ a dx fs, x = .ref a ∧ H a = some (.ins C dx fs) ∧ sp [x] H Q E
theorem un_invI (hs : PySem.W.findIn X.K (.ref C) "__invert__" = some (some (.ref g))) (hf : PySem.W.isFn X.K (.ref g) = true) (F : FnR X.prog X.w X.K X.mg X.base CX n g sp)
    (hr : Room n X.A) (hx : Passes CX X E) : UnR X (unaryOp .Invert) (rInvI C sp E) := by
  intro pins s σ H x v Q I rx h
  obtain ⟨a, dx, fs, rfl, ha, q⟩ := h
  cases (show v = Value.ref a from rx)
  obtain ⟨od, J⟩ := ins_inst I ha
  obtain ⟨m, hF⟩ := I.fr
  exact PySem.W.ksp_inv hF I.ok.mod.kin J hs hf (wpAny_call (run_fnR (us := [.ref a]) (vs := [.ref a]) F hr hx I (.cons rfl .nil) q))
/-- x op y (a comparison), x of the class at C whose def for it is at g, y an instance of it too -/
def rCmpI (C : Addr) (sp : Sp) (E : XK) : R2 := fun x y H Q => ∃ a dx fs b dy gs, x = .ref a ∧ y = .ref b ∧ H a = some (.ins C dx fs) ∧ H b = some (.ins C dy gs) ∧ sp [x, y] H Q E
theorem op_cmpI {op : CmpOp} (hop : ∀ a b, compareOp op a b = richCompare op a b) (hs : PySem.W.findIn X.K (.ref C) (cmpInfo op).2.1 = some (some (.ref g))) (hf : PySem.W.isFn X.K (.ref g) = true) (F : FnR X.prog X.w X.K X.mg X.base CX n g sp)
    (hr : Room n X.A) (hx : Passes CX X E) : OpR X (compareOp op) (rCmpI C sp E) := by
  intro pins s σ H x y v u Q I rx ry h
  obtain ⟨a, dx, fs, b, dy, gs, rfl, rfl, ha, hb, q⟩ := h
  cases (show v = Value.ref a from rx)
  cases (show u = Value.ref b from ry)
  obtain ⟨od, J⟩ := ins_inst I ha
  obtain ⟨od', J'⟩ := ins_inst I hb
  obtain ⟨m, hF⟩ := I.fr
  rw [hop]
  refine PySem.W.cmp_K (op := op) (tb := .ref C) hr.units0 hF I.ok.mod.kin J J'.type (by unfold PySem.W.notFirst; simp) hs hf ?_
  refine wpAny_mono (wpAny_call (run_fnR (us := [.ref a, .ref b]) (vs := [.ref a, .ref b]) F hr hx I (.cons rfl (.cons rfl .nil)) q)) (fun w s' z => ?_) fun _ _ x => x
  obtain ⟨z', H', I', rz, qz⟩ := z
  exact cmpback rz ⟨z', H', I', rz, qz⟩
/-- v in x, x of the class at C; the answer of its def is a boolean -/
def rInI (C : Addr) (sp : Sp) (E : XK) : R2 := fun v x H Q => ∃ a dx fs, x = .ref a ∧ H a = some (.ins C dx fs) ∧ sp [x, v] H (fun z H' => ∃ b, z = .bl b ∧ Q (.bl b) H') E
theorem op_inI (hs : PySem.W.findIn X.K (.ref C) "__contains__" = some (some (.ref g))) (hf : PySem.W.isFn X.K (.ref g) = true) (F : FnR X.prog X.w X.K X.mg X.base CX n g sp)
    (hr : Room n X.A) (hx : Passes CX X E) : OpR X (compareOp .In) (rInI C sp E) := by
  intro pins s σ H x y v u Q I rx ry h
  obtain ⟨a, dx, fs, rfl, ha, q⟩ := h
  cases (show u = Value.ref a from ry)
  obtain ⟨od, J⟩ := ins_inst I ha
  obtain ⟨m, hF⟩ := I.fr
  refine PySem.W.in_K hF I.ok.mod.kin J hs hf (wpAny_mono (wpAny_call (run_fnR (us := [.ref a, v]) (vs := [.ref a, x]) F hr hx I (.cons rfl (.cons rx .nil)) q)) (fun w s' z => ?_) fun _ _ x => x)
  obtain ⟨z', H', I', rz, b, eb, qz⟩ := z
  subst eb
  cases (show w = Value.bool b from rz)
  exact wpAny_truthy_bool ⟨.bl b, H', I', rfl, qz⟩
/-- the truth of x, of the class at C with an own __bool__ -/
def rTruI (C : Addr) (sp : Sp) (E : XK) : V → Hp → (Bool → Hp → Prop) → Prop := fun x H Q => ∃ a dx fs, x = .ref a ∧ H a = some (.ins C dx fs) ∧ sp [x] H (fun z H' => ∃ b, z = .bl b ∧ Q b H') E
theorem tru_I (hs : PySem.W.findIn X.K (.ref C) "__bool__" = some (some (.ref g))) (hf : PySem.W.isFn X.K (.ref g) = true) (F : FnR X.prog X.w X.K X.mg X.base CX n g sp)
    (hr : Room n X.A) (hx : Passes CX X E) : TruR X (rTruI C sp E) := by
  intro pins s σ H x v Q I rx h
  obtain ⟨a, dx, fs, rfl, ha, q⟩ := h
  cases (show v = Value.ref a from rx)
  obtain ⟨od, J⟩ := ins_inst I ha
  obtain ⟨m, hF⟩ := I.fr
  refine PySem.W.truthy_K hF I.ok.mod.kin J hs hf (wpAny_mono (wpAny_call (run_fnR (us := [.ref a]) (vs := [.ref a]) F hr hx I (.cons rfl .nil) q)) (fun w s' z => ?_) fun _ _ x => x)
  obtain ⟨z', H', I', rz, b, eb, qz⟩ := z
  subst eb
  cases (show w = Value.bool b from rz)
  exact ⟨H', I', qz⟩
/-- len(x), x of the class at C with an own __len__ -/
def rLenI (C : Addr) (sp : Sp) (E : XK) : List V → Hp → VK → Prop := fun xs H Q => ∃ a dx fs, xs = [.ref a] ∧ H a = some (.ins C dx fs) ∧ sp xs H (fun z H' => ∃ i, z = .int i ∧ 0 ≤ i ∧ i < 2 ^ 63 ∧ Q (.int i) H') E
theorem call_lenI (hs : PySem.W.findIn X.K (.ref C) "__len__" = some (some (.ref g))) (hf : PySem.W.isFn X.K (.ref g) = true) (F : FnR X.prog X.w X.K X.mg X.base CX n g sp)
    (hr : Room (n + 1) X.A) (hx : Passes CX X E) : CallR X (.builtin "len") (rLenI C sp E) := by
  intro pins s σ H xs us Q I r h
  obtain ⟨a, dx, fs, rfl, ha, q⟩ := h
  obtain ⟨u, rfl, ru⟩ := r.one
  cases (show u = Value.ref a from ru)
  obtain ⟨od, J⟩ := ins_inst I ha
  obtain ⟨m, hF⟩ := I.fr
  refine PySem.W.len_K hF I.ok.mod.kin J hs hf (wpAny_mono (wpAny_call (run_at (us := [.ref a]) (ws := [.ref a]) F hr.in1 I.env0.in1 hx I (.cons rfl .nil) q)) (fun w s' z => ?_) fun _ _ x => x)
  obtain ⟨z', H', I', rz, i, ei, h0, h1, qz⟩ := z
  subst ei
  obtain ⟨t, e⟩ := (show ∃ t, w = Value.int i t from rz)
  cases e
  exact ⟨⟨h0, h1⟩, .int i, H', I'.tok _, ⟨_, rfl⟩, qz⟩
/-- str(x), x of the class at C with an own __str__ -/
def rStrI (C : Addr) (sp : Sp) (E : XK) : List V → Hp → VK → Prop := fun xs H Q => ∃ a dx fs, xs = [.ref a] ∧ H a = some (.ins C dx fs) ∧ sp xs H (fun z H' => ∃ t, z = .str t ∧ Q (.str t) H') E
theorem call_strI (hs : PySem.W.findIn X.K (.ref C) "__str__" = some (some (.ref g))) (hf : PySem.W.isFn X.K (.ref g) = true) (F : FnR X.prog X.w X.K X.mg X.base CX n g sp)
    (hr : Room (n + 2) X.A) (hx : Passes CX X E) : CallR X (.type "str") (rStrI C sp E) := by
  intro pins s σ H xs us Q I r h
  obtain ⟨a, dx, fs, rfl, ha, q⟩ := h
  obtain ⟨u, rfl, ru⟩ := r.one
  cases (show u = Value.ref a from ru)
  obtain ⟨od, J⟩ := ins_inst I ha
  have hr2 : Room n X.A.in1.in1 := (show Room (n + 1) X.A.in1 from Room.in1 hr).in1
  refine PySem.W.kso_call hr2.units0 I.kIn J hs hf (wpAny_mono (wpAny_call (run_at (us := [.ref a]) (ws := [.ref a]) F hr2 I.env0.in1.in1 hx I (.cons rfl .nil) q)) (fun w s' z => ?_) fun _ _ x => x)
  obtain ⟨z', H', I', rz, t, et, qz⟩ := z
  subst et
  obtain ⟨t', e⟩ := (show ∃ t', w = Value.str t t' from rz)
  cases e
  exact ⟨.str t, H', I', ⟨_, rfl⟩, qz⟩
end
end FR
set_option Elab.async false
set_option linter.all false
set_option maxRecDepth 100000
/-! x op= y of own classes without a def of their own for op= -/
namespace FR
open PySem PySem.W PySem.Calls PyProof.Rows
section
variable {prog : Program} {w : World} {M : Model} {A : Around} {E : Value → Shared → Prop} {s : Shared} {K : Frag} {x C L f : Addr} {h₀ : Heap} {m : Str → Option Value} {ox : Obj} {od : Option Obj} {nm : String} {cd : ClassData}
theorem inplace_no {h : Heap} {add : Bool} (X : K.In h) (hc : clsIn K C = some cd) (hm : cd.mro = [.ref C, .type "object"]) (h1 : findIn K (.ref C) (dunderI nm) = some none) (h2 : findIn K (.type "object") (dunderI nm) = some none) :
    Looks M h (fillsInplaceSlot (.ref C) nm add) false := by
  intro A Q E s k q
  have Lm : Looks M h (mroOf (.ref C)) cd.mro := (looks_clsIn X hc).andThen (f := fun cd => pure cd.mro) .now
  have Lm' := Lm.keeps k
  obtain ⟨hh, g, d, tk, os⟩ := s
  have X' : K.In hh := X.keeps k
  have L1 : Looks M hh (typeLookup (.ref C) (dunderI nm)) none := looks_findIn X' h1
  have L2 : Looks M hh (typeLookup (.type "object") (dunderI nm)) none := looks_findIn X' h2
  unfold fillsInplaceSlot
  refine wpAny_bind (Lm'.at ?_)
  rw [hm, List.anyM_cons]
  refine wpAny_bind ?_
  repeat lk
  exact q
theorem bin1_own {b : Value} {Q : Value → Shared → Prop} (X : K.In s.heap) (I : InstAt s.heap x ox C od) (hb : Looks M s.heap (typeOf b) (.ref C)) (hc : clsIn K C = some cd) (hm : cd.mro = [.ref C, .type "object"])
    (hs : findIn K (.ref C) (PySem.dunder nm) = some (some (.ref f))) (hf : isFn K (.ref f) = true)
    (h : wpAny M A (call (.ref f) [.ref x, b]) (PySem.W.CmpBack Q) E s) : wpAny M A (binaryOp1 nm (.ref x) b) (fun r s' => ∃ v, r = some v ∧ Q v s') E s := by
  have one := ksp_try X I hs hf h
  obtain ⟨hh, g, d, tk, os⟩ := s
  have L1 : Looks M hh (typeOf (.ref x)) (.ref C) := I.type
  have L2 : Looks M hh (typeOf b) (.ref C) := hb
  have L3 : Looks M hh (fillsNumberSlot (.ref C) nm) true := fills_K X hc hm hs
  unfold binaryOp1
  refine wpAny_bind (L1.at (wpAny_bind (L2.at (wpAny_bind (L3.at ?_)))))
  simp only [beq_self_eq_true, if_true]
  ksp_lk
  refine wpAny_mono one (fun r s' hr' => ?_) fun _ _ e => e
  obtain ⟨v, rfl, hq⟩ := hr'
  ksp_lk
  exact ⟨_, rfl, hq⟩
theorem inplace_own {op : Operator} {b : Value} {Q : Value → Shared → Prop} (X : K.In s.heap) (I : InstAt s.heap x ox C od) (hb : Looks M s.heap (typeOf b) (.ref C)) (hc : clsIn K C = some cd) (hm : cd.mro = [.ref C, .type "object"])
    (h1 : findIn K (.ref C) (dunderI op.info.2) = some none) (h2 : findIn K (.type "object") (dunderI op.info.2) = some none)
    (hs : findIn K (.ref C) (PySem.dunder op.info.2) = some (some (.ref f))) (hf : isFn K (.ref f) = true)
    (h : wpAny M A (call (.ref f) [.ref x, b]) (PySem.W.CmpBack Q) E s) : wpAny M A (inplaceOp op (.ref x) b) Q E s := by
  have one := bin1_own X I hb hc hm hs hf h
  obtain ⟨hh, g, d, tk, os⟩ := s
  have L1 : Looks M hh (typeOf (.ref x)) (.ref C) := I.type
  have L2 : Looks M hh (fillsInplaceSlot (.ref C) op.info.2 (op == .Add)) false := inplace_no X hc hm h1 h2
  unfold inplaceOp
  refine wpAny_holding ?_
  refine wpAny_bind (L1.at (wpAny_bind (L2.at ?_)))
  simp only [Bool.false_eq_true, if_false]
  refine wpAny_bind (wpAny_mono one (fun r s' hr' => ?_) fun _ _ e => e)
  obtain ⟨v, rfl, hq⟩ := hr'
  exact wpAny_pure hq
theorem ifBound_slot {name : Str} {id : String} {args : List Value} {Q : Option Value → Shared → Prop} (X : K.In s.heap) (I : InstAt s.heap x ox C od) (hs : findIn K (.ref C) name = some (some (.builtin id)))
    (hb : ∀ self, bindSpecial (.builtin id) self = pure (.builtin id, [self])) (h : wpAny M A (call (.builtin id) (.ref x :: args)) (fun v => Q (some v)) E s) : wpAny M A (callSpecialIfBound? (.ref x) name args) Q E s := by
  simp only [callSpecialIfBound?, bindSpecialIfBound?]
  refine wpAny_holding (wpAny_bind (wpAny_bind (wpAny_bind (I.type.here ((looks_findIn X hs).here ?_)))))
  simp only [hb]
  refine wpAny_bind (wpAny_askSetting (wpAny_ite ?_))
  have fin : wpAny M A (call (.builtin id) ([.ref x] ++ args) >>= fun v => pure (some v)) Q E s := wpAny_bind (wpAny_mono h (fun v s' h' => wpAny_pure h') fun _ _ h' => h')
  split
  · exact wpAny_bind (wpAny_pure (wpAny_pure (by exact fin)))
  · exact wpAny_tryCatch (wpAny_bind (wpAny_pure (wpAny_pure (by exact fin))))
open Builtin in
/-- object's «not equal» where the class has its own «equal», which answers a boolean -/
theorem objNe_own {b : Value} {Q : Value → Shared → Prop} (hu : A.in1.units < cLine) (X : K.In s.heap) (I : InstAt s.heap x ox C od) (hm : mroIn K C (.type "object") = some true) (hs : findIn K (.ref C) "__eq__" = some (some (.ref f))) (hf : isFn K (.ref f) = true)
    (h : wpAny (model prog w) A.in1 (call (.ref f) [.ref x, b]) (fun r s' => ∃ v, r = .bool v ∧ Q (.bool (!v)) s') E s) : wpAny (model prog w) A (call (.builtin "object.__ne__") [.ref x, b]) Q E s := by
  refine wpAny_call (codeAny_call_builtin PySem.F.cmp_object.ne.plain PySem.F.cmpEntry_ne (check_slot (i := "object.__ne__") (owner := "object") (n := "__ne__") (by decide +kernel) (by decide +kernel) (I.type.andThen (looks_mroIn X hm)) (PySem.F.cmpArgs_ne _ _) ?_))
  unfold Builtin.«object.__ne__»
  refine wpAny_bind (m := slotArgs "__ne__" 1 _) (wpAny_pure ?_)
  refine wpAny_bind (m := cRoomFor _ _) (wpAny_cRoomFor hu ?_)
  refine wpAny_bind (m := callSpecialIfBound? (.ref x) (Str.ofString "__eq__") _) (ifBound_K X I hs hf (wpAny_mono h (fun r s' hq => ?_) fun _ _ y => y))
  obtain ⟨v, rfl, q⟩ := hq
  refine wpAny_bind (wpAny_truthy_bool ?_)
  exact wpAny_pure q
/-- x != b where the class of x has an own «equal» alone -/
theorem rc_ne_own {b tb : Value} {Q : Value → Shared → Prop} (hu : A.units < cLine) (hu1 : A.in1.units < cLine) (X : K.In s.heap) (I : InstAt s.heap x ox C od) (hb : Looks (model prog w) s.heap (typeOf b) tb) (hn : notFirst K C tb = true)
    (hm : mroIn K C (.type "object") = some true) (hne : findIn K (.ref C) "__ne__" = some (some (.builtin "object.__ne__"))) (hs : findIn K (.ref C) "__eq__" = some (some (.ref f))) (hf : isFn K (.ref f) = true)
    (h : wpAny (model prog w) A.in1 (call (.ref f) [.ref x, b]) (fun r s' => ∃ v, r = .bool v ∧ Q (.bool (!v)) s') E s) : wpAny (model prog w) A (richCompare .NotEq (.ref x) b) Q E s := by
  have one : wpAny (model prog w) A (tryCompare (.ref x) (cmpInfo .NotEq).2.1 b) (fun r s' => ∃ v, r = some v ∧ Q v s') E s := by
    unfold tryCompare
    refine wpAny_bind (ifBound_slot X I hne PySem.F.cmp_object.ne.bind (objNe_own hu1 X I hm hs hf (wpAny_mono h (fun v s' hv => ?_) fun _ _ e => e)))
    obtain ⟨v, rfl, q⟩ := hv
    exact ⟨v, rfl, wpAny_pure ⟨_, rfl, q⟩⟩
  unfold richCompare
  simp only [oneThing_ref]
  refine wpAny_holding (wpAny_bind (wpAny_cRoomFor hu ?_))
  refine wpAny_bind (I.type.here (wpAny_bind (hb.here ?_)))
  split
  · rename_i q
    have e : subIn K tb (.ref C) = some false := by
      rcases Bool.or_eq_true_iff.mp hn with e | e
      · rw [beq_iff_eq.mp e] at q; simp at q
      · exact beq_iff_eq.mp e
    refine wpAny_bind ((looks_subIn X e).here ?_)
    simp only [Bool.false_eq_true, if_false]
    refine wpAny_bind (wpAny_mono one (fun r s' z => ?_) fun _ _ e => e)
    obtain ⟨v, rfl, hq⟩ := z
    exact wpAny_pure hq
  · refine wpAny_bind (wpAny_pure ?_)
    simp only [Bool.false_eq_true, if_false]
    refine wpAny_bind (wpAny_mono one (fun r s' z => ?_) fun _ _ e => e)
    obtain ⟨v, rfl, hq⟩ := z
    exact wpAny_pure hq
end
section
open L2
open SlX (cmpback run_at)
variable {X : Cx} {C g : Addr} {n : Nat} {sp : Sp} {E : XK} {CX : CXT}
theorem op_ibinI {op : Operator} {cd : ClassData} (hc : clsIn X.K C = some cd) (hm : cd.mro = [.ref C, .type "object"]) (h1 : findIn X.K (.ref C) (dunderI op.info.2) = some none) (h2 : findIn X.K (.type "object") (dunderI op.info.2) = some none)
    (hs : findIn X.K (.ref C) (PySem.dunder op.info.2) = some (some (.ref g))) (hf : isFn X.K (.ref g) = true) (F : FnR X.prog X.w X.K X.mg X.base CX n g sp) (hr : Room n X.A) (hx : Passes CX X E) : InOp X op (rBinI C sp E) := by
  intro pins s σ H x y v u Q I rx ry h
  obtain ⟨a, dx, fs, b, dy, gs, rfl, rfl, ha, hb, q⟩ := h
  cases (show v = Value.ref a from rx)
  cases (show u = Value.ref b from ry)
  obtain ⟨od, J⟩ := ins_inst I ha
  obtain ⟨od', J'⟩ := ins_inst I hb
  refine inplace_own I.kIn J J'.type hc hm h1 h2 hs hf ?_
  refine wpAny_mono (wpAny_call (run_fnR (us := [.ref a, .ref b]) (vs := [.ref a, .ref b]) F hr hx I (.cons rfl (.cons rfl .nil)) q)) (fun w s' z => ?_) fun _ _ x => x
  obtain ⟨z', H', I', rz, qz⟩ := z
  exact cmpback rz ⟨z', H', I', rz, qz⟩
/-- x != y, both of the class at C with an own «equal» alone -/
def rNeI (C : Addr) (sp : Sp) (E : XK) : R2 := fun x y H Q => ∃ a dx fs b dy gs, x = .ref a ∧ y = .ref b ∧ H a = some (.ins C dx fs) ∧ H b = some (.ins C dy gs) ∧ sp [x, y] H (fun z H' => ∃ v, z = .bl v ∧ Q (.bl (!v)) H') E
theorem op_neI (hm : mroIn X.K C (.type "object") = some true) (hne : findIn X.K (.ref C) "__ne__" = some (some (.builtin "object.__ne__"))) (hs : findIn X.K (.ref C) "__eq__" = some (some (.ref g))) (hf : isFn X.K (.ref g) = true)
    (F : FnR X.prog X.w X.K X.mg X.base CX n g sp) (hr : Room (n + 1) X.A) (hx : Passes CX X E) : OpR X (compareOp .NotEq) (rNeI C sp E) := by
  intro pins s σ H x y v u Q I rx ry h
  obtain ⟨a, dx, fs, b, dy, gs, rfl, rfl, ha, hb, q⟩ := h
  cases (show v = Value.ref a from rx)
  cases (show u = Value.ref b from ry)
  obtain ⟨od, J⟩ := ins_inst I ha
  obtain ⟨od', J'⟩ := ins_inst I hb
  refine rc_ne_own (tb := .ref C) hr.units0 hr.in1.units0 I.kIn J J'.type (by unfold notFirst; simp) hm hne hs hf ?_
  refine wpAny_mono (wpAny_call (run_at (us := [.ref a, .ref b]) (ws := [.ref a, .ref b]) F hr.in1 I.env0.in1 hx I (.cons rfl (.cons rfl .nil)) q)) (fun w s' z => ?_) fun _ _ x => x
  obtain ⟨z', H', I', rz, b', eb, qz⟩ := z
  subst eb
  cases (show w = Value.bool b' from rz)
  exact ⟨b', rfl, .bl (!b'), H', I', rfl, qz⟩
end
end FR
set_option Elab.async false
set_option linter.all false
set_option maxRecDepth 100000
/-! whole numbers as tests; dicts of the module inside a comprehension -/
namespace FR
open PySem PySem.Spec PyProof.Rows L2
def tTruI (ta : TE) : TT := fun σ H Q => ta σ H fun x H' => ∃ i, x = .int i ∧ Q (i != 0) H'
theorem pt_truthI {X : Cx} {a : Expr} {ta : TE} (ha : PE X a ta) (he : ∀ whole, isTrue a X.env whole = (do let v ← whole; standAt a.pos; holding [v] (truthy v))) : PT X a (tTruI ta) := by
  refine ⟨fun pins s σ H Q I h => ?_⟩
  exact isTrue_plain (thn (ha.run pins s σ H _ I h) fun v s1 ⟨x, H1, I1, r1, i, ex, q1⟩ => tru_ok pins s1 σ H1 x v Q I1 r1 ⟨i != 0, by subst ex; rfl, q1⟩) (he _)
theorem ix_kdictK {X : Cx} {K : PySem.W.Frag} {w : World} (hk : X.K = K) (hw : X.w = w) : IxR X (rIxD K w) := by
  subst hk hw
  exact ix_kdict
def rInW (K : PySem.W.Frag) (d : Addr) : R2 := fun x y H Q => ∃ (z : Str) (r : Option Value), x = .str z ∧ y = .ref d ∧ PySem.W.nsIn K d z = some r ∧ Q (.bl r.isSome) H
theorem op_inW {X : Cx} {K : PySem.W.Frag} {w : World} {d : Addr} (hk : X.K = K) (hw : X.w = w) (D : ∃ es n, KDict K w d es n) : OpR X (compareOp .In) (rInW K d) := by
  subst hk hw
  obtain ⟨es, n, D⟩ := D
  exact op_in_kd D
end FR
set_option Elab.async false
set_option linter.all false
set_option maxRecDepth 100000
/-! list(x) of a text -/
namespace FR
open PySem PySem.Spec PyProof.Rows L2 TL
def rListT : List V → Hp → VK → Prop := fun xs H Q => ∃ x : Str, xs = [.str x] ∧ x.cps.size ≤ sizeLine ∧ NewS (.lst ((tl x).map fun c => .str ⟨#[c]⟩)) Q H
theorem call_listT {X : Cx} (hc : X.calm = true) : CallR X (.type "list") rListT := by
  intro pins s σ H xs us Q I r h
  obtain ⟨x, rfl, hz, q⟩ := h
  obtain ⟨u, rfl, t, rfl⟩ : ∃ u, us = [u] ∧ ∃ t, u = Value.str x t := by
    cases r with
    | cons a b => cases b; exact ⟨_, rfl, a⟩
  refine call_list_str (hn := hz) (I.ok.hd hc) x t fun h' tk acc' c' hkeep hS hacc => ?_
  refine ⟨.ref s.heap.objs.size, upd H s.heap.objs.size (.lst ((tl x).map fun c => .str ⟨#[c]⟩)), I.laid hkeep (Nat.le_refl _) (show ObjOk X.prog X.w _ _ _ (.lst ((tl x).map fun c => .str ⟨#[c]⟩)) from ⟨?_, acc'.toList, c', ?_, ?_⟩), rfl,
    q.to _ _ (I.hok.fresh (Nat.le_refl _)) I.big (keep_new (I.hok.fresh (Nat.le_refl _))) upd_same⟩
  · rw [List.length_map]
    simpa using hz
  · have el : acc'.toList.length = acc'.size := by simp
    refine vals_of_at (by rw [List.length_map, el, hacc.1]; simp) fun j y v h1 h2 => ?_
    obtain ⟨c, tk2, hj, rfl⟩ := hacc.2 j v (by rw [← Array.getElem?_toList]; exact h2)
    rw [List.getElem?_map, show (tl x)[j]? = some c by simpa using hj] at h1
    cases h1
    exact ⟨tk2, rfl⟩
  · rw [Array.toArray_toList]; exact hS
end FR
set_option Elab.async false
set_option linter.all false
set_option maxRecDepth 100000
set_option maxHeartbeats 4000000
/-! bool(x), x == y and x != y of an own class, whatever stands on the right -/
namespace FR
open PySem PySem.Spec PyProof.Rows
theorem call_bool_tru {P : Program} {w : World} {A : Around} {E : Value → Shared → Prop} {s : Shared} {x : Value} {Q : Value → Shared → Prop} (h : wpAny (model P w) A.in1.in1 (truthy x) (fun b s' => Q (.bool b) s') E s) :
    wpAny (model P w) A (call (.type "bool") [x]) Q E s := by
  refine callType_newIn (S := fun A R s => wpAny (model P w) A.in1 (truthy x) (fun b s' => R (.ok (.ret (.bool b))) s') (fun e s' => R (.error e) s') s) PySem.F.called_bool (by decide +kernel) (PySem.F.typeCall_bool_1 x) (PySem.F.newCall_bool_1 x) (fun o => PySem.F.args_object_init_2 o x) PySem.F.entry_bool_new ?_ ?_
  · intro A R s h
    unfold Builtin.«bool.__new__»
    have hsm : someArgs "bool" 0 1 { pos := [x] } = pure [x] := by rfl
    have hty : isType (Value.type "bool") = pure true := by rfl
    have hsub := PySem.F.called_bool.sub
    show wpAny _ _ (do let __do_lift ← isType (Value.type "bool"); _) _ _ _
    rw [hty, pure_bind]
    simp only [hsub, hsm, pure_bind, Bool.not_true, Bool.false_eq_true, if_false]
    refine wpAny_bind (wpAny_mono h (fun b s1 hb => ?_) fun _ _ z => z)
    exact wpAny_pure hb
  · exact wpAny_mono h (fun b s' q => ⟨PySem.typeIs_bool _ _, q⟩) fun _ _ z => z
open L2
open SlX (cmpback run_at)
section
variable {X : Cx} {C g : Addr} {n : Nat} {sp : Sp} {E : XK} {CX : CXT}
/-- bool(x), x of the class at C with an own __bool__ -/
def rBoolI (C : Addr) (sp : Sp) (E : XK) : List V → Hp → VK → Prop := fun xs H Q => ∃ a dx fs, xs = [.ref a] ∧ H a = some (.ins C dx fs) ∧ sp xs H (fun z H' => ∃ b, z = .bl b ∧ Q (.bl b) H') E
theorem call_boolI (hs : PySem.W.findIn X.K (.ref C) "__bool__" = some (some (.ref g))) (hf : PySem.W.isFn X.K (.ref g) = true) (F : FnR X.prog X.w X.K X.mg X.base CX n g sp)
    (hr : Room (n + 2) X.A) (hx : Passes CX X E) : CallR X (.type "bool") (rBoolI C sp E) := by
  intro pins s σ H xs us Q I r h
  obtain ⟨a, dx, fs, rfl, ha, q⟩ := h
  obtain ⟨u, rfl, ru⟩ := r.one
  cases (show u = Value.ref a from ru)
  obtain ⟨od, J⟩ := ins_inst I ha
  obtain ⟨m, hF⟩ := I.fr
  have hr2 : Room n X.A.in1.in1 := (show Room (n + 1) X.A.in1 from Room.in1 hr).in1
  refine call_bool_tru (PySem.W.truthy_K hF I.ok.mod.kin J hs hf (wpAny_mono (wpAny_call (run_at (us := [.ref a]) (ws := [.ref a]) F hr2 I.env0.in1.in1 hx I (.cons rfl .nil) q)) (fun w s' z => ?_) fun _ _ x => x))
  obtain ⟨z', H', I', rz, b, eb, qz⟩ := z
  subst eb
  cases (show w = Value.bool b from rz)
  exact ⟨.bl b, H', I', rfl, qz⟩
/-- not x, as a value -/
def rNotR (r : V → Hp → (Bool → Hp → Prop) → Prop) : V → Hp → VK → Prop := fun x H Q => r x H fun b H' => Q (.bl (!b)) H'
theorem un_not {r : V → Hp → (Bool → Hp → Prop) → Prop} (h : TruR X r) : UnR X (unaryOp .Not) (rNotR r) := by
  intro pins s σ H x v Q I rx q
  unfold unaryOp
  refine wpAny_holding ?_
  show wpAny _ _ (do let b ← truthy v; pure (Value.bool !b)) _ _ _
  refine wpAny_bind (wpAny_mono (h pins s σ H x v _ I rx q) (fun b s' z => ?_) fun _ _ z => z)
  obtain ⟨H', I', q'⟩ := z
  exact wpAny_pure ⟨.bl (!b), H', I', rfl, q'⟩
/-- what stands on the right of a comparison: one of the class, a text, a whole number -/
inductive Right (K : PySem.W.Frag) (H : Hp) (C : Addr) : V → Prop
  | own {b dy : Addr} {gs : List (Str × V)} : H b = some (.ins C dy gs) → Right K H C (.ref b)
  | str (t : Str) : PySem.W.notFirst K C (.type "str") = true → Right K H C (.str t)
  | int (i : Int) : PySem.W.notFirst K C (.type "int") = true → Right K H C (.int i)
theorem right_looks {pins : List (Addr × Obj)} {σ : L2.St} {H : Hp} {s : Shared} {y : V} {u : Value} (I : Inv X pins σ H s) (r : RelV y u) (h : Right X.K H C y) : ∃ tb, PySem.W.Looks (model X.prog X.w) s.heap (typeOf u) tb ∧ PySem.W.notFirst X.K C tb = true := by
  cases h with
  | own e =>
    cases (show u = _ from r)
    obtain ⟨od, J⟩ := ins_inst I e
    exact ⟨_, J.type, by unfold PySem.W.notFirst; simp⟩
  | str t e =>
    obtain ⟨tk, rfl⟩ := (show ∃ tk, u = Value.str t tk from r)
    exact ⟨_, fun A Q E s' _ q => by show wpAny _ _ (pure (Value.type "str")) _ _ _; exact wpAny_pure q, e⟩
  | int i e =>
    obtain ⟨tk, rfl⟩ := (show ∃ tk, u = Value.int i tk from r)
    exact ⟨_, fun A Q E s' _ q => by show wpAny _ _ (pure (Value.type "int")) _ _ _; exact wpAny_pure q, e⟩
def rCmpA (K : PySem.W.Frag) (C : Addr) (sp : Sp) (E : XK) : R2 := fun x y H Q => ∃ a dx fs, x = .ref a ∧ H a = some (.ins C dx fs) ∧ Right K H C y ∧ sp [x, y] H Q E
theorem op_cmpA {op : CmpOp} (hop : ∀ a b, compareOp op a b = richCompare op a b) (hs : PySem.W.findIn X.K (.ref C) (cmpInfo op).2.1 = some (some (.ref g))) (hf : PySem.W.isFn X.K (.ref g) = true) (F : FnR X.prog X.w X.K X.mg X.base CX n g sp)
    (hr : Room n X.A) (hx : Passes CX X E) : OpR X (compareOp op) (rCmpA X.K C sp E) := by
  intro pins s σ H x y v u Q I rx ry h
  obtain ⟨a, dx, fs, rfl, ha, hy, q⟩ := h
  cases (show v = Value.ref a from rx)
  obtain ⟨od, J⟩ := ins_inst I ha
  obtain ⟨tb, hl, hn⟩ := right_looks I ry hy
  obtain ⟨m, hF⟩ := I.fr
  rw [hop]
  refine PySem.W.cmp_K (op := op) (tb := tb) hr.units0 hF I.ok.mod.kin J hl hn hs hf ?_
  refine wpAny_mono (wpAny_call (run_fnR (us := [.ref a, u]) (vs := [.ref a, y]) F hr hx I (.cons rfl (.cons ry .nil)) q)) (fun w s' z => ?_) fun _ _ x => x
  obtain ⟨z', H', I', rz, qz⟩ := z
  exact cmpback rz ⟨z', H', I', rz, qz⟩
def rNeA (K : PySem.W.Frag) (C : Addr) (sp : Sp) (E : XK) : R2 := fun x y H Q => ∃ a dx fs, x = .ref a ∧ H a = some (.ins C dx fs) ∧ Right K H C y ∧ sp [x, y] H (fun z H' => ∃ v, z = .bl v ∧ Q (.bl (!v)) H') E
theorem op_neA (hm : PySem.W.mroIn X.K C (.type "object") = some true) (hne : PySem.W.findIn X.K (.ref C) "__ne__" = some (some (.builtin "object.__ne__"))) (hs : PySem.W.findIn X.K (.ref C) "__eq__" = some (some (.ref g))) (hf : PySem.W.isFn X.K (.ref g) = true)
    (F : FnR X.prog X.w X.K X.mg X.base CX n g sp) (hr : Room (n + 1) X.A) (hx : Passes CX X E) : OpR X (compareOp .NotEq) (rNeA X.K C sp E) := by
  intro pins s σ H x y v u Q I rx ry h
  obtain ⟨a, dx, fs, rfl, ha, hy, q⟩ := h
  cases (show v = Value.ref a from rx)
  obtain ⟨od, J⟩ := ins_inst I ha
  obtain ⟨tb, hl, hn⟩ := right_looks I ry hy
  refine rc_ne_own (tb := tb) hr.units0 hr.in1.units0 I.kIn J hl hn hm hne hs hf ?_
  refine wpAny_mono (wpAny_call (run_at (us := [.ref a, u]) (ws := [.ref a, y]) F hr.in1 I.env0.in1 hx I (.cons rfl (.cons ry .nil)) q)) (fun w s' z => ?_) fun _ _ x => x
  obtain ⟨z', H', I', rz, b', eb, qz⟩ := z
  subst eb
  cases (show w = Value.bool b' from rz)
  exact ⟨b', rfl, .bl (!b'), H', I', rfl, qz⟩
end
/-- isinstance(x, C): x one of the class, or of another kind -/
def rIsA (K : PySem.W.Frag) (C : Addr) : List V → Hp → VK → Prop := fun xs H Q => (∃ a dx fs, xs = [.ref a, .ref C] ∧ H a = some (.ins C dx fs) ∧ Q (.bl true) H) ∨ rIsi K xs H Q
theorem call_isA {X : Cx} {C : Addr} (h : C8.InsC X.K C) : CallR X (.builtin "isinstance") (rIsA X.K C) := by
  intro pins s σ H xs us Q I r q
  rcases q with q | q
  · exact C8.call_isC h pins s σ H xs us Q I r q
  · exact call_isi pins s σ H xs us Q I r q
theorem op_in_seqK {X : Cx} {K : PySem.W.Frag} (h : X.K = K) : OpR X (compareOp .In) (rIn K false) := h ▸ op_in_seq
theorem kit_ofT {K : PySem.W.Frag} {n : String} {S : Addr} {b : Bool} (h2 : PySem.W.isClsIn K S = true) (h3 : PySem.W.typeIn K (.ref S) = some (.type "type")) (h4 : PySem.W.subIn K (.type n) (.ref S) = some b) : PySem.W.kitOne K (.type n) (.ref S) = some b := by
  have e2 : ((PySem.W.clsIn K S).isSome && PySem.W.typeIn K (.ref S) == some (.type "type")) = true := by
    rw [show (PySem.W.clsIn K S).isSome = true from h2, h3] <;> rfl
  unfold PySem.W.kitOne
  rw [if_neg (show ¬ (Value.type n == Value.ref S) = true by simp)]
  show (if ((PySem.W.clsIn K S).isSome && PySem.W.typeIn K (.ref S) == some (.type "type")) = true then PySem.W.subIn K (.type n) (.ref S) else none) = some b
  rw [if_pos e2]
  exact h4
end FR
set_option Elab.async false
set_option linter.all false
set_option maxRecDepth 100000
/-! cls(..) where cls is a local; classmethods -/
namespace FR
open PySem PySem.Spec PyProof.Rows L2 TL
section
variable {X : Cx} {CX : CXT} {k : Nat} {f C : Addr} {fd : FuncData} {ps : List Str} {sp : Sp} {dvs : List V} {ds : List Value} {E : XK} {x : Str} {p pos : Pos} {i : Nat}
def tMakeL (i : Nat) (C : Addr) (sp : Sp) (dvs : List V) (E : XK) (t : TA) : TE := fun σ H Q => σ[i]? = some (some (.ref C)) ∧ tMake C sp dvs E t σ H Q
theorem pe_makeL0 (hv : PE X (.Name x p) (tVar i)) (M : Mk X.K C f) (F : FnOk X.prog X.w X.K X.mg X.base CX k f fd ps sp) (hr : Room (k + 1) X.A) (hb : Binds X.K fd ps ds) (hd : Vals dvs ds) (hx : Passes CX X E) :
    PE X (.Call (.Name x p) [] [] pos) (tMakeL i C sp dvs E tNil) := by
  refine ⟨fun pins s σ H Q I h => ?_⟩
  obtain ⟨h1, h2⟩ := h
  refine wpAny_Call_Name_kw (thn (hv.run pins s σ H (fun v H' => v = .ref C ∧ tMake C sp dvs E tNil σ H' Q) I ⟨_, h1, rfl, h2⟩) fun u s1 hh => ?_)
  obtain ⟨v, H1, I1, r1, rfl, q⟩ := hh
  cases (show u = Value.ref C from r1)
  refine PySem.W.callWith_K0 I1.kIn M.kp ?_
  exact run_make (us := []) (vs := []) M F hr hb hd hx I1 .nil q
theorem pe_makeL {e : Expr} {es : List Expr} {t : TA} (hv : PE X (.Name x p) (tVar i)) (M : Mk X.K C f) (F : FnOk X.prog X.w X.K X.mg X.base CX k f fd ps sp) (hr : Room (k + 1) X.A) (hb : Binds X.K fd ps ds) (hd : Vals dvs ds) (hx : Passes CX X E) (ha : PA X (e :: es) t)
    (he : starEach (e :: es) X.env = (false, eval e X.env) :: starEach es X.env := by rfl) (hpl : (backTo pos (starEach es X.env)).any (·.1) = false := by rfl) :
    PE X (.Call (.Name x p) (e :: es) [] pos) (tMakeL i C sp dvs E t) := by
  refine ⟨fun pins s σ H Q I h => ?_⟩
  obtain ⟨h1, h2⟩ := h
  refine wpAny_Call_Name_kw (thn (hv.run pins s σ H (fun v H' => v = .ref C ∧ tMake C sp dvs E t σ H' Q) I ⟨_, h1, rfl, h2⟩) fun u s1 hh => ?_)
  obtain ⟨v, H1, I1, r1, rfl, q⟩ := hh
  cases (show u = Value.ref C from r1)
  refine PySem.W.callWith_K (h₀ := X.base) I1.ok.mod.kin M.kp (thn (ha.run pos pins s1 σ H1 _ I1 q) fun us s2 hz => ?_) he hpl
  obtain ⟨vs, H2, I2, r2, q2⟩ := hz
  exact ⟨I2.kIn, run_make (us := us) (vs := vs) M F hr hb hd hx I2 r2 q2⟩
end
end FR
set_option Elab.async false
set_option linter.all false
set_option maxRecDepth 100000
set_option maxHeartbeats 8000000
local macro_rules | `(tactic| walk_at "sq") => `(tactic| first
  | (refine' FR.Ow.sq (i := 0) ?w ?e; (case w => assumption); (case e => rfl))
  | (refine' FR.Ow.sq (i := 1) ?w ?e; (case w => assumption); (case e => rfl))
  | (refine' FR.Ow.sq (i := 2) ?w ?e; (case w => assumption); (case e => rfl))
  | (refine' FR.Ow.sq (i := 3) ?w ?e; (case w => assumption); (case e => rfl))
  | (refine' FR.Ow.sq (i := 4) ?w ?e; (case w => assumption); (case e => rfl))
  | (refine' FR.Ow.sq (i := 5) ?w ?e; (case w => assumption); (case e => rfl))
  | (refine' FR.Ow.sq (i := 6) ?w ?e; (case w => assumption); (case e => rfl))
  | (refine' FR.Ow.sq (i := 7) ?w ?e; (case w => assumption); (case e => rfl))
  | (refine' FR.Ow.sq (i := 8) ?w ?e; (case w => assumption); (case e => rfl))
  | (refine' FR.Ow.sq (i := 9) ?w ?e; (case w => assumption); (case e => rfl))
  | (refine' FR.Ow.sq (i := 10) ?w ?e; (case w => assumption); (case e => rfl))
  | (refine' FR.Ow.sq (i := 11) ?w ?e; (case w => assumption); (case e => rfl))
  | (refine' FR.Ow.sq (i := 12) ?w ?e; (case w => assumption); (case e => rfl))
  | (refine' FR.Ow.sq (i := 13) ?w ?e; (case w => assumption); (case e => rfl))
  | assumption)
local macro_rules | `(tactic| walk_at "hp") => `(tactic| first
  | (refine' FR.Ow.get (i := 0) ?w ?e; (case w => assumption); (case e => rfl))
  | (refine' FR.Ow.get (i := 1) ?w ?e; (case w => assumption); (case e => rfl))
  | (refine' FR.Ow.get (i := 2) ?w ?e; (case w => assumption); (case e => rfl))
  | (refine' FR.Ow.get (i := 3) ?w ?e; (case w => assumption); (case e => rfl))
  | (refine' FR.Ow.get (i := 4) ?w ?e; (case w => assumption); (case e => rfl))
  | (refine' FR.Ow.get (i := 5) ?w ?e; (case w => assumption); (case e => rfl))
  | (refine' FR.Ow.get (i := 6) ?w ?e; (case w => assumption); (case e => rfl))
  | (refine' FR.Ow.get (i := 7) ?w ?e; (case w => assumption); (case e => rfl))
  | (refine' FR.Ow.get (i := 8) ?w ?e; (case w => assumption); (case e => rfl))
  | (refine' FR.Ow.get (i := 9) ?w ?e; (case w => assumption); (case e => rfl))
  | (refine' FR.Ow.get (i := 10) ?w ?e; (case w => assumption); (case e => rfl))
  | (refine' FR.Ow.get (i := 11) ?w ?e; (case w => assumption); (case e => rfl))
  | (refine' FR.Ow.get (i := 12) ?w ?e; (case w => assumption); (case e => rfl))
  | (refine' FR.Ow.get (i := 13) ?w ?e; (case w => assumption); (case e => rfl))
  | assumption)
local macro_rules | `(tactic| walk_at "ar") => `(tactic| first | assumption | omega | decide)
local macro_rules | `(tactic| walk_at "cd") => `(tactic| first
  | assumption | (with_reducible rfl) | exact (rfl : List.length _ = _) | (dsimp only; walk_at "ar") | walk_at "ar"
  | (refine And.intro (a := (_ : Int) < _) ?_ ?_ <;> walk_at "ar")
  | (refine And.intro (a := (0 : Int) ≤ _) ?_ (And.intro ?_ ?_) <;> walk_at "ar")
  | exact FR.size_le (by omega) | exact FR.size_ok (by omega)
  | (refine Or.inl (And.intro ?_ ?_) <;> walk_at "ar")
  | (refine Or.inr (And.intro ?_ ?_) <;> walk_at "ar"))
local macro_rules | `(tactic| walk_at "ty") => `(tactic| first
  | exact L2.TyOf.int _
  | exact L2.TyOf.str _
  | exact L2.TyOf.bl _
  | exact L2.TyOf.non
  | (refine' L2.TyOf.lst ?e; (case e => walk_at "hp"))
  | (refine' L2.TyOf.tup ?e; (case e => walk_at "hp"))
  | (refine' L2.TyOf.dK ?e; (case e => walk_at "hp")))
local macro_rules | `(tactic| walk_at "kit") => `(tactic| first
  | exact FR.ki_int_str
  | exact FR.ki_int_int
  | exact FR.ki_int_bool
  | exact FR.ki_int_list
  | exact FR.ki_int_tuple
  | exact FR.ki_int_dict
  | exact FR.ki_str_str
  | exact FR.ki_str_int
  | exact FR.ki_str_bool
  | exact FR.ki_str_list
  | exact FR.ki_str_tuple
  | exact FR.ki_str_dict
  | exact FR.ki_bl_str
  | exact FR.ki_bl_int
  | exact FR.ki_bl_bool
  | exact FR.ki_bl_list
  | exact FR.ki_bl_tuple
  | exact FR.ki_bl_dict
  | exact FR.ki_non_str
  | exact FR.ki_non_int
  | exact FR.ki_non_bool
  | exact FR.ki_non_list
  | exact FR.ki_non_tuple
  | exact FR.ki_non_dict
  | exact FR.ki_lst_str
  | exact FR.ki_lst_int
  | exact FR.ki_lst_bool
  | exact FR.ki_lst_list
  | exact FR.ki_lst_tuple
  | exact FR.ki_lst_dict
  | exact FR.ki_tup_str
  | exact FR.ki_tup_int
  | exact FR.ki_tup_bool
  | exact FR.ki_tup_list
  | exact FR.ki_tup_tuple
  | exact FR.ki_tup_dict
  | exact FR.ki_dK_str
  | exact FR.ki_dK_int
  | exact FR.ki_dK_bool
  | exact FR.ki_dK_list
  | exact FR.ki_dK_tuple
  | exact FR.ki_dK_dict)
local macro_rules | `(tactic| walk_at "isi") => `(tactic| (refine' ⟨_, _, _, _, _, rfl, L2.ClsV.ty _, L2.TyX.base ?k1, L2.kit_ty ?k2, ?k3⟩; (case k1 => walk_at "ty"); (case k2 => walk_at "kit")))
local macro_rules | `(tactic| walk_at "w1") => `(tactic| first
  | (refine' FR.with1 0 ?k1 ?k2 (by assumption) (by assumption) ?k3; (case k1 => assumption); (case k2 => rfl); intro W)
  | (refine' FR.with1 1 ?k1 ?k2 (by assumption) (by assumption) ?k3; (case k1 => assumption); (case k2 => rfl); intro W)
  | (refine' FR.with1 2 ?k1 ?k2 (by assumption) (by assumption) ?k3; (case k1 => assumption); (case k2 => rfl); intro W)
  | (refine' FR.with1 3 ?k1 ?k2 (by assumption) (by assumption) ?k3; (case k1 => assumption); (case k2 => rfl); intro W)
  | (refine' FR.with1 4 ?k1 ?k2 (by assumption) (by assumption) ?k3; (case k1 => assumption); (case k2 => rfl); intro W)
  | (refine' FR.with1 5 ?k1 ?k2 (by assumption) (by assumption) ?k3; (case k1 => assumption); (case k2 => rfl); intro W)
  | (refine' FR.with1 6 ?k1 ?k2 (by assumption) (by assumption) ?k3; (case k1 => assumption); (case k2 => rfl); intro W)
  | (refine' FR.with1 7 ?k1 ?k2 (by assumption) (by assumption) ?k3; (case k1 => assumption); (case k2 => rfl); intro W)
  | (refine' FR.with1 8 ?k1 ?k2 (by assumption) (by assumption) ?k3; (case k1 => assumption); (case k2 => rfl); intro W)
  | (refine' FR.with1 9 ?k1 ?k2 (by assumption) (by assumption) ?k3; (case k1 => assumption); (case k2 => rfl); intro W)
  | (refine' FR.with1 10 ?k1 ?k2 (by assumption) (by assumption) ?k3; (case k1 => assumption); (case k2 => rfl); intro W)
  | (refine' FR.with1 11 ?k1 ?k2 (by assumption) (by assumption) ?k3; (case k1 => assumption); (case k2 => rfl); intro W)
  | (refine' FR.with1 12 ?k1 ?k2 (by assumption) (by assumption) ?k3; (case k1 => assumption); (case k2 => rfl); intro W)
  | (refine' FR.with1 13 ?k1 ?k2 (by assumption) (by assumption) ?k3; (case k1 => assumption); (case k2 => rfl); intro W))
local macro_rules | `(tactic| walk_at "obj") => `(tactic| first
  | (refine FR.NewO.mk ?_; intro p H np kp hp; refine' FR.withN ?k1 np kp hp ?k2; (case k1 => assumption); intro W)
  | (refine FR.NewS.mk ?_; intro p H np sp kp hp; refine' FR.withN ?k1 np kp hp ?k2; (case k1 => assumption); intro W)
  | (refine FR.MutO.mk ?_; intro H kp hp; walk_at "w1"))
local macro_rules | `(tactic| walk_at "sz") => `(tactic| exact FR.size_ok (by (try simp only [List.length_map, List.length_append, List.length_cons, List.length_nil]); omega))
local macro_rules | `(tactic| walk_at "rd1") => `(tactic| first
  | (refine ⟨_, rfl, ?_⟩)
  | (refine ⟨_, _, rfl, rfl, ?_⟩)
  | (refine ⟨_, _, rfl, ?_⟩)
  | (refine' ⟨_, _, _, _, rfl, rfl, ?k1, ?k2, ?k3⟩; (case k1 => walk_at "hp"); (case k2 => rfl); walk_at "obj")
  | (refine' ⟨_, _, _, _, rfl, rfl, ?k1, ?k2, ?k3⟩; (case k1 => walk_at "sq"); (case k2 => rfl))
  | walk_at "obj"
  | (refine' ⟨_, _, _, rfl, rfl, ?k1, ?k2, ?k3⟩; (case k1 => walk_at "hp"); (case k2 => walk_at "sz"); walk_at "obj")
  | (refine And.intro (show List.length _ ≤ PySem.sizeLine from Nat.le_of_ble_eq_true rfl) ?_; walk_at "obj")
  | (refine' ⟨_, _, rfl, Or.inl ?k1, ?k2⟩; (case k1 => walk_at "sq"))
  | (refine FR.ifT rfl ?_) | (refine FR.ifF rfl ?_)
  | (refine And.intro (show L2.scal _ _ = true from rfl) ?_)
  | (refine And.intro (show L2.tyV _ "str" (L2.V.str _) _ from rfl) ?_)
  | (refine' And.intro (show L2.tyV _ "list" (L2.V.ref _) _ from Or.inl ⟨rfl, _, ?k1⟩) ?k2; (case k1 => walk_at "sq"))
  | (refine And.intro (Exists.intro _ rfl) ?_)
  | (refine And.intro (show L2.wipe _ _ = L2.wipe _ _ from rfl) ?_)
  | (refine And.intro (by walk_at "cd") ?_)
  | walk_at "isi")
local macro_rules | `(tactic| walk_at "rd") => `(tactic| repeat walk_at "rd1")
local macro_rules | `(tactic| walk_at "take") => `(tactic| (refine' ⟨_, _, _, _, _, _, rfl, ?k1, ?k2, ?k3, ?k4, ?k5, ?k6⟩; (case k1 => walk_at "hp"); (case k2 => assumption); (case k3 => omega); (case k4 => first | decide | omega); (case k5 => first | decide | omega); intro d x y z H d0 d1 ok kp hb; walk_at "w1"))
set_option Elab.async false
set_option linter.all false
set_option maxRecDepth 100000
namespace K10
open PySem PySem.Spec PyProof.Rows L2 FR
def top (i : Nat) : Stmt := PySem.Challenge.pw_filerights_k10_rights_that_stay.main.body.getD i (.Pass ⟨0, 0, 0, 0⟩)
def inCls (s : Stmt) (j : Nat) : Stmt := match s with
  | .ClassDef _ _ _ b _ _ _ _ _ _ _ => b.getD j (.Pass ⟨0, 0, 0, 0⟩)
  | _ => .Pass ⟨0, 0, 0, 0⟩
abbrev s_is_integer : Stmt := top 5
abbrev N_is_integer : List Str := ["value", "low", "high"]
theorem sc_is_integer : FnScope N_is_integer ["value", "low", "high"] (defScope s_is_integer) := ⟨rfl, rfl, rfl, by decide +kernel, rfl, by decide +kernel, by decide +kernel⟩
abbrev s_as_rights : Stmt := top 12
abbrev N_as_rights : List Str := ["value"]
theorem sc_as_rights : FnScope N_as_rights ["value"] (defScope s_as_rights) := ⟨rfl, rfl, rfl, by decide +kernel, rfl, by decide +kernel, by decide +kernel⟩
abbrev s__is_letters : Stmt := top 13
abbrev N__is_letters : List Str := ["value"]
theorem sc__is_letters : FnScope N__is_letters ["value"] (defScope s__is_letters) := ⟨rfl, rfl, rfl, by decide +kernel, rfl, by decide +kernel, by decide +kernel⟩
abbrev s__digit_of : Stmt := top 14
abbrev N__digit_of : List Str := ["value"]
theorem sc__digit_of : FnScope N__digit_of ["value"] (defScope s__digit_of) := ⟨rfl, rfl, rfl, by decide +kernel, rfl, by decide +kernel, by decide +kernel⟩
abbrev s_cell : Stmt := top 16
abbrev N_cell : List Str := ["_law_script", "_law_k"]
theorem sc_cell : FnScope N_cell ["_law_script", "_law_k"] (defScope s_cell) := ⟨rfl, rfl, rfl, by decide +kernel, rfl, by decide +kernel, by decide +kernel⟩
abbrev s_box : Stmt := top 17
abbrev N_box : List Str := ["_law_cell_here"]
theorem sc_box : FnScope N_box ["_law_cell_here"] (defScope s_box) := ⟨rfl, rfl, rfl, by decide +kernel, rfl, by decide +kernel, by decide +kernel⟩
abbrev s_take : Stmt := top 18
abbrev N_take : List Str := ["_law_box_here", "_law_many", "_law_digit", "_law_mixed"]
theorem sc_take : FnScope N_take ["_law_box_here", "_law_many"] (defScope s_take) := ⟨rfl, rfl, rfl, by decide +kernel, rfl, by decide +kernel, by decide +kernel⟩
abbrev s_made : Stmt := top 19
abbrev N_made : List Str := ["_law_box_here", "_law_digit", "_law_letters", "_law_way", "_law_letter", "_law_bit"]
theorem sc_made : FnScope N_made ["_law_box_here", "_law_digit"] (defScope s_made) := ⟨rfl, rfl, rfl, by decide +kernel, rfl, by decide +kernel, by decide +kernel⟩
abbrev s_step : Stmt := top 20
abbrev N_step : List Str := ["_law_box_here", "_law_known", "_law_one", "_law_a", "_law_other", "_law_b", "_law_way", "_law_due"]
theorem sc_step : FnScope N_step ["_law_box_here", "_law_known"] (defScope s_step) := ⟨rfl, rfl, rfl, by decide +kernel, rfl, by decide +kernel, by decide +kernel⟩
abbrev s_pair_right : Stmt := top 21
abbrev N_pair_right : List Str := ["_law_one", "_law_a", "_law_other", "_law_b"]
theorem sc_pair_right : FnScope N_pair_right ["_law_one", "_law_a", "_law_other", "_law_b"] (defScope s_pair_right) := ⟨rfl, rfl, rfl, by decide +kernel, rfl, by decide +kernel, by decide +kernel⟩
abbrev s_law : Stmt := top 22
abbrev N_law : List Str := ["_law_script", "_law_k", "_law_box_here", "_law_known", "_law_turn", "_law_digit", "_law_rights", "_law_bits", "_law_one", "_law_a", "_law_other", "_law_b", "_law_letter"]
theorem sc_law : FnScope N_law ["_law_script"] (defScope s_law) := ⟨rfl, rfl, rfl, by decide +kernel, rfl, by decide +kernel, by decide +kernel⟩
abbrev s_Rights___init__ : Stmt := inCls (top 11) 0
abbrev N_Rights___init__ : List Str := ["self", "letters"]
theorem sc_Rights___init__ : FnScope N_Rights___init__ ["self", "letters"] (defScope s_Rights___init__) := ⟨rfl, rfl, rfl, by decide +kernel, rfl, by decide +kernel, by decide +kernel⟩
abbrev s_Rights_of : Stmt := inCls (top 11) 1
abbrev N_Rights_of : List Str := ["cls", "parts", "whole", "part"]
theorem sc_Rights_of : FnScope N_Rights_of ["cls", "parts"] (defScope s_Rights_of) := ⟨rfl, rfl, rfl, by decide +kernel, rfl, by decide +kernel, by decide +kernel⟩
abbrev s_Rights_from_digit : Stmt := inCls (top 11) 2
abbrev N_Rights_from_digit : List Str := ["cls", "digit"]
theorem sc_Rights_from_digit : FnScope N_Rights_from_digit ["cls", "digit"] (defScope s_Rights_from_digit) := ⟨rfl, rfl, rfl, by decide +kernel, rfl, by decide +kernel, by decide +kernel⟩
abbrev s_Rights_digit : Stmt := inCls (top 11) 3
abbrev N_Rights_digit : List Str := ["self"]
theorem sc_Rights_digit : FnScope N_Rights_digit ["self"] (defScope s_Rights_digit) := ⟨rfl, rfl, rfl, by decide +kernel, rfl, by decide +kernel, by decide +kernel⟩
abbrev s_Rights_listed : Stmt := inCls (top 11) 4
abbrev N_Rights_listed : List Str := ["self"]
theorem sc_Rights_listed : FnScope N_Rights_listed ["self"] (defScope s_Rights_listed) := ⟨rfl, rfl, rfl, by decide +kernel, rfl, by decide +kernel, by decide +kernel⟩
abbrev s_Rights_covers : Stmt := inCls (top 11) 5
abbrev N_Rights_covers : List Str := ["self", "other", "digit"]
theorem sc_Rights_covers : FnScope N_Rights_covers ["self", "other"] (defScope s_Rights_covers) := ⟨rfl, rfl, rfl, by decide +kernel, rfl, by decide +kernel, by decide +kernel⟩
abbrev s_Rights___or__ : Stmt := inCls (top 11) 6
abbrev N_Rights___or__ : List Str := ["self", "other"]
theorem sc_Rights___or__ : FnScope N_Rights___or__ ["self", "other"] (defScope s_Rights___or__) := ⟨rfl, rfl, rfl, by decide +kernel, rfl, by decide +kernel, by decide +kernel⟩
abbrev s_Rights___and__ : Stmt := inCls (top 11) 7
abbrev N_Rights___and__ : List Str := ["self", "other"]
theorem sc_Rights___and__ : FnScope N_Rights___and__ ["self", "other"] (defScope s_Rights___and__) := ⟨rfl, rfl, rfl, by decide +kernel, rfl, by decide +kernel, by decide +kernel⟩
abbrev s_Rights___sub__ : Stmt := inCls (top 11) 8
abbrev N_Rights___sub__ : List Str := ["self", "other"]
theorem sc_Rights___sub__ : FnScope N_Rights___sub__ ["self", "other"] (defScope s_Rights___sub__) := ⟨rfl, rfl, rfl, by decide +kernel, rfl, by decide +kernel, by decide +kernel⟩
abbrev s_Rights___xor__ : Stmt := inCls (top 11) 9
abbrev N_Rights___xor__ : List Str := ["self", "other"]
theorem sc_Rights___xor__ : FnScope N_Rights___xor__ ["self", "other"] (defScope s_Rights___xor__) := ⟨rfl, rfl, rfl, by decide +kernel, rfl, by decide +kernel, by decide +kernel⟩
abbrev s_Rights___invert__ : Stmt := inCls (top 11) 10
abbrev N_Rights___invert__ : List Str := ["self"]
theorem sc_Rights___invert__ : FnScope N_Rights___invert__ ["self"] (defScope s_Rights___invert__) := ⟨rfl, rfl, rfl, by decide +kernel, rfl, by decide +kernel, by decide +kernel⟩
abbrev s_Rights___eq__ : Stmt := inCls (top 11) 11
abbrev N_Rights___eq__ : List Str := ["self", "other"]
theorem sc_Rights___eq__ : FnScope N_Rights___eq__ ["self", "other"] (defScope s_Rights___eq__) := ⟨rfl, rfl, rfl, by decide +kernel, rfl, by decide +kernel, by decide +kernel⟩
abbrev s_Rights___contains__ : Stmt := inCls (top 11) 12
abbrev N_Rights___contains__ : List Str := ["self", "value"]
theorem sc_Rights___contains__ : FnScope N_Rights___contains__ ["self", "value"] (defScope s_Rights___contains__) := ⟨rfl, rfl, rfl, by decide +kernel, rfl, by decide +kernel, by decide +kernel⟩
abbrev s_Rights___len__ : Stmt := inCls (top 11) 13
abbrev N_Rights___len__ : List Str := ["self"]
theorem sc_Rights___len__ : FnScope N_Rights___len__ ["self"] (defScope s_Rights___len__) := ⟨rfl, rfl, rfl, by decide +kernel, rfl, by decide +kernel, by decide +kernel⟩
abbrev s_Rights___bool__ : Stmt := inCls (top 11) 14
abbrev N_Rights___bool__ : List Str := ["self"]
theorem sc_Rights___bool__ : FnScope N_Rights___bool__ ["self"] (defScope s_Rights___bool__) := ⟨rfl, rfl, rfl, by decide +kernel, rfl, by decide +kernel, by decide +kernel⟩
abbrev s_Rights___str__ : Stmt := inCls (top 11) 15
abbrev N_Rights___str__ : List Str := ["self", "letter"]
theorem sc_Rights___str__ : FnScope N_Rights___str__ ["self"] (defScope s_Rights___str__) := ⟨rfl, rfl, rfl, by decide +kernel, rfl, by decide +kernel, by decide +kernel⟩
abbrev s_Rights___repr__ : Stmt := inCls (top 11) 16
abbrev N_Rights___repr__ : List Str := ["self"]
theorem sc_Rights___repr__ : FnScope N_Rights___repr__ ["self"] (defScope s_Rights___repr__) := ⟨rfl, rfl, rfl, by decide +kernel, rfl, by decide +kernel, by decide +kernel⟩
structure Ads where
  f_is_integer : Addr
  d_is_integer : FuncData
  f_as_rights : Addr
  d_as_rights : FuncData
  f__is_letters : Addr
  d__is_letters : FuncData
  f__digit_of : Addr
  d__digit_of : FuncData
  f_cell : Addr
  d_cell : FuncData
  f_box : Addr
  d_box : FuncData
  f_take : Addr
  d_take : FuncData
  f_made : Addr
  d_made : FuncData
  f_step : Addr
  d_step : FuncData
  f_pair_right : Addr
  d_pair_right : FuncData
  f_law : Addr
  d_law : FuncData
  f_Rights___init__ : Addr
  d_Rights___init__ : FuncData
  f_Rights_of : Addr
  d_Rights_of : FuncData
  P_Rights_of : Addr
  f_Rights_from_digit : Addr
  d_Rights_from_digit : FuncData
  P_Rights_from_digit : Addr
  f_Rights_digit : Addr
  d_Rights_digit : FuncData
  P_Rights_digit : Addr
  f_Rights_listed : Addr
  d_Rights_listed : FuncData
  f_Rights_covers : Addr
  d_Rights_covers : FuncData
  f_Rights___or__ : Addr
  d_Rights___or__ : FuncData
  f_Rights___and__ : Addr
  d_Rights___and__ : FuncData
  f_Rights___sub__ : Addr
  d_Rights___sub__ : FuncData
  f_Rights___xor__ : Addr
  d_Rights___xor__ : FuncData
  f_Rights___invert__ : Addr
  d_Rights___invert__ : FuncData
  f_Rights___eq__ : Addr
  d_Rights___eq__ : FuncData
  f_Rights___contains__ : Addr
  d_Rights___contains__ : FuncData
  f_Rights___len__ : Addr
  d_Rights___len__ : FuncData
  f_Rights___bool__ : Addr
  d_Rights___bool__ : FuncData
  C_Rights : Addr
  K_DIGITS : Addr
  K_WORDS : Addr
structure Txt (w : World) (K : PySem.W.Frag) (mg : Str → Option Value) (A : Ads) : Prop where
  F_is_integer : Fun K "is_integer" "is_integer" s_is_integer A.f_is_integer A.d_is_integer
  B_is_integer : Binds K A.d_is_integer ["value", "low", "high"] []
  g_is_integer : mg "is_integer" = some (.ref A.f_is_integer)
  F_as_rights : Fun K "as_rights" "as_rights" s_as_rights A.f_as_rights A.d_as_rights
  B_as_rights : Binds K A.d_as_rights ["value"] []
  g_as_rights : mg "as_rights" = some (.ref A.f_as_rights)
  F__is_letters : Fun K "_is_letters" "_is_letters" s__is_letters A.f__is_letters A.d__is_letters
  B__is_letters : Binds K A.d__is_letters ["value"] []
  g__is_letters : mg "_is_letters" = some (.ref A.f__is_letters)
  F__digit_of : Fun K "_digit_of" "_digit_of" s__digit_of A.f__digit_of A.d__digit_of
  B__digit_of : Binds K A.d__digit_of ["value"] []
  g__digit_of : mg "_digit_of" = some (.ref A.f__digit_of)
  F_cell : Fun K "_law_cell" "_law_cell" s_cell A.f_cell A.d_cell
  B_cell : Binds K A.d_cell ["_law_script", "_law_k"] []
  g_cell : mg "_law_cell" = some (.ref A.f_cell)
  F_box : Fun K "_law_box" "_law_box" s_box A.f_box A.d_box
  B_box : Binds K A.d_box ["_law_cell_here"] []
  g_box : mg "_law_box" = some (.ref A.f_box)
  F_take : Fun K "_law_take" "_law_take" s_take A.f_take A.d_take
  B_take : Binds K A.d_take ["_law_box_here", "_law_many"] []
  g_take : mg "_law_take" = some (.ref A.f_take)
  F_made : Fun K "_law_made" "_law_made" s_made A.f_made A.d_made
  B_made : Binds K A.d_made ["_law_box_here", "_law_digit"] []
  g_made : mg "_law_made" = some (.ref A.f_made)
  F_step : Fun K "_law_step" "_law_step" s_step A.f_step A.d_step
  B_step : Binds K A.d_step ["_law_box_here", "_law_known"] []
  g_step : mg "_law_step" = some (.ref A.f_step)
  F_pair_right : Fun K "_law_pair_right" "_law_pair_right" s_pair_right A.f_pair_right A.d_pair_right
  B_pair_right : Binds K A.d_pair_right ["_law_one", "_law_a", "_law_other", "_law_b"] []
  g_pair_right : mg "_law_pair_right" = some (.ref A.f_pair_right)
  F_law : Fun K "law" "law" s_law A.f_law A.d_law
  B_law : Binds K A.d_law ["_law_script"] []
  g_law : mg "law" = some (.ref A.f_law)
  F_Rights___init__ : FunD K "__init__" "Rights.__init__" (defArgs s_Rights___init__) (defBody s_Rights___init__) (defScope s_Rights___init__) [.str ""] [] A.f_Rights___init__ A.d_Rights___init__
  me_Rights___init__ : Meth K A.C_Rights "__init__" A.f_Rights___init__
  F_Rights_of : Fun K "of" "Rights.of" s_Rights_of A.f_Rights_of A.d_Rights_of
  cm_Rights_of : ClX.CMet K A.C_Rights (.type "type") "of" A.P_Rights_of A.f_Rights_of
  F_Rights_from_digit : Fun K "from_digit" "Rights.from_digit" s_Rights_from_digit A.f_Rights_from_digit A.d_Rights_from_digit
  B_Rights_from_digit : Binds K A.d_Rights_from_digit ["cls", "digit"] []
  cm_Rights_from_digit : ClX.CMet K A.C_Rights (.type "type") "from_digit" A.P_Rights_from_digit A.f_Rights_from_digit
  F_Rights_digit : Fun K "digit" "Rights.digit" s_Rights_digit A.f_Rights_digit A.d_Rights_digit
  B_Rights_digit : Binds K A.d_Rights_digit ["self"] []
  pr_Rights_digit : PropOf K A.C_Rights "digit" A.P_Rights_digit A.f_Rights_digit
  F_Rights_listed : Fun K "listed" "Rights.listed" s_Rights_listed A.f_Rights_listed A.d_Rights_listed
  B_Rights_listed : Binds K A.d_Rights_listed ["self"] []
  me_Rights_listed : Meth K A.C_Rights "listed" A.f_Rights_listed
  F_Rights_covers : Fun K "covers" "Rights.covers" s_Rights_covers A.f_Rights_covers A.d_Rights_covers
  B_Rights_covers : Binds K A.d_Rights_covers ["self", "other"] []
  me_Rights_covers : Meth K A.C_Rights "covers" A.f_Rights_covers
  F_Rights___or__ : Fun K "__or__" "Rights.__or__" s_Rights___or__ A.f_Rights___or__ A.d_Rights___or__
  B_Rights___or__ : Binds K A.d_Rights___or__ ["self", "other"] []
  me_Rights___or__ : Meth K A.C_Rights "__or__" A.f_Rights___or__
  F_Rights___and__ : Fun K "__and__" "Rights.__and__" s_Rights___and__ A.f_Rights___and__ A.d_Rights___and__
  B_Rights___and__ : Binds K A.d_Rights___and__ ["self", "other"] []
  me_Rights___and__ : Meth K A.C_Rights "__and__" A.f_Rights___and__
  F_Rights___sub__ : Fun K "__sub__" "Rights.__sub__" s_Rights___sub__ A.f_Rights___sub__ A.d_Rights___sub__
  B_Rights___sub__ : Binds K A.d_Rights___sub__ ["self", "other"] []
  me_Rights___sub__ : Meth K A.C_Rights "__sub__" A.f_Rights___sub__
  F_Rights___xor__ : Fun K "__xor__" "Rights.__xor__" s_Rights___xor__ A.f_Rights___xor__ A.d_Rights___xor__
  B_Rights___xor__ : Binds K A.d_Rights___xor__ ["self", "other"] []
  me_Rights___xor__ : Meth K A.C_Rights "__xor__" A.f_Rights___xor__
  F_Rights___invert__ : Fun K "__invert__" "Rights.__invert__" s_Rights___invert__ A.f_Rights___invert__ A.d_Rights___invert__
  B_Rights___invert__ : Binds K A.d_Rights___invert__ ["self"] []
  me_Rights___invert__ : Meth K A.C_Rights "__invert__" A.f_Rights___invert__
  F_Rights___eq__ : Fun K "__eq__" "Rights.__eq__" s_Rights___eq__ A.f_Rights___eq__ A.d_Rights___eq__
  B_Rights___eq__ : Binds K A.d_Rights___eq__ ["self", "other"] []
  me_Rights___eq__ : Meth K A.C_Rights "__eq__" A.f_Rights___eq__
  F_Rights___contains__ : Fun K "__contains__" "Rights.__contains__" s_Rights___contains__ A.f_Rights___contains__ A.d_Rights___contains__
  B_Rights___contains__ : Binds K A.d_Rights___contains__ ["self", "value"] []
  me_Rights___contains__ : Meth K A.C_Rights "__contains__" A.f_Rights___contains__
  F_Rights___len__ : Fun K "__len__" "Rights.__len__" s_Rights___len__ A.f_Rights___len__ A.d_Rights___len__
  B_Rights___len__ : Binds K A.d_Rights___len__ ["self"] []
  me_Rights___len__ : Meth K A.C_Rights "__len__" A.f_Rights___len__
  F_Rights___bool__ : Fun K "__bool__" "Rights.__bool__" s_Rights___bool__ A.f_Rights___bool__ A.d_Rights___bool__
  B_Rights___bool__ : Binds K A.d_Rights___bool__ ["self"] []
  me_Rights___bool__ : Meth K A.C_Rights "__bool__" A.f_Rights___bool__
  gC_Rights : mg "Rights" = some (.ref A.C_Rights)
  c_Rights : ∃ u, mg "Rights" = some u ∧ RelV (.ref A.C_Rights) u
  cl_Rights : Cls K A.C_Rights
  mk_Rights : Mk K A.C_Rights A.f_Rights___init__
  cr_Rights : ClX.CRead K A.C_Rights (.type "type")
  in_Rights : C8.InsC K A.C_Rights
  sf_Rights : PySem.W.selfFirst K A.C_Rights = true
  cd_Rights : ∃ cd, PySem.W.clsIn K A.C_Rights = some cd ∧ cd.mro = [.ref A.C_Rights, .type "object"]
  ne_Rights : PySem.W.findIn K (.ref A.C_Rights) "__ne__" = some (some (.builtin "object.__ne__"))
  na_Rights__digit : NoAttr K A.C_Rights "_digit"
  nf_Rights_str : PySem.W.notFirst K A.C_Rights (.type "str") = true
  kt_Rights_str : PySem.W.kitOne K (.type "str") (.ref A.C_Rights) = some false
  nf_Rights_int : PySem.W.notFirst K A.C_Rights (.type "int") = true
  kt_Rights_int : PySem.W.kitOne K (.type "int") (.ref A.C_Rights) = some false
  c_LETTERS : ∃ u, mg "LETTERS" = some u ∧ RelV (.str "rwx") u
  c_ALL_DIGIT : ∃ u, mg "ALL_DIGIT" = some u ∧ RelV (.int 7) u
  c_DIGITS : ∃ u, mg "DIGITS" = some u ∧ RelV (.ref A.K_DIGITS) u
  kd_DIGITS : ∃ es n, KDict K w A.K_DIGITS es n
  at_DIGITS_ : KDct K w A.K_DIGITS "" (.int 0)
  at_DIGITS_x : KDct K w A.K_DIGITS "x" (.int 1)
  at_DIGITS_w : KDct K w A.K_DIGITS "w" (.int 2)
  at_DIGITS_wx : KDct K w A.K_DIGITS "wx" (.int 3)
  at_DIGITS_xw : KDct K w A.K_DIGITS "xw" (.int 3)
  at_DIGITS_r : KDct K w A.K_DIGITS "r" (.int 4)
  at_DIGITS_rx : KDct K w A.K_DIGITS "rx" (.int 5)
  at_DIGITS_xr : KDct K w A.K_DIGITS "xr" (.int 5)
  at_DIGITS_rw : KDct K w A.K_DIGITS "rw" (.int 6)
  at_DIGITS_wr : KDct K w A.K_DIGITS "wr" (.int 6)
  at_DIGITS_rwx : KDct K w A.K_DIGITS "rwx" (.int 7)
  at_DIGITS_rxw : KDct K w A.K_DIGITS "rxw" (.int 7)
  at_DIGITS_wrx : KDct K w A.K_DIGITS "wrx" (.int 7)
  at_DIGITS_wxr : KDct K w A.K_DIGITS "wxr" (.int 7)
  at_DIGITS_xrw : KDct K w A.K_DIGITS "xrw" (.int 7)
  at_DIGITS_xwr : KDct K w A.K_DIGITS "xwr" (.int 7)
  c_WORDS : ∃ u, mg "WORDS" = some u ∧ RelV (.ref A.K_WORDS) u
  tu_WORDS : ∃ o its n, List.lookup A.K_WORDS K = some o ∧ o.cls = .type "tuple" ∧ o.data = .seq its n ∧ its.size ≤ sizeLine ∧ Vals [.str "", .str "x", .str "w", .str "wx", .str "r", .str "rx", .str "rw", .str "rwx"] its.toList
  b_bool : mg "bool" = none
  b_int : mg "int" = none
  b_isinstance : mg "isinstance" = none
  b_len : mg "len" = none
  b_list : mg "list" = none
  b_max : mg "max" = none
  b_min : mg "min" = none
  b_range : mg "range" = none
  b_repr : mg "repr" = none
  b_str : mg "str" = none
  b_sum : mg "sum" = none


end K10
namespace K10
open PySem PySem.Spec PyProof.Rows L2 FR TL
open C8 (pss_cut pe_gc)
open StX (pe_callS2 pa_star)
section
variable {P : Program} {w : World} {K : PySem.W.Frag} {mg : Str → Option Value} {base : Heap} {A : Ads}
set_option pp.maxSteps 120
/-- the letters of a digit -/
def lw (d : Int) : Str := if d = 0 then "" else if d = 1 then "x" else if d = 2 then "w" else if d = 3 then "wx" else if d = 4 then "r" else if d = 5 then "rx" else if d = 6 then "rw" else "rwx"
def bv (k : Str) : Int := if k = "r" then 4 else if k = "w" then 2 else 1
def bit (d : Int) (k : Str) : Bool := Builtin.bitAnd d (bv k) != 0
def keysL : List Str := ["r", "w", "x"]
theorem eight {F : Int → Prop} (h : F 0 ∧ F 1 ∧ F 2 ∧ F 3 ∧ F 4 ∧ F 5 ∧ F 6 ∧ F 7) {d : Int} (d0 : 0 ≤ d) (d1 : d ≤ 7) : F d := by
  have : d = 0 ∨ d = 1 ∨ d = 2 ∨ d = 3 ∨ d = 4 ∨ d = 5 ∨ d = 6 ∨ d = 7 := by omega
  obtain ⟨a0, a1, a2, a3, a4, a5, a6, a7⟩ := h
  rcases this with rfl | rfl | rfl | rfl | rfl | rfl | rfl | rfl <;> assumption
/-- the texts of unlike letters, with their digits -/
def goodT : List (Str × Int) := [("", 0), ("x", 1), ("w", 2), ("wx", 3), ("xw", 3), ("r", 4), ("rx", 5), ("xr", 5), ("rw", 6), ("wr", 6), ("rwx", 7), ("rxw", 7), ("wrx", 7), ("wxr", 7), ("xrw", 7), ("xwr", 7)]
theorem dg_at (T : Txt w K mg A) {t : Str} {d : Int} (h : (t, d) ∈ goodT) : KDct K w A.K_DIGITS t (.int d) := by
  simp only [goodT, List.mem_cons, List.not_mem_nil, or_false, Prod.mk.injEq] at h
  rcases h with ⟨rfl, rfl⟩ | ⟨rfl, rfl⟩ | ⟨rfl, rfl⟩ | ⟨rfl, rfl⟩ | ⟨rfl, rfl⟩ | ⟨rfl, rfl⟩ | ⟨rfl, rfl⟩ | ⟨rfl, rfl⟩ | ⟨rfl, rfl⟩ | ⟨rfl, rfl⟩ | ⟨rfl, rfl⟩ | ⟨rfl, rfl⟩ | ⟨rfl, rfl⟩ | ⟨rfl, rfl⟩ | ⟨rfl, rfl⟩ | ⟨rfl, rfl⟩
  · exact T.at_DIGITS_
  · exact T.at_DIGITS_x
  · exact T.at_DIGITS_w
  · exact T.at_DIGITS_wx
  · exact T.at_DIGITS_xw
  · exact T.at_DIGITS_r
  · exact T.at_DIGITS_rx
  · exact T.at_DIGITS_xr
  · exact T.at_DIGITS_rw
  · exact T.at_DIGITS_wr
  · exact T.at_DIGITS_rwx
  · exact T.at_DIGITS_rxw
  · exact T.at_DIGITS_wrx
  · exact T.at_DIGITS_wxr
  · exact T.at_DIGITS_xrw
  · exact T.at_DIGITS_xwr
theorem dg_in (T : Txt w K mg A) {t : Str} {d : Int} (h : (t, d) ∈ goodT) : ∃ u, PySem.W.nsIn K A.K_DIGITS t = some (some u) := by
  obtain ⟨_, _, u, _, _, hu, _⟩ := dg_at T h
  exact ⟨u, hu⟩
def wordsL : List V := [.str "", .str "x", .str "w", .str "wx", .str "r", .str "rx", .str "rw", .str "rwx"]
theorem wd_at {d : Int} (d0 : 0 ≤ d) (d1 : d ≤ 7) : atI wordsL d = some (.str (lw d)) := by
  have : d = 0 ∨ d = 1 ∨ d = 2 ∨ d = 3 ∨ d = 4 ∨ d = 5 ∨ d = 6 ∨ d = 7 := by omega
  rcases this with rfl | rfl | rfl | rfl | rfl | rfl | rfl | rfl <;> rfl
theorem wd_sq (T : Txt w K mg A) (H : Hp) : SqT K H A.K_WORDS wordsL := .inr T.tu_WORDS
theorem lw_good {d : Int} (d0 : 0 ≤ d) (d1 : d ≤ 7) : (lw d, d) ∈ goodT := eight (F := fun d => (lw d, d) ∈ goodT) (by decide +kernel) d0 d1
theorem good_in {t : Str} {d : Int} (h : (t, d) ∈ goodT) : 0 ≤ d ∧ d ≤ 7 := by
  have : goodT.all (fun p => decide (0 ≤ p.2) && decide (p.2 ≤ 7)) = true := by decide +kernel
  simpa using List.all_eq_true.mp this _ h
/-- a rights object of this digit -/
def RgO (A : Ads) (dx : Addr) (d : Int) : HO := .ins A.C_Rights dx [("_digit", .int d)]
def IsR (A : Ads) (H : Hp) (v : V) (d : Int) : Prop := ∃ a dx, v = .ref a ∧ H a = some (RgO A dx d) ∧ 0 ≤ d ∧ d ≤ 7
def spDig (A : Ads) : Sp := fun vs H Q _ => ∃ v d, vs = [v] ∧ IsR A H v d ∧ Q (.int d) H
theorem ok_Rights_digit (T : Txt w K mg A) : FnOk P w K mg base CX0 1 A.f_Rights_digit A.d_Rights_digit ["self"] (spDig A) := by
  refine T.F_Rights_digit.ok sc_Rights_digit (fun vs H Q E h => ?_) (fun cdv A_ outer s H vs Q E hr h => ?_)
  · obtain ⟨v, d, rfl, _⟩ := h
    rfl
  · obtain ⟨_, d, rfl, ⟨a, dx, rfl, ha, d0, d1⟩, q⟩ := h
    refine ⟨_, (pss_one (ps_ret (pe_fld (pv 0) rfl))), ?_⟩
    exact ⟨_, rfl, a, _, dx, _, _, rfl, ha, T.cl_Rights, T.na_Rights__digit, rfl, q⟩
theorem ok__digit_of (T : Txt w K mg A) : FnOk P w K mg base CX0 3 A.f__digit_of A.d__digit_of ["value"] (spDig A) := by
  refine T.F__digit_of.ok sc__digit_of (fun vs H Q E h => ?_) (fun cdv A_ outer s H vs Q E hr h => ?_)
  · obtain ⟨v, d, rfl, _⟩ := h
    rfl
  · obtain ⟨_, d, rfl, ⟨a, dx, rfl, ha, d0, d1⟩, q⟩ := h
    refine ⟨_, (pss_cons (ps_if (pt_not (pt_val (pe_callB (C8.call_isC T.in_Rights) (by rfl) T.b_isinstance (by decide +kernel) (pa_cons (pv 0) (pa_cons (pe_gc rfl T.c_Rights) pa_nil))))) (pss_one ps_never) pss_nil)
  (pss_one (ps_ret (pe_prop (pv 0) T.cl_Rights T.pr_Rights_digit (ok_Rights_digit T) (hr.mono (by decide)) T.B_Rights_digit .nil pass0 rfl)))), ?_⟩
    walk_at "rd"
    refine ⟨a, dx, _, rfl, ha, _, rfl, ?_⟩
    refine ifF rfl ?_
    exact ⟨_, rfl, a, dx, _, rfl, ha, _, d, rfl, ⟨a, dx, rfl, ha, d0, d1⟩, q⟩
end
end K10
namespace K10
open PySem PySem.Spec PyProof.Rows L2 FR TL
open C8 (pss_cut pe_gc)
open StX (pe_callS2 pa_star)
section
variable {P : Program} {w : World} {K : PySem.W.Frag} {mg : Str → Option Value} {base : Heap} {A : Ads}
set_option pp.maxSteps 120
theorem lw_tl {d : Int} (d0 : 0 ≤ d) (d1 : d ≤ 7) : (tl (lw d)).map (fun c => V.str ⟨#[c]⟩) = (keysL.filter (bit d)).map V.str ∧ (lw d).cps.size ≤ sizeLine :=
  ⟨eight (F := fun d => (tl (lw d)).map (fun c => V.str ⟨#[c]⟩) = (keysL.filter (bit d)).map V.str) (by decide +kernel) d0 d1, size_le (by exact eight (F := fun d => (lw d).cps.size ≤ 1000000) (by decide +kernel) d0 d1)⟩
def spListed (A : Ads) : Sp := fun vs H Q _ => ∃ v d, vs = [v] ∧ IsR A H v d ∧ ∀ H1, Keep [] H H1 → NewS (.lst ((keysL.filter (bit d)).map V.str)) Q H1
theorem ok_Rights_listed (T : Txt w K mg A) : FnOk P w K mg base CX0 2 A.f_Rights_listed A.d_Rights_listed ["self"] (spListed A) := by
  refine T.F_Rights_listed.ok sc_Rights_listed (fun vs H Q E h => ?_) (fun cdv A_ outer s H vs Q E hr h => ?_)
  · obtain ⟨v, d, rfl, _⟩ := h
    rfl
  · obtain ⟨_, d, rfl, ⟨a, dx, rfl, ha, d0, d1⟩, q⟩ := h
    refine ⟨_, (pss_one (ps_ret (pe_callTy (call_listT rfl) (by rfl) T.b_list (by decide +kernel) (pa_cons (pe_ix ix_tup (pe_gc rfl T.c_WORDS) (pe_fld (pv 0) rfl) (fun _ _ => rfl)) pa_nil)))), ?_⟩
    refine ⟨_, rfl, a, _, dx, _, _, rfl, ha, T.cl_Rights, T.na_Rights__digit, rfl, ?_⟩
    refine ⟨_, _, _, _, rfl, rfl, wd_sq T H, wd_at d0 d1, ?_⟩
    refine ⟨_, rfl, ?_, ?_⟩
    · exact (lw_tl d0 d1).2
    · rw [(lw_tl d0 d1).1]
      exact q H Keep.refl
theorem ok_Rights___bool__ (T : Txt w K mg A) : FnOk P w K mg base CX0 1 A.f_Rights___bool__ A.d_Rights___bool__ ["self"] (fun vs H Q _ => ∃ v d, vs = [v] ∧ IsR A H v d ∧ Q (.bl (d != 0)) H) := by
  refine T.F_Rights___bool__.ok sc_Rights___bool__ (fun vs H Q E h => ?_) (fun cdv A_ outer s H vs Q E hr h => ?_)
  · obtain ⟨v, d, rfl, _⟩ := h
    rfl
  · obtain ⟨_, d, rfl, ⟨a, dx, rfl, ha, d0, d1⟩, q⟩ := h
    refine ⟨_, (pss_one (ps_ret (pe_callTy call_bool1 (by rfl) T.b_bool (by decide +kernel) (pa_cons (pe_fld (pv 0) rfl) pa_nil)))), ?_⟩
    refine ⟨_, rfl, a, _, dx, _, _, rfl, ha, T.cl_Rights, T.na_Rights__digit, rfl, ?_⟩
    exact .inl ⟨d, rfl, q⟩
def spEq (A : Ads) : Sp := fun vs H Q _ => ∃ v d v', vs = [v, v'] ∧ IsR A H v d ∧ ((∃ d', IsR A H v' d' ∧ Q (.bl (decide (d = d'))) H) ∨ (((∃ t, v' = .str t) ∨ ∃ i, v' = .int i) ∧ Q (.bl false) H))
theorem ok_Rights___eq__ (T : Txt w K mg A) : FnOk P w K mg base CX0 1 A.f_Rights___eq__ A.d_Rights___eq__ ["self", "other"] (spEq A) := by
  refine T.F_Rights___eq__.ok sc_Rights___eq__ (fun vs H Q E h => ?_) (fun cdv A_ outer s H vs Q E hr h => ?_)
  · obtain ⟨v, d, v', rfl, _⟩ := h
    rfl
  · obtain ⟨_, d, v', rfl, ⟨a, dx, rfl, ha, d0, d1⟩, q⟩ := h
    refine ⟨_, (pss_one (ps_ret (pe_and (pe_callB (call_isA T.in_Rights) (by rfl) T.b_isinstance (by decide +kernel) (pa_cons (pv 1) (pa_cons (pe_gc rfl T.c_Rights) pa_nil))) (pe_one (pe_cmpR op_eq (pe_fld (pv 0) rfl) (pe_fld (pv 1) rfl) (nomark _)))))), ?_⟩
    rcases q with ⟨d', ⟨a', dx', rfl, ha', d0', d1'⟩, q⟩ | ⟨⟨t, rfl⟩ | ⟨i, rfl⟩, q⟩
    · walk_at "rd"
      refine .inl ⟨a', dx', _, rfl, ha', ?_⟩
      refine ⟨true, rfl, ?_⟩
      rw [if_pos rfl]
      refine ⟨_, rfl, a, _, dx, _, _, rfl, ha, T.cl_Rights, T.na_Rights__digit, rfl, _, rfl, a', _, dx', _, _, rfl, ha', T.cl_Rights, T.na_Rights__digit, rfl, ?_⟩
      refine ⟨rfl, ?_⟩
      rw [show decide (V.int d = V.int d') = decide (d = d') from by simp]
      exact q
    · walk_at "rd"
      refine .inr ⟨_, _, _, _, _, rfl, .own _, .base (.str _), T.kt_Rights_str, ?_⟩
      walk_at "rd"
      exact q
    · walk_at "rd"
      refine .inr ⟨_, _, _, _, _, rfl, .own _, .base (.int _), T.kt_Rights_int, ?_⟩
      walk_at "rd"
      exact q
theorem ok_Rights_covers (T : Txt w K mg A) : FnOk P w K mg base CX0 4 A.f_Rights_covers A.d_Rights_covers ["self", "other"] (fun vs H Q _ => ∃ v d v' d', vs = [v, v'] ∧ IsR A H v d ∧ IsR A H v' d' ∧ Q (.bl (decide (Builtin.bitAnd d d' = d'))) H) := by
  refine T.F_Rights_covers.ok sc_Rights_covers (fun vs H Q E h => ?_) (fun cdv A_ outer s H vs Q E hr h => ?_)
  · obtain ⟨v, d, v', d', rfl, _⟩ := h
    rfl
  · obtain ⟨_, d, _, d', rfl, ⟨a, dx, rfl, ha, d0, d1⟩, ⟨a', dx', rfl, ha', d0', d1'⟩, q⟩ := h
    refine ⟨_, (pss_cons (ps_set (i := 2) sc_Rights_covers.nd rfl (.inl rfl) (pe_call (ok__digit_of T) (hr.mono (by decide)) (by rfl) T.g__digit_of T.F__digit_of.kp T.B__digit_of .nil pass0 (pa_cons (pv 1) pa_nil)))
  (pss_one (ps_ret (pe_cmpR op_eq (pe_op op_and (pe_fld (pv 0) rfl) (pv 2)) (pv 2) (nomark _))))), ?_⟩
    walk_at "rd"
    refine ⟨_, d', rfl, ⟨a', dx', rfl, ha', d0', d1'⟩, ?_⟩
    walk_at "rd"
    refine ⟨a, _, dx, _, _, rfl, ha, T.cl_Rights, T.na_Rights__digit, rfl, ?_⟩
    refine ⟨_, rfl, ?_⟩
    refine ⟨_, _, rfl, rfl, ?_⟩
    refine ⟨_, rfl, ?_⟩
    refine ⟨rfl, ?_⟩
    rw [show decide (V.int (Builtin.bitAnd d d') = V.int d') = decide (Builtin.bitAnd d d' = d') from by simp]
    exact q
theorem kl_len {d : Int} (d0 : 0 ≤ d) (d1 : d ≤ 7) : ((keysL.filter (bit d)).map V.str).length ≤ 3 := by
  rw [List.length_map]
  exact List.length_filter_le _ _
theorem ok_Rights___len__ (T : Txt w K mg A) : FnOk P w K mg base CX0 3 A.f_Rights___len__ A.d_Rights___len__ ["self"] (fun vs H Q _ => ∃ v d, vs = [v] ∧ IsR A H v d ∧ ∀ H1, Keep [] H H1 → Q (.int (keysL.filter (bit d)).length) H1) := by
  refine T.F_Rights___len__.ok sc_Rights___len__ (fun vs H Q E h => ?_) (fun cdv A_ outer s H vs Q E hr h => ?_)
  · obtain ⟨v, d, rfl, _⟩ := h
    rfl
  · obtain ⟨_, d, rfl, ⟨a, dx, rfl, ha, d0, d1⟩, q⟩ := h
    have W : Ow H [] H [] := Ow.start0
    refine ⟨_, (pss_one (ps_ret (pe_callB call_len_seq (by rfl) T.b_len PySem.boot_len (pa_cons (pe_meth0 (pv 0) T.cl_Rights T.me_Rights_listed (ok_Rights_listed T) (hr.mono (by decide)) T.B_Rights_listed .nil pass0) pa_nil)))), ?_⟩
    refine ⟨_, rfl, a, dx, _, rfl, ha, rfl, _, d, rfl, ⟨a, dx, rfl, ha, d0, d1⟩, fun H1 k1 => ?_⟩
    have W1 := W.call0 k1
    walk_at "obj"
    rename_i p H2 np sp kp hp W2
    refine ⟨p, _, rfl, .inl (.inl (.inl hp)), ?_⟩
    rw [List.length_map]
    exact q H2 (k1.trans kp)
theorem ok_Rights___contains__ (T : Txt w K mg A) : FnOk P w K mg base CX0 3 A.f_Rights___contains__ A.d_Rights___contains__ ["self", "value"] (fun vs H Q _ => ∃ v d x, vs = [v, x] ∧ IsR A H v d ∧ ((∃ s : Str, x = .str s ∧ ∀ H1, Keep [] H H1 → Q (.bl (decide (s ∈ keysL.filter (bit d)))) H1) ∨ (((∃ i, x = .int i) ∨ x = .non) ∧ Q (.bl false) H))) := by
  refine T.F_Rights___contains__.ok sc_Rights___contains__ (fun vs H Q E h => ?_) (fun cdv A_ outer s H vs Q E hr h => ?_)
  · obtain ⟨v, d, x, rfl, _⟩ := h
    rfl
  · obtain ⟨_, d, x, rfl, ⟨a, dx, rfl, ha, d0, d1⟩, q⟩ := h
    have W : Ow H [] H [] := Ow.start0
    refine ⟨_, (pss_one (ps_ret (pe_and (pe_callB call_isi (by rfl) T.b_isinstance (by decide +kernel) (pa_cons (pv 1) (pa_cons (pe_bltn (v := .ty "str") rfl T.b_str (by decide +kernel) rfl) pa_nil))) (pe_one (pe_cmpR op_in_seq (pv 1) (pe_meth0 (pv 0) T.cl_Rights T.me_Rights_listed (ok_Rights_listed T) (hr.mono (by decide)) T.B_Rights_listed .nil pass0) rfl))))), ?_⟩
    rcases q with ⟨z, rfl, q⟩ | ⟨⟨i, rfl⟩ | rfl, q⟩
    · walk_at "rd"
      refine ⟨a, dx, _, rfl, ha, rfl, _, d, rfl, ⟨a, dx, rfl, ha, d0, d1⟩, fun H1 k1 => ?_⟩
      have W1 := W.call0 k1
      walk_at "obj"
      rename_i p H2 np sp kp hp W2
      walk_at "rd"
      refine ⟨rfl, by rw [List.all_map]; exact List.all_eq_true.mpr fun _ _ => rfl, ?_⟩
      rw [if_neg (by decide), in_strs]
      exact q H2 (k1.trans kp)
    · walk_at "rd"
      exact q
    · walk_at "rd"
      exact q
end
end K10
namespace K10
open PySem PySem.Spec PyProof.Rows L2 FR TL
open C8 (pss_cut pe_gc)
open StX (pe_callS2 pa_star)
section
variable {P : Program} {w : World} {K : PySem.W.Frag} {mg : Str → Option Value} {base : Heap} {A : Ads}
set_option pp.maxSteps 120
theorem ok__is_letters (T : Txt w K mg A) : FnOk P w K mg base CX0 1 A.f__is_letters A.d__is_letters ["value"] (fun vs H Q _ => ∃ t d, vs = [.str t] ∧ (t, d) ∈ goodT ∧ Q (.bl true) H) := by
  refine T.F__is_letters.ok sc__is_letters (fun vs H Q E h => ?_) (fun cdv A_ outer s H vs Q E hr h => ?_)
  · obtain ⟨t, d, rfl, _⟩ := h
    rfl
  · obtain ⟨t, d, rfl, g, q⟩ := h
    refine ⟨_, (pss_one (ps_ret (pe_and (pe_callB call_isi (by rfl) T.b_isinstance (by decide +kernel) (pa_cons (pv 0) (pa_cons (pe_bltn (v := .ty "str") rfl T.b_str (by decide +kernel) rfl) pa_nil))) (pe_one (pe_cmpR (op_inW (K := K) (w := w) rfl rfl T.kd_DIGITS) (pv 0) (pe_gc rfl T.c_DIGITS) rfl))))), ?_⟩
    walk_at "rd"
    obtain ⟨u, hu⟩ := dg_in T g
    exact ⟨_, _, rfl, rfl, hu, q⟩
def spInit (A : Ads) : Sp := fun vs H Q _ => ∃ x dx t d, vs = [.ref x, .str t] ∧ H x = some (.ins A.C_Rights dx []) ∧ (t, d) ∈ goodT ∧ ∀ H1, Keep [x] H H1 → H1 x = some (RgO A dx d) → Q .non H1
theorem ok_Rights___init__ (T : Txt w K mg A) : FnOk P w K mg base CX0 2 A.f_Rights___init__ A.d_Rights___init__ ["self", "letters"] (spInit A) := by
  refine (T.F_Rights___init__.ok (CX := CX0) sc_Rights___init__ (fun vs H Q E h => ?_) (fun cdv A_ outer s H vs Q E hr h => ?_))
  · obtain ⟨x, dx, t, d, rfl, _⟩ := h
    rfl
  · obtain ⟨x, dx, t, d, rfl, hx, g, q⟩ := h
    refine ⟨_, (pss_cons (ps_if (pt_not (pt_val (pe_call (ok__is_letters T) (hr.mono (by decide)) (by rfl) T.g__is_letters T.F__is_letters.kp T.B__is_letters .nil pass0 (pa_cons (pv 1) pa_nil)))) (pss_one ps_never) pss_nil)
  (pss_one (ps_fld (pv 0) (pe_ix (ix_kdictK (K := K) (w := w) rfl rfl) (pe_gc rfl T.c_DIGITS) (pv 1) (fun _ _ => rfl)) rfl))), ?_⟩
    walk_at "rd"
    refine ⟨t, d, rfl, g, ?_⟩
    walk_at "rd"
    refine ⟨_, _, _, rfl, rfl, dg_at T g, ?_⟩
    refine ⟨_, rfl, x, _, dx, _, rfl, hx, T.cl_Rights, T.na_Rights__digit, by decide, ?_⟩
    exact q _ keep_upd upd_same
theorem bd_Rights___init___1 (T : Txt w K mg A) : Vals [] [] ∧ Binds K A.d_Rights___init__ ["self", "letters"] [] := by
  obtain ⟨ds, h1, h2⟩ := T.F_Rights___init__.binds1 (ps := ["self", "letters"]) 2 1 (by simp) rfl fun Tt kV doc pm an cdv ct us its h1 h2 => match us, its, h1, h2 with
    | [_, _], [_], _, _ => ⟨_, rfl, rfl⟩
  cases h1
  exact ⟨.nil, h2⟩
theorem bd_Rights___init___0 (T : Txt w K mg A) : ∃ ds, Vals [.str ""] ds ∧ Binds K A.d_Rights___init__ ["self", "letters"] ds := by
  obtain ⟨ds, h1, h2⟩ := T.F_Rights___init__.binds1 (ps := ["self", "letters"]) 1 0 (by simp) rfl fun Tt kV doc pm an cdv ct us its h1 h2 => match us, its, h1, h2 with
    | [_], [_], _, _ => ⟨_, rfl, rfl⟩
  exact ⟨ds, h1, h2⟩
end
end K10
namespace K10
open PySem PySem.Spec PyProof.Rows L2 FR TL
open C8 (pss_cut pe_gc)
open StX (pe_callS2 pa_star)
section
variable {P : Program} {w : World} {K : PySem.W.Frag} {mg : Str → Option Value} {base : Heap} {A : Ads}
set_option pp.maxSteps 120
/-- a new rights object of this digit -/
def NewR (A : Ads) (d : Int) (Q : VK) (H : Hp) : Prop := ∀ (x dx : Addr) (H1 : Hp), H x = none → H dx = none → Keep [] H H1 → H1 x = some (RgO A dx d) → Q (.ref x) H1
def spBin (A : Ads) (f : Int → Int → Int) : Sp := fun vs H Q _ => ∃ v d v' d', vs = [v, v'] ∧ IsR A H v d ∧ IsR A H v' d' ∧ NewR A (f d d') Q H
theorem keep_of_new {H H1 H2 : Hp} {x dx : Addr} {o o' : HO} (k1 : Keep [] H H1) (hx : H1 x = none) (hdx : H1 dx = none) (k2 : Keep [x] (upd (upd H1 dx o) x o') H2) : Keep [] H H2 := fun b u e _ => by
  have e1 := k1 b u e (by simp)
  have n1 : b ≠ dx := ne_of_none e1 hdx
  have n2 : b ≠ x := ne_of_none e1 hx
  refine k2 b u ?_ (by simpa using n2)
  rw [upd_ne n2, upd_ne n1]
  exact e1
theorem or_in {d d' : Int} (d0 : 0 ≤ d) (d1 : d ≤ 7) (e0 : 0 ≤ d') (e1 : d' ≤ 7) : 0 ≤ Builtin.bitOr d d' ∧ Builtin.bitOr d d' ≤ 7 :=
  eight (F := fun d => ∀ d', 0 ≤ d' → d' ≤ 7 → 0 ≤ Builtin.bitOr d d' ∧ Builtin.bitOr d d' ≤ 7) (by
    refine ⟨?_, ?_, ?_, ?_, ?_, ?_, ?_, ?_⟩ <;> exact fun d' a b => eight (F := fun e => 0 ≤ Builtin.bitOr _ e ∧ Builtin.bitOr _ e ≤ 7) (by decide +kernel) a b) d0 d1 d' e0 e1
theorem ok_Rights___or__ (T : Txt w K mg A) : FnOk P w K mg base CX0 5 A.f_Rights___or__ A.d_Rights___or__ ["self", "other"] (spBin A Builtin.bitOr) := by
  refine T.F_Rights___or__.ok sc_Rights___or__ (fun vs H Q E h => ?_) (fun cdv A_ outer s H vs Q E hr h => ?_)
  · obtain ⟨v, d, v', d', rfl, _⟩ := h
    rfl
  · obtain ⟨_, d, _, d', rfl, ⟨a, dx, rfl, ha, d0, d1⟩, ⟨a', dx', rfl, ha', d0', d1'⟩, q⟩ := h
    refine ⟨_, (pss_one (ps_ret (pe_make T.mk_Rights (ok_Rights___init__ T) (hr.mono (by decide)) (by rfl) T.gC_Rights (bd_Rights___init___1 T).2 (bd_Rights___init___1 T).1 pass0 (pa_cons (pe_ix ix_tup (pe_gc rfl T.c_WORDS) (pe_op op_or (pe_fld (pv 0) rfl) (pe_call (ok__digit_of T) (hr.mono (by decide)) (by rfl) T.g__digit_of T.F__digit_of.kp T.B__digit_of .nil pass0 (pa_cons (pv 1) pa_nil))) (fun _ _ => rfl)) pa_nil)))), ?_⟩
    refine ⟨_, rfl, a, _, dx, _, _, rfl, ha, T.cl_Rights, T.na_Rights__digit, rfl, ?_⟩
    walk_at "rd"
    refine ⟨_, d', rfl, ⟨a', dx', rfl, ha', d0', d1'⟩, ?_⟩
    refine ⟨_, _, rfl, rfl, ?_⟩
    obtain ⟨f0, f1⟩ := or_in d0 d1 d0' d1'
    refine ⟨_, _, _, _, rfl, rfl, wd_sq T H, wd_at f0 f1, ?_⟩
    intro x dy hx hdy hne
    refine ⟨x, dy, _, _, rfl, upd_same, lw_good f0 f1, fun H2 k2 h2 => ⟨rfl, ?_⟩⟩
    exact q x dy H2 hx hdy (keep_of_new Keep.refl hx hdy k2) h2
theorem and_in {d d' : Int} (d0 : 0 ≤ d) (d1 : d ≤ 7) (e0 : 0 ≤ d') (e1 : d' ≤ 7) : 0 ≤ Builtin.bitAnd d d' ∧ Builtin.bitAnd d d' ≤ 7 :=
  eight (F := fun d => ∀ d', 0 ≤ d' → d' ≤ 7 → 0 ≤ Builtin.bitAnd d d' ∧ Builtin.bitAnd d d' ≤ 7) (by
    refine ⟨?_, ?_, ?_, ?_, ?_, ?_, ?_, ?_⟩ <;> exact fun d' a b => eight (F := fun e => 0 ≤ Builtin.bitAnd _ e ∧ Builtin.bitAnd _ e ≤ 7) (by decide +kernel) a b) d0 d1 d' e0 e1
theorem ok_Rights___and__ (T : Txt w K mg A) : FnOk P w K mg base CX0 5 A.f_Rights___and__ A.d_Rights___and__ ["self", "other"] (spBin A Builtin.bitAnd) := by
  refine T.F_Rights___and__.ok sc_Rights___and__ (fun vs H Q E h => ?_) (fun cdv A_ outer s H vs Q E hr h => ?_)
  · obtain ⟨v, d, v', d', rfl, _⟩ := h
    rfl
  · obtain ⟨_, d, _, d', rfl, ⟨a, dx, rfl, ha, d0, d1⟩, ⟨a', dx', rfl, ha', d0', d1'⟩, q⟩ := h
    refine ⟨_, (pss_one (ps_ret (pe_make T.mk_Rights (ok_Rights___init__ T) (hr.mono (by decide)) (by rfl) T.gC_Rights (bd_Rights___init___1 T).2 (bd_Rights___init___1 T).1 pass0 (pa_cons (pe_ix ix_tup (pe_gc rfl T.c_WORDS) (pe_op op_and (pe_fld (pv 0) rfl) (pe_call (ok__digit_of T) (hr.mono (by decide)) (by rfl) T.g__digit_of T.F__digit_of.kp T.B__digit_of .nil pass0 (pa_cons (pv 1) pa_nil))) (fun _ _ => rfl)) pa_nil)))), ?_⟩
    refine ⟨_, rfl, a, _, dx, _, _, rfl, ha, T.cl_Rights, T.na_Rights__digit, rfl, ?_⟩
    walk_at "rd"
    refine ⟨_, d', rfl, ⟨a', dx', rfl, ha', d0', d1'⟩, ?_⟩
    refine ⟨_, _, rfl, rfl, ?_⟩
    obtain ⟨f0, f1⟩ := and_in d0 d1 d0' d1'
    refine ⟨_, _, _, _, rfl, rfl, wd_sq T H, wd_at f0 f1, ?_⟩
    intro x dy hx hdy hne
    refine ⟨x, dy, _, _, rfl, upd_same, lw_good f0 f1, fun H2 k2 h2 => ⟨rfl, ?_⟩⟩
    exact q x dy H2 hx hdy (keep_of_new Keep.refl hx hdy k2) h2
theorem xor_in {d d' : Int} (d0 : 0 ≤ d) (d1 : d ≤ 7) (e0 : 0 ≤ d') (e1 : d' ≤ 7) : 0 ≤ Builtin.bitXor d d' ∧ Builtin.bitXor d d' ≤ 7 :=
  eight (F := fun d => ∀ d', 0 ≤ d' → d' ≤ 7 → 0 ≤ Builtin.bitXor d d' ∧ Builtin.bitXor d d' ≤ 7) (by
    refine ⟨?_, ?_, ?_, ?_, ?_, ?_, ?_, ?_⟩ <;> exact fun d' a b => eight (F := fun e => 0 ≤ Builtin.bitXor _ e ∧ Builtin.bitXor _ e ≤ 7) (by decide +kernel) a b) d0 d1 d' e0 e1
theorem ok_Rights___xor__ (T : Txt w K mg A) : FnOk P w K mg base CX0 5 A.f_Rights___xor__ A.d_Rights___xor__ ["self", "other"] (spBin A Builtin.bitXor) := by
  refine T.F_Rights___xor__.ok sc_Rights___xor__ (fun vs H Q E h => ?_) (fun cdv A_ outer s H vs Q E hr h => ?_)
  · obtain ⟨v, d, v', d', rfl, _⟩ := h
    rfl
  · obtain ⟨_, d, _, d', rfl, ⟨a, dx, rfl, ha, d0, d1⟩, ⟨a', dx', rfl, ha', d0', d1'⟩, q⟩ := h
    refine ⟨_, (pss_one (ps_ret (pe_make T.mk_Rights (ok_Rights___init__ T) (hr.mono (by decide)) (by rfl) T.gC_Rights (bd_Rights___init___1 T).2 (bd_Rights___init___1 T).1 pass0 (pa_cons (pe_ix ix_tup (pe_gc rfl T.c_WORDS) (pe_op op_xor (pe_fld (pv 0) rfl) (pe_call (ok__digit_of T) (hr.mono (by decide)) (by rfl) T.g__digit_of T.F__digit_of.kp T.B__digit_of .nil pass0 (pa_cons (pv 1) pa_nil))) (fun _ _ => rfl)) pa_nil)))), ?_⟩
    refine ⟨_, rfl, a, _, dx, _, _, rfl, ha, T.cl_Rights, T.na_Rights__digit, rfl, ?_⟩
    walk_at "rd"
    refine ⟨_, d', rfl, ⟨a', dx', rfl, ha', d0', d1'⟩, ?_⟩
    refine ⟨_, _, rfl, rfl, ?_⟩
    obtain ⟨f0, f1⟩ := xor_in d0 d1 d0' d1'
    refine ⟨_, _, _, _, rfl, rfl, wd_sq T H, wd_at f0 f1, ?_⟩
    intro x dy hx hdy hne
    refine ⟨x, dy, _, _, rfl, upd_same, lw_good f0 f1, fun H2 k2 h2 => ⟨rfl, ?_⟩⟩
    exact q x dy H2 hx hdy (keep_of_new Keep.refl hx hdy k2) h2
def bSub (i j : Int) : Int := Builtin.bitAnd i (-j - 1)
theorem sub_in {d d' : Int} (d0 : 0 ≤ d) (d1 : d ≤ 7) (e0 : 0 ≤ d') (e1 : d' ≤ 7) : 0 ≤ bSub d d' ∧ bSub d d' ≤ 7 :=
  eight (F := fun d => ∀ d', 0 ≤ d' → d' ≤ 7 → 0 ≤ bSub d d' ∧ bSub d d' ≤ 7) (by
    refine ⟨?_, ?_, ?_, ?_, ?_, ?_, ?_, ?_⟩ <;> exact fun d' a b => eight (F := fun e => 0 ≤ bSub _ e ∧ bSub _ e ≤ 7) (by decide +kernel) a b) d0 d1 d' e0 e1
theorem ok_Rights___sub__ (T : Txt w K mg A) : FnOk P w K mg base CX0 5 A.f_Rights___sub__ A.d_Rights___sub__ ["self", "other"] (spBin A bSub) := by
  refine T.F_Rights___sub__.ok sc_Rights___sub__ (fun vs H Q E h => ?_) (fun cdv A_ outer s H vs Q E hr h => ?_)
  · obtain ⟨v, d, v', d', rfl, _⟩ := h
    rfl
  · obtain ⟨_, d, _, d', rfl, ⟨a, dx, rfl, ha, d0, d1⟩, ⟨a', dx', rfl, ha', d0', d1'⟩, q⟩ := h
    refine ⟨_, (pss_one (ps_ret (pe_make T.mk_Rights (ok_Rights___init__ T) (hr.mono (by decide)) (by rfl) T.gC_Rights (bd_Rights___init___1 T).2 (bd_Rights___init___1 T).1 pass0 (pa_cons (pe_ix ix_tup (pe_gc rfl T.c_WORDS) (pe_op op_and (pe_fld (pv 0) rfl) (pe_un un_inv (pe_call (ok__digit_of T) (hr.mono (by decide)) (by rfl) T.g__digit_of T.F__digit_of.kp T.B__digit_of .nil pass0 (pa_cons (pv 1) pa_nil)))) (fun _ _ => rfl)) pa_nil)))), ?_⟩
    refine ⟨_, rfl, a, _, dx, _, _, rfl, ha, T.cl_Rights, T.na_Rights__digit, rfl, ?_⟩
    walk_at "rd"
    refine ⟨_, d', rfl, ⟨a', dx', rfl, ha', d0', d1'⟩, ?_⟩
    refine ⟨_, rfl, ?_⟩
    refine ⟨_, _, rfl, rfl, ?_⟩
    obtain ⟨f0, f1⟩ := sub_in d0 d1 d0' d1'
    refine ⟨_, _, _, _, rfl, rfl, wd_sq T H, wd_at f0 f1, ?_⟩
    intro x dy hx hdy hne
    refine ⟨x, dy, _, _, rfl, upd_same, lw_good f0 f1, fun H2 k2 h2 => ⟨rfl, ?_⟩⟩
    exact q x dy H2 hx hdy (keep_of_new Keep.refl hx hdy k2) h2
theorem ok_Rights___invert__ (T : Txt w K mg A) : FnOk P w K mg base CX0 5 A.f_Rights___invert__ A.d_Rights___invert__ ["self"] (fun vs H Q _ => ∃ v d, vs = [v] ∧ IsR A H v d ∧ NewR A (7 - d) Q H) := by
  refine T.F_Rights___invert__.ok sc_Rights___invert__ (fun vs H Q E h => ?_) (fun cdv A_ outer s H vs Q E hr h => ?_)
  · obtain ⟨v, d, rfl, _⟩ := h
    rfl
  · obtain ⟨_, d, rfl, ⟨a, dx, rfl, ha, d0, d1⟩, q⟩ := h
    refine ⟨_, (pss_one (ps_ret (pe_make T.mk_Rights (ok_Rights___init__ T) (hr.mono (by decide)) (by rfl) T.gC_Rights (bd_Rights___init___1 T).2 (bd_Rights___init___1 T).1 pass0 (pa_cons (pe_ix ix_tup (pe_gc rfl T.c_WORDS) (pe_op op_sub (pe_gc rfl T.c_ALL_DIGIT) (pe_fld (pv 0) rfl)) (fun _ _ => rfl)) pa_nil)))), ?_⟩
    walk_at "rd"
    refine ⟨a, _, dx, _, _, rfl, ha, T.cl_Rights, T.na_Rights__digit, rfl, ?_⟩
    refine ⟨_, _, rfl, rfl, ?_⟩
    have f0 : 0 ≤ 7 - d := by omega
    have f1 : 7 - d ≤ 7 := by omega
    refine ⟨_, _, _, _, rfl, rfl, wd_sq T H, wd_at f0 f1, ?_⟩
    intro x dy hx hdy hne
    refine ⟨x, dy, _, _, rfl, upd_same, lw_good f0 f1, fun H2 k2 h2 => ⟨rfl, ?_⟩⟩
    exact q x dy H2 hx hdy (keep_of_new Keep.refl hx hdy k2) h2
end
end K10
namespace K10
open PySem PySem.Spec PyProof.Rows L2 FR TL
open C8 (pss_cut pe_gc)
open StX (pe_callS2 pa_star)
section
variable {P : Program} {w : World} {K : PySem.W.Frag} {mg : Str → Option Value} {base : Heap} {A : Ads}
set_option pp.maxSteps 120
theorem ok_take (T : Txt w K mg A) : FnOk P w K mg base CX0 1 A.f_take A.d_take ["_law_box_here", "_law_many"] spTake := by
  refine T.F_take.ok sc_take (fun vs H Q E h => ?_) (fun cdv A_ outer s H vs Q E hr h => ?_)
  · obtain ⟨b, k, n, x, y, z, rfl, _⟩ := h
    rfl
  · obtain ⟨b, k, n, x, y, z, rfl, hb, ok, hn, k0, k1, q⟩ := h
    have W := Ow.start1 hb
    have y0 := ok.y0; have y1 := ok.y1; have z0 := ok.z0; have z1 := ok.z1
    refine ⟨_, (pss_cons (ps_if (pt_cmpR op_gt (pe_ix ix_list (pv 0) pe_int (fun _ _ => rfl)) pe_int (nomark _)) (pss_cons (ps_set (i := 2) sc_take.nd rfl (.inl rfl) (pe_op op_mod (pe_ix ix_list (pv 0) pe_int (fun _ _ => rfl)) (pv 1)))
  (pss_cons (ps_asg (pe_op op_fdiv (pe_ix ix_list (pv 0) pe_int (fun _ _ => rfl)) (pv 1)) (pg_sub (pv 0) pe_int set_listN))
  (pss_one (ps_ret (pv 2))))) pss_nil)
  (pss_cons (ps_asg (pe_op op_add (pe_ix ix_list (pv 0) pe_int (fun _ _ => rfl)) pe_int) (pg_sub (pv 0) pe_int set_listN))
  (pss_cons (ps_set (i := 3) sc_take.nd rfl (.inl rfl) (pe_op op_mod (pe_op op_pow (pe_op op_add (pe_op op_add (pe_ix ix_list (pv 0) pe_int (fun _ _ => rfl)) (pe_op op_mul pe_int (pe_ix ix_list (pv 0) pe_int (fun _ _ => rfl)))) pe_int) pe_int) pe_int))
  (pss_cons (ps_set (i := 3) sc_take.nd rfl (.inl rfl) (pe_op op_mod (pe_op op_pow (pe_op op_add (pv 3) (pe_op op_mul pe_int (pe_ix ix_list (pv 0) pe_int (fun _ _ => rfl)))) pe_int) pe_int))
  (pss_one (ps_ret (pe_op op_mod (pe_op op_fdiv (pv 3) pe_int) (pv 1)))))))), ?_⟩
    walk_at "rd"
    refine ite2 (fun c => ?_) (fun c => ?_)
    · have c' : 0 < x := of_decide_eq_true c
      walk_at "rd"
      rename_i H1 kp hp W1
      exact q _ (x / k) y z H1 (Int.emod_nonneg _ (by omega)) (Int.emod_lt_of_pos _ k0) ⟨Int.ediv_nonneg ok.x0 (by omega), y0, y1, z0, by omega⟩ kp hp
    · walk_at "rd"
      rename_i H1 kp hp W1
      exact q _ x y (z + 1) H1 (Int.emod_nonneg _ (by omega)) (Int.emod_lt_of_pos _ k0) ⟨ok.x0, y0, y1, by omega, by omega⟩ kp hp
def spCell (K : PySem.W.Frag) : Sp := fun vs H Q _ => ∃ (a : Addr) (ns : List Int) (k : Int), vs = [.ref a, .int k] ∧ SqL K H a (ns.map V.int) ∧ 0 ≤ k ∧ k < 1000 ∧ ∀ n, Q (.int n) H
theorem ok_cell (T : Txt w K mg A) : FnOk P w K mg base CX0 1 A.f_cell A.d_cell ["_law_script", "_law_k"] (spCell K) := by
  refine T.F_cell.ok sc_cell (fun vs H Q E h => ?_) (fun cdv A_ outer s H vs Q E hr h => ?_)
  · obtain ⟨a, ns, k, rfl, _⟩ := h
    rfl
  · obtain ⟨a, ns, k, rfl, hS, h0, hk, q⟩ := h
    obtain ⟨j, rfl⟩ := Int.eq_ofNat_of_zero_le h0
    refine ⟨_, (pss_one (ps_ret (pe_ifExp (pt_cmpR op_lt (pv 1) (pe_callB call_len_seq (by rfl) T.b_len PySem.boot_len (pa_cons (pv 0) pa_nil)) (nomark _)) (pe_ix ix_list (pv 0) (pv 1) (fun _ _ => rfl)) (pe_op op_add (pe_op op_mul pe_int (pv 1)) pe_int)))), ?_⟩
    walk_at "rd"
    refine ifD (fun c => ?_) (fun c => ?_)
    · have c2 : j < ns.length := by rw [List.length_map] at c; omega
      exact ⟨_, rfl, _, rfl, _, _, _, .int ns[j], rfl, rfl, hS, atI_nat (by rw [List.getElem?_map, List.getElem?_eq_getElem c2]; rfl), q _⟩
    · walk_at "rd"
      exact q _
def spBox : Sp := fun vs H Q _ => ∃ n : Int, vs = [.int n] ∧ ∀ x y z, BagOk 0 x y z → NewO (bagO x y z) Q H
theorem ok_box (T : Txt w K mg A) : FnOk P w K mg base CX0 1 A.f_box A.d_box ["_law_cell_here"] spBox := by
  refine T.F_box.ok sc_box (fun vs H Q E h => ?_) (fun cdv A_ outer s H vs Q E hr h => ?_)
  · obtain ⟨n, rfl, _⟩ := h
    rfl
  · obtain ⟨n, rfl, q⟩ := h
    have W : Ow H [] H [] := Ow.start0
    refine ⟨_, (pss_one (ps_ret (pe_lstS (pa_cons (pe_callB (call_max2 rfl) (by rfl) T.b_max (by decide +kernel) (pa_cons pe_int (pa_cons (pe_op op_sub (pv 0) (pe_op op_pow pe_int pe_int)) pa_nil))) (pa_cons (pe_op op_mod (pv 0) pe_int) (pa_cons pe_int pa_nil)))))), ?_⟩
    have q' := q (if n - 10 ^ 18 > 0 then n - 10 ^ 18 else 0) (n % 2147483563) 0 ⟨by split <;> omega, Int.emod_nonneg _ (by decide), Int.lt_trans (Int.emod_lt_of_pos _ (by decide)) (by decide), by omega, by omega⟩
    walk_at "rd"
    rename_i p H1 np sp kp hp W1
    exact q'.to p H1 np kp hp

end
end K10
namespace K10
open PySem PySem.Spec PyProof.Rows L2 FR TL
open C8 (pss_cut pe_gc)
open StX (pe_callS2 pa_star)
section
variable {P : Program} {w : World} {K : PySem.W.Frag} {mg : Str → Option Value} {base : Heap} {A : Ads}
set_option pp.maxSteps 120
theorem ok_is_integer (T : Txt w K mg A) : FnOk P w K mg base CX0 1 A.f_is_integer A.d_is_integer ["value", "low", "high"] (fun vs H Q _ => ∃ i lo hi : Int, vs = [.int i, .int lo, .int hi] ∧ lo ≤ i ∧ i ≤ hi ∧ Q (.bl true) H) := by
  refine T.F_is_integer.ok sc_is_integer (fun vs H Q E h => ?_) (fun cdv A_ outer s H vs Q E hr h => ?_)
  · obtain ⟨i, lo, hi, rfl, _⟩ := h
    rfl
  · obtain ⟨i, lo, hi, rfl, h0, h1, q⟩ := h
    refine ⟨_, (pss_one (ps_ret (pe_and (pe_callB call_isi (by rfl) T.b_isinstance (by decide +kernel) (pa_cons (pv 0) (pa_cons (pe_bltn (v := .ty "int") rfl T.b_int (by decide +kernel) rfl) pa_nil))) (pe_and (pe_not (pe_callB call_isi (by rfl) T.b_isinstance (by decide +kernel) (pa_cons (pv 0) (pa_cons (pe_bltn (v := .ty "bool") rfl T.b_bool (by decide +kernel) rfl) pa_nil)))) (pe_one (pe_chain op_le op_le (pv 1) (pv 0) (pv 2))))))), ?_⟩
    walk_at "rd"
    refine ifT (decide_eq_true h0) ?_
    refine ⟨_, rfl, ?_⟩
    refine ⟨_, _, rfl, rfl, ?_⟩
    show Q (V.bl (decide (i ≤ hi))) H
    rw [show decide (i ≤ hi) = true from decide_eq_true h1]
    exact q
/-- what stands for rights of this digit -/
def Part (A : Ads) (H : Hp) (v : V) (d : Int) : Prop := IsR A H v d ∨ ∃ t, v = .str t ∧ (t, d) ∈ goodT
theorem IsR.keep {H H' : Hp} {v : V} {d : Int} (h : IsR A H v d) (k : Keep [] H H') : IsR A H' v d := by
  obtain ⟨a, dx, rfl, ha, r⟩ := h
  exact ⟨a, dx, rfl, k _ _ ha (by simp), r⟩
theorem Part.keep {H H' : Hp} {v : V} {d : Int} (h : Part A H v d) (k : Keep [] H H') : Part A H' v d := h.imp (fun z => IsR.keep z k) id
theorem Part.in_ {H : Hp} {v : V} {d : Int} (h : Part A H v d) : 0 ≤ d ∧ d ≤ 7 := by
  rcases h with ⟨a, dx, rfl, ha, d0, d1⟩ | ⟨t, rfl, g⟩
  · exact ⟨d0, d1⟩
  · exact good_in g
theorem ok_as_rights (T : Txt w K mg A) : FnOk P w K mg base CX0 4 A.f_as_rights A.d_as_rights ["value"] (fun vs H Q _ => ∃ v d, vs = [v] ∧ ((IsR A H v d ∧ Q v H) ∨ ∃ t, v = .str t ∧ (t, d) ∈ goodT ∧ NewR A d Q H)) := by
  refine T.F_as_rights.ok sc_as_rights (fun vs H Q E h => ?_) (fun cdv A_ outer s H vs Q E hr h => ?_)
  · obtain ⟨v, d, rfl, _⟩ := h
    rfl
  · obtain ⟨v, d, rfl, h⟩ := h
    refine ⟨_, (pss_one (ps_ret (pe_ifExp (pt_val (pe_callB (call_isA T.in_Rights) (by rfl) T.b_isinstance (by decide +kernel) (pa_cons (pv 0) (pa_cons (pe_gc rfl T.c_Rights) pa_nil)))) (pv 0) (pe_make T.mk_Rights (ok_Rights___init__ T) (hr.mono (by decide)) (by rfl) T.gC_Rights (bd_Rights___init___1 T).2 (bd_Rights___init___1 T).1 pass0 (pa_cons (pv 0) pa_nil))))), ?_⟩
    rcases h with ⟨⟨a, dx, rfl, ha, d0, d1⟩, q⟩ | ⟨t, rfl, g, q⟩
    · walk_at "rd"
      refine .inl ⟨a, dx, _, rfl, ha, ?_⟩
      refine ⟨true, rfl, ?_⟩
      refine ifT rfl ?_
      exact ⟨_, rfl, q⟩
    · walk_at "rd"
      refine .inr ⟨_, _, _, _, _, rfl, .own _, .base (.str _), T.kt_Rights_str, ?_⟩
      refine ⟨false, rfl, ?_⟩
      refine ifF rfl ?_
      walk_at "rd"
      intro x dy hx hdy hne
      refine ⟨x, dy, _, _, rfl, upd_same, g, fun H2 k2 h2 => ⟨rfl, ?_⟩⟩
      exact q x dy H2 hx hdy (keep_of_new Keep.refl hx hdy k2) h2
theorem ok_Rights_from_digit (T : Txt w K mg A) : FnOk P w K mg base CX0 4 A.f_Rights_from_digit A.d_Rights_from_digit ["cls", "digit"] (fun vs H Q _ => ∃ d : Int, vs = [.ref A.C_Rights, .int d] ∧ 0 ≤ d ∧ d ≤ 7 ∧ NewR A d Q H) := by
  refine T.F_Rights_from_digit.ok sc_Rights_from_digit (fun vs H Q E h => ?_) (fun cdv A_ outer s H vs Q E hr h => ?_)
  · obtain ⟨d, rfl, _⟩ := h
    rfl
  · obtain ⟨d, rfl, d0, d1, q⟩ := h
    refine ⟨_, (pss_cons (ps_if (pt_not (pt_val (pe_call (ok_is_integer T) (hr.mono (by decide)) (by rfl) T.g_is_integer T.F_is_integer.kp T.B_is_integer .nil pass0 (pa_cons (pv 1) (pa_cons pe_int (pa_cons (pe_gc rfl T.c_ALL_DIGIT) pa_nil)))))) (pss_one ps_never) pss_nil)
  (pss_one (ps_ret (pe_makeL (pv 0) T.mk_Rights (ok_Rights___init__ T) (hr.mono (by decide)) (bd_Rights___init___1 T).2 (bd_Rights___init___1 T).1 pass0 (pa_cons (pe_ix ix_tup (pe_gc rfl T.c_WORDS) (pv 1) (fun _ _ => rfl)) pa_nil))))), ?_⟩
    walk_at "rd"
    refine ⟨d, 0, 7, rfl, d0, d1, ?_⟩
    refine ⟨_, rfl, ?_⟩
    refine ifF rfl ?_
    refine ⟨rfl, ?_⟩
    refine ⟨_, rfl, _, _, _, _, rfl, rfl, wd_sq T H, wd_at d0 d1, ?_⟩
    intro x dy hx hdy hne
    refine ⟨x, dy, _, _, rfl, upd_same, lw_good d0 d1, fun H2 k2 h2 => ⟨rfl, ?_⟩⟩
    exact q x dy H2 hx hdy (keep_of_new Keep.refl hx hdy k2) h2
/-- the letters of all together -/
def orAll (ds : List Int) : Int := ds.foldl Builtin.bitOr 0
theorem orAll_in : ∀ (ds : List Int), (∀ d ∈ ds, 0 ≤ d ∧ d ≤ 7) → ∀ a : Int, 0 ≤ a → a ≤ 7 → 0 ≤ ds.foldl Builtin.bitOr a ∧ ds.foldl Builtin.bitOr a ≤ 7
  | [], _, a, a0, a1 => ⟨a0, a1⟩
  | d :: r, h, a, a0, a1 => by
    obtain ⟨d0, d1⟩ := h d (by simp)
    obtain ⟨o0, o1⟩ := or_in a0 a1 d0 d1
    exact orAll_in r (fun e he => h e (by simp [he])) _ o0 o1
theorem bin_at {f : Int → Int → Int} {H : Hp} {r1 dr1 r2 dr2 : Addr} {d e : Int} {Q : VK} (h1 : H r1 = some (RgO A dr1 d)) (h2 : H r2 = some (RgO A dr2 e)) (d0 : 0 ≤ d) (d1 : d ≤ 7) (e0 : 0 ≤ e) (e1 : e ≤ 7) (q : NewR A (f d e) Q H) :
    rBinI A.C_Rights (fun vs H Q E => spBin A f (vs ++ []) H Q E) E0 (.ref r1) (.ref r2) H Q := ⟨r1, dr1, _, r2, dr2, _, rfl, rfl, h1, h2, _, d, _, e, rfl, ⟨r1, dr1, rfl, h1, d0, d1⟩, ⟨r2, dr2, rfl, h2, e0, e1⟩, q⟩
def spOf0 (A : Ads) : Sp := fun vs H Q _ => ∃ (t : Addr) (ps : List (V × Int)), vs = [.ref A.C_Rights, .ref t] ∧ H t = some (.tup (ps.map (·.1))) ∧ (∀ p ∈ ps, Part A H p.1 p.2) ∧ NewR A (orAll (ps.map (·.2))) Q H
def spOf (A : Ads) : Sp := fun vs H Q _ => ∃ (ps : List (V × Int)), vs = .ref A.C_Rights :: ps.map (·.1) ∧ ps.length ≤ 100 ∧ (∀ p ∈ ps, Part A H p.1 p.2) ∧ NewR A (orAll (ps.map (·.2))) Q H
theorem NewR.new {d : Int} {Q : VK} {H : Hp} {p : Addr} {o : HO} (q : NewR A d Q H) (np : H p = none) : NewR A d Q (upd H p o) := fun x dx H1 hx hdx k h => q x dx H1 ((keep_new np).free hx) ((keep_new np).free hdx) ((keep_new np).trans k) h
theorem ok_Rights_of (T : Txt w K mg A) : FnR P w K mg base CX0 6 A.f_Rights_of (spOf A) := by
  refine FnR.imp (okStar (ps := ["cls"]) (pv := "parts") (sp := spOf0 A) T.F_Rights_of sc_Rights_of (fun kV doc pm an cdv ct us rest hl => ?_) (fun cdv A_ outer s H vs Q E hr h => ?_)) fun vs H Q E h => ?_
  · exact StX.bind_star1 (B := fun us => bindArgs (PySem.W.fnOf "of" "Rights.of" (defArgs s_Rights_of) (defBody s_Rights_of) (defScope s_Rights_of) .none kV doc pm an cdv ct) ⟨us, []⟩) (fun a => rfl) (fun a r rs => rfl) us rest hl
  · obtain ⟨t, ps, rfl, ht, hp, q⟩ := h
    refine ⟨_, (pss_cons (ps_set (i := 2) sc_Rights_of.nd rfl (.inl rfl) (pe_makeL0 (pv 0) T.mk_Rights (ok_Rights___init__ T) (hr.mono (by decide)) (bd_Rights___init___0 T).choose_spec.2 (bd_Rights___init___0 T).choose_spec.1 pass0))
  (pss_cons (ps_for PassesOwn.never rfl (pi_tup (pv 1)) (pg_name (i := 3) sc_Rights_of.nd rfl (.inl rfl)) (pss_one (ps_set (i := 2) sc_Rights_of.nd rfl (.inl rfl) (pe_op (op_binI T.sf_Rights T.me_Rights___or__.at_ T.me_Rights___or__.fn ((ok_Rights___or__ T).raw T.B_Rights___or__ .nil) (hr.mono (by decide)) pass0) (pv 2) (pe_call (ok_as_rights T) (hr.mono (by decide)) (by rfl) T.g_as_rights T.F_as_rights.kp T.B_as_rights .nil pass0 (pa_cons (pv 3) pa_nil))))))
  (pss_one (ps_ret (pv 2))))), ?_⟩
    have W : Ow H [] H [] := Ow.start0
    walk_at "rd"
    refine ⟨rfl, ?_⟩
    intro r1 dr1 hr1 hdr1 hne1
    refine ⟨r1, dr1, _, _, rfl, upd_same, (show (Str.ofString "", 0) ∈ goodT by decide +kernel), fun H2 k2 h2 => ⟨rfl, ?_⟩⟩
    have K2 := keep_of_new Keep.refl hr1 hdr1 k2
    walk_at "rd"
    have ht2 := K2 _ _ ht (by simp)
    refine ⟨⟨_, .inl (.inl ht2)⟩, ?_⟩
    refine for_tu (a := t) (xs := ps.map (·.1)) (fun pre σ H' => ∃ r dr y, σ = [some (.ref A.C_Rights), some (.ref t), some (.ref r), y] ∧ Keep [] H H' ∧ H r = none ∧ H dr = none ∧ H' r = some (RgO A dr (orAll ((ps.take pre.length).map (·.2))))) ⟨r1, dr1, _, rfl, K2, hr1, hdr1, h2⟩ ?_ ?_ ?_
    · rintro pre post σ H3 e ⟨r, dr, y, rfl, k3, _⟩
      exact .inl (.inl (k3 _ _ ht (by simp)))
    · rintro pre v post σ H3 e ⟨r, dr, y, rfl, k3, hr0, hdr0, hr3⟩
      obtain ⟨z, hz, rfl⟩ : ∃ z, ps[pre.length]? = some z ∧ z.1 = v := by
        have h1 := congrArg (fun l => l[pre.length]?) e
        simp only [List.getElem?_append_right (Nat.le_refl _), Nat.sub_self, List.getElem?_cons_zero, List.getElem?_map] at h1
        cases hz : ps[pre.length]? with
        | none => rw [hz] at h1; cases h1
        | some z => rw [hz] at h1; exact ⟨z, rfl, Option.some.inj h1⟩
      have hzm := List.mem_of_getElem? hz
      have hzp := hp z hzm
      obtain ⟨z0, z1⟩ := Part.in_ hzp
      have ea : orAll ((ps.take (pre ++ [z.1]).length).map (·.2)) = Builtin.bitOr (orAll ((ps.take pre.length).map (·.2))) z.2 := by
        rw [List.length_append, List.length_singleton, List.take_add_one, hz]
        unfold orAll
        rw [List.map_append, List.foldl_append]
        rfl
      obtain ⟨o0, o1⟩ := orAll_in ((ps.take pre.length).map (·.2)) (fun d hd => by
        obtain ⟨y, hy, rfl⟩ := List.mem_map.mp hd
        exact Part.in_ (hp y (List.mem_of_mem_take hy))) 0 (by decide) (by decide)
      obtain ⟨zv, zd⟩ := z
      dsimp only at ea z0 z1 hzp
      have main : ∀ (v2 dv2 : Addr) (H4 : Hp) (F : VK), Keep [] H3 H4 → H4 v2 = some (RgO A dv2 zd) → (∀ (x dx : Addr) (H5 : Hp), Keep [] H H5 → H x = none → H dx = none → H5 x = some (RgO A dx (orAll ((ps.take (pre ++ [zv]).length).map (·.2)))) → F (.ref x) H5) →
          rBinI A.C_Rights (fun vs H Q E => spBin A Builtin.bitOr (vs ++ []) H Q E) E0 (.ref r) (.ref v2) H4 F := by
        intro v2 dv2 H4 F k4 hv4 f
        refine bin_at (k4 _ _ hr3 (by simp)) hv4 o0 o1 z0 z1 ?_
        intro x dx H5 hx hdx k5 h5
        have k34 : Keep [] H H4 := Keep.trans k3 k4
        refine f x dx H5 (k34.trans k5) (k34.free hx) (k34.free hdx) ?_
        rw [ea]
        exact h5
      walk_at "rd"
      rcases hzp with ⟨a, dx, rfl, ha, _⟩ | ⟨t', rfl, g⟩
      · have ha3 := k3 _ _ ha (by simp)
        refine ⟨_, zd, rfl, .inl ⟨⟨a, dx, rfl, ha3, z0, z1⟩, ?_⟩⟩
        refine main a dx H3 _ Keep.refl ha3 fun x dx' H5 k5 n1 n2 h5 => ?_
        exact ⟨x, dx', _, rfl, k5, n1, n2, h5⟩
      · refine ⟨_, zd, rfl, .inr ⟨t', rfl, g, ?_⟩⟩
        intro v2 dv2 H4 hv2 hdv2 k4 h4
        refine main v2 dv2 H4 _ k4 h4 fun x dx' H5 k5 n1 n2 h5 => ?_
        exact ⟨x, dx', _, rfl, k5, n1, n2, h5⟩
    · rintro σ H3 ⟨r, dr, y, rfl, k3, hr0, hdr0, hr3⟩
      walk_at "rd"
      refine q r dr H3 hr0 hdr0 k3 ?_
      rw [hr3, List.length_map, List.take_length]
  · obtain ⟨ps, rfl, hl, hp, q⟩ := h
    exact ⟨[.ref A.C_Rights], ps.map (·.1), rfl, rfl, size_le (by rw [List.length_map]; omega), fun p np => ⟨p, ps, rfl, upd_same, fun z hz => (hp z hz).keep (keep_new np), q.new np⟩⟩
end
end K10
namespace K10
open PySem PySem.Spec PyProof.Rows L2 FR TL
open C8 (pss_cut pe_gc)
open StX (pe_callS2 pa_star)
section
variable {P : Program} {w : World} {K : PySem.W.Frag} {mg : Str → Option Value} {base : Heap} {A : Ads}
set_option pp.maxSteps 120
def keysX : List Str := ["x", "r", "w"]
theorem bit_pos {d : Int} {k : Str} (hk : k ∈ keysX) (d0 : 0 ≤ d) (d1 : d ≤ 7) : decide (0 < Builtin.bitAnd d (bv k)) = bit d k :=
  eight (F := fun d => ∀ k ∈ keysX, decide (0 < Builtin.bitAnd d (bv k)) = bit d k) (by decide +kernel) d0 d1 k hk
theorem joinX {d : Int} (d0 : 0 ≤ d) (d1 : d ≤ 7) : (Txt.join (Str.ofString "") (keysX.filter (bit d)), d) ∈ goodT ∧ ((keysX.filter (bit d)).map (fun x => x.length)).sum + (keysX.filter (bit d)).length * (Str.ofString "").length ≤ 16777216 :=
  eight (F := fun d => (Txt.join (Str.ofString "") (keysX.filter (bit d)), d) ∈ goodT ∧ ((keysX.filter (bit d)).map (fun x => x.length)).sum + (keysX.filter (bit d)).length * (Str.ofString "").length ≤ 16777216) (by decide +kernel) d0 d1
theorem or0 {d : Int} (d0 : 0 ≤ d) (d1 : d ≤ 7) : orAll [0, d] = d ∧ orAll [d, 0] = d := eight (F := fun d => orAll [0, d] = d ∧ orAll [d, 0] = d) (by decide +kernel) d0 d1
/-- new rights, and the box as it is then -/
def NewB (A : Ads) (b : Addr) (n : Nat) (d : Int) (Q : VK) (H : Hp) : Prop := ∀ (r dr : Addr) (x y z : Int) (H1 : Hp), BagOk n x y z → Keep [b] H H1 → H1 b = some (bagO x y z) → H r = none → H1 r = some (RgO A dr d) → Q (.ref r) H1
def spMade (A : Ads) : Sp := fun vs H Q _ => ∃ (b : Addr) (n : Nat) (x y z d : Int), vs = [.ref b, .int d] ∧ H b = some (bagO x y z) ∧ BagOk n x y z ∧ n < 900000 ∧ 0 ≤ d ∧ d ≤ 7 ∧ NewB A b (n + 1) d Q H
theorem ok_made (T : Txt w K mg A) : FnOk P w K mg base CX0 7 A.f_made A.d_made ["_law_box_here", "_law_digit"] (spMade A) := by
  refine T.F_made.ok sc_made (fun vs H Q E h => ?_) (fun cdv A_ outer s H vs Q E hr h => ?_)
  · obtain ⟨b, n, x, y, z, d, rfl, _⟩ := h
    rfl
  · obtain ⟨b, n, x, y, z, d, rfl, hb, ok, hn, d0, d1, q⟩ := h
    have W := Ow.start1 hb
    refine ⟨_, (pss_cons (ps_set (i := 2) sc_made.nd rfl (.inl rfl) (pe_join pe_str (pe_lc (own := [("_law_letter", 4), ("_law_bit", 5)]) (g := gTup K 2 (gCons (gName 4) (gCons (gName 5) gNil))) rfl sc_made.nd (pi_list (pe_lstS (pa_cons (pe_tupN (pa_cons pe_str (pa_cons pe_int pa_nil))) (pa_cons (pe_tupN (pa_cons pe_str (pa_cons pe_int pa_nil))) (pa_cons (pe_tupN (pa_cons pe_str (pa_cons pe_int pa_nil))) pa_nil))))) (blkOk_by (own := [("_law_letter", 4), ("_law_bit", 5)]) (N := N_made) (sc := defScope s_made) (by decide +kernel)) (fun _ _ _ _ _ => (pg_tup rfl (pgs_cons (pg_name (i := 4) sc_made.nd rfl (.inl rfl)) (pgs_cons (pg_name (i := 5) sc_made.nd rfl (.inl rfl)) pgs_nil)))) (fun _ _ _ _ _ => (pts_one (pt_cmpR op_gt (pe_op op_and (pv 1) (pv 5)) pe_int (nomark _)))) (fun _ _ _ _ _ => (pv 4)))))
  (pss_cons (ps_set (i := 3) sc_made.nd rfl (.inl rfl) (pe_call (ok_take T) (hr.mono (by decide)) (by rfl) T.g_take T.F_take.kp T.B_take .nil pass0 (pa_cons (pv 0) (pa_cons pe_int pa_nil))))
  (pss_cons (ps_if (pt_cmpR op_eq (pv 3) pe_int (nomark _)) (pss_one (ps_ret (ClX.pe_cmeth (pe_gc rfl T.c_Rights) T.cr_Rights T.cm_Rights_of (ok_Rights_of T) (hr.mono (by decide)) pass0 (pa_cons pe_str (pa_cons (pv 2) pa_nil))))) pss_nil)
  (pss_cons (ps_if (pt_cmpR op_eq (pv 3) pe_int (nomark _)) (pss_one (ps_ret (ClX.pe_cmeth (pe_gc rfl T.c_Rights) T.cr_Rights T.cm_Rights_from_digit ((ok_Rights_from_digit T).raw T.B_Rights_from_digit .nil) (hr.mono (by decide)) pass0 (pa_cons (pv 1) pa_nil)))) pss_nil)
  (pss_one (ps_ret (pe_ifExp (pt_cmpR op_eq (pv 3) pe_int (nomark _)) (ClX.pe_cmeth (pe_gc rfl T.c_Rights) T.cr_Rights T.cm_Rights_of (ok_Rights_of T) (hr.mono (by decide)) pass0 (pa_cons (pv 2) (pa_cons (pe_make0 T.mk_Rights (ok_Rights___init__ T) (hr.mono (by decide)) (by rfl) T.gC_Rights (bd_Rights___init___0 T).choose_spec.2 (bd_Rights___init___0 T).choose_spec.1 pass0) pa_nil))) (pe_ifExp (pt_cmpR op_eq (pv 3) pe_int (nomark _)) (pe_call (ok_as_rights T) (hr.mono (by decide)) (by rfl) T.g_as_rights T.F_as_rights.kp T.B_as_rights .nil pass0 (pa_cons (pv 2) pa_nil)) (pe_make T.mk_Rights (ok_Rights___init__ T) (hr.mono (by decide)) (by rfl) T.gC_Rights (bd_Rights___init___1 T).2 (bd_Rights___init___1 T).1 pass0 (pa_cons (pv 2) pa_nil)))))))))), ?_⟩
    walk_at "rd"
    rename_i p1 H1 np1 kp1 hp1 W1 p2 H2 np2 kp2 hp2 W2 p3 H3 np3 kp3 hp3 W3 p4 H4 np4 sp4 kp4 hp4 W4
    refine ⟨⟨_, W4.sq 0 rfl⟩, fun D hD => ?_⟩
    refine lc_li (K := K) (a := p4) (xs := [.ref p1, .ref p2, .ref p3]) (fun pre H9 => Keep [] H4 H9 ∧ Ow H [b] H9 [(D, .lst (((keysX.take pre.length).filter (bit d)).map V.str)), (p4, .lst [.ref p1, .ref p2, .ref p3]), (p3, .tup [.str "w", .int 2]), (p2, .tup [.str "r", .int 4]), (p1, .tup [.str "x", .int 1]), (b, bagO x y z)]) ⟨keep_new hD, W4.new hD⟩ ?_ ?_ ?_
    · intro pre post H9 e W9
      exact W9.2.sq 1 rfl
    · rintro pre v post H9 e ⟨k9, W9⟩
      have key : ∃ (k : Str) (a : Addr), v = .ref a ∧ H9 a = some (.tup [.str k, .int (bv k)]) ∧ keysX[pre.length]? = some k := by
        match pre, e with
        | [], e => exact ⟨"x", p1, (List.cons.inj e).1.symm, W9.get 4 rfl, rfl⟩
        | [_], e => exact ⟨"r", p2, (List.cons.inj (List.cons.inj e).2).1.symm, W9.get 3 rfl, rfl⟩
        | [_, _], e => exact ⟨"w", p3, (List.cons.inj (List.cons.inj (List.cons.inj e).2).2).1.symm, W9.get 2 rfl, rfl⟩
        | _ :: _ :: _ :: _, e => exact absurd (congrArg List.length e) (by simp)
      obtain ⟨k, a, rfl, ha, hk⟩ := key
      refine ⟨a, _, rfl, .inl (.inl ha), rfl, ?_⟩
      walk_at "rd"
      have hkm : k ∈ keysX := List.mem_of_getElem? hk
      have e2 : keysX.take (pre ++ [V.ref a]).length = keysX.take pre.length ++ [k] := by
        rw [List.length_append, List.length_singleton, List.take_add_one, hk]
        rfl
      have hbp := bit_pos hkm d0 d1
      have hlen : (((keysX.take pre.length).filter (bit d)).map V.str).length ≤ 3 := by
        rw [List.length_map]
        refine Nat.le_trans (List.length_filter_le _ _) ?_
        rw [List.length_take]
        exact Nat.min_le_right _ _
      rw [e2, List.filter_append, List.map_append, List.filter_cons]
      refine ifB (fun hb => ?_) (fun hb => ?_)
      · rw [if_pos (hbp.symm.trans hb)]
        exact ⟨_, rfl, _, W9.get 0 rfl, size_ok (Nat.le_trans hlen (by decide)), k9.trans0 hD, W9.set 0 rfl⟩
      · rw [if_neg (show ¬ bit d k = true by rw [← hbp, show decide (0 < Builtin.bitAnd d (bv k)) = false from hb]; decide)]
        rw [List.filter_nil, List.map_nil, List.append_nil]
        exact ⟨k9, W9⟩
    · rintro H9 ⟨k9, W9⟩
      have V9 : Ow H [b] H9 [(D, .lst ((keysX.filter (bit d)).map V.str)), (b, bagO x y z)] := W9.sel (.cons₂ _ (.cons _ (.cons _ (.cons _ (.cons _ (.cons₂ _ .slnil))))))
      clear W9 W4 W3 W2 W1
      walk_at "rd"
      obtain ⟨g, js⟩ := joinX d0 d1
      refine ⟨_, D, _, rfl, rfl, .inl (V9.sq 0 rfl), js, ?_⟩
      generalize Txt.join (Str.ofString "") (keysX.filter (bit d)) = tx at g
      walk_at "rd"
      walk_at "take"
      rename_i tn x1 y1 z1 H10 t0 t1 ok1 kp1' hb1 W10
      have fin : ∀ (r dr : Addr) (H11 : Hp), H10 r = none → H10 dr = none → Keep [] H10 H11 → H11 r = some (RgO A dr d) → Q (.ref r) H11 := by
        intro r dr H11 n1 n2 k h
        have W11 := W10.call0 k
        have nr : H r = none := by
          refine Classical.byContradiction fun hne => ?_
          cases hc : H r with
          | none => exact hne hc
          | some o =>
            by_cases eb : r = b
            · rw [eb] at n1
              rw [W10.get 1 rfl] at n1
              cases n1
            · have := W10.keep r o hc (by simpa using eb)
              rw [n1] at this
              cases this
        exact q r dr x1 y1 z1 H11 ok1 W11.keep (W11.get 1 rfl) nr h
      walk_at "rd"
      have g0 : (Str.ofString "", 0) ∈ goodT := by decide +kernel
      refine ifVI (fun c => ?_) (fun c => ?_)
      · refine ⟨rfl, ?_⟩
        refine ⟨_, rfl, ?_⟩
        refine ⟨[(.str (Str.ofString ""), 0), (.str tx, d)], rfl, by show 2 ≤ 100; decide, ?_, ?_⟩
        · intro p hp
          simp only [List.mem_cons, List.not_mem_nil, or_false] at hp
          rcases hp with rfl | rfl
          · exact .inr ⟨_, rfl, g0⟩
          · exact .inr ⟨_, rfl, g⟩
        · intro r dr H11 n1 n2 k h
          rw [show orAll ([((V.str (Str.ofString ""), (0 : Int)) : V × Int), (.str tx, d)].map (·.2)) = d from (or0 d0 d1).1] at h
          exact fin r dr H11 n1 n2 k h
      walk_at "rd"
      refine ifVI (fun c2 => ?_) (fun c2 => ?_)
      · refine ⟨rfl, ?_⟩
        refine ⟨_, rfl, ?_⟩
        exact ⟨d, rfl, d0, d1, fun r dr H11 n1 n2 k h => fin r dr H11 n1 n2 k h⟩
      walk_at "rd"
      refine ifVI (fun c3 => ?_) (fun c3 => ?_)
      · refine ⟨rfl, ?_⟩
        refine ⟨_, rfl, ?_⟩
        intro r1 dr1 hr1 hdr1 hne1
        refine ⟨r1, dr1, _, _, rfl, upd_same, g0, fun H2 k2 h2 => ⟨rfl, ?_⟩⟩
        have K2 : Keep [] H10 H2 := keep_of_new Keep.refl hr1 hdr1 k2
        refine ⟨[(.str tx, d), (.ref r1, 0)], rfl, by show 2 ≤ 100; decide, ?_, ?_⟩
        · intro p hp
          simp only [List.mem_cons, List.not_mem_nil, or_false] at hp
          rcases hp with rfl | rfl
          · exact .inr ⟨_, rfl, g⟩
          · exact .inl ⟨r1, dr1, rfl, h2, (by show (0 : Int) ≤ 0; decide), (by show (0 : Int) ≤ 7; decide)⟩
        · intro r dr H11 n1 n2 k h
          rw [show orAll ([((V.str tx, d) : V × Int), (.ref r1, 0)].map (·.2)) = d from (or0 d0 d1).2] at h
          exact fin r dr H11 (K2.free n1) (K2.free n2) (K2.trans k) h
      walk_at "rd"
      refine ifVI (fun c4 => ?_) (fun c4 => ?_)
      · refine ⟨_, rfl, ?_⟩
        exact ⟨_, d, rfl, .inr ⟨tx, rfl, g, fun r dr H11 n1 n2 k h => fin r dr H11 n1 n2 k h⟩⟩
      · refine ⟨_, rfl, ?_⟩
        intro r1 dr1 hr1 hdr1 hne1
        refine ⟨r1, dr1, _, _, rfl, upd_same, g, fun H2 k2 h2 => ⟨rfl, ?_⟩⟩
        exact fin r1 dr1 H2 hr1 hdr1 (keep_of_new Keep.refl hr1 hdr1 k2) h2
end
end K10
namespace K10
open PySem PySem.Spec PyProof.Rows L2 FR TL
open C8 (pss_cut pe_gc)
open StX (pe_callS2 pa_star)
section
variable {P : Program} {w : World} {K : PySem.W.Frag} {mg : Str → Option Value} {base : Heap} {A : Ads}
set_option pp.maxSteps 120
/-- a pair of rights and their digit -/
def Good (A : Ads) (H : Hp) (v : V) : Prop := ∃ p r dr d, v = .ref p ∧ H p = some (.tup [.ref r, .int d]) ∧ H r = some (RgO A dr d) ∧ 0 ≤ d ∧ d ≤ 7
theorem Good.keep {H H' : Hp} {v : V} (h : Good A H v) (k : Keep [] H H') : Good A H' v := by
  obtain ⟨p, r, dr, d, rfl, hp, hr, b⟩ := h
  exact ⟨p, r, dr, d, rfl, k _ _ hp (by simp), k _ _ hr (by simp), b⟩
theorem Good.keep1 {H H' : Hp} {v : V} {c : Addr} {l : List V} (h : Good A H v) (hc : H c = some (.lst l)) (k : Keep [c] H H') : Good A H' v := by
  obtain ⟨p, r, dr, d, rfl, hp, hr, b⟩ := h
  refine ⟨p, r, dr, d, rfl, k _ _ hp fun e => ?_, k _ _ hr fun e => ?_, b⟩
  · rw [List.mem_singleton.mp e, hc] at hp
    cases hp
  · rw [List.mem_singleton.mp e, hc] at hr
    cases hr
def spStep (A : Ads) : Sp := fun vs H Q _ => ∃ (b l : Addr) (n : Nat) (x y z : Int) (us : List V), vs = [.ref b, .ref l] ∧ b ≠ l ∧ H b = some (bagO x y z) ∧ BagOk n x y z ∧ n < 900000 ∧ H l = some (.lst us) ∧ 0 < us.length ∧ us.length ≤ 100 ∧ (∀ v ∈ us, Good A H v) ∧
  ∀ (p : Addr) (x y z : Int) (H1 : Hp), BagOk (n + 3) x y z → Keep [b] H H1 → H1 b = some (bagO x y z) → H p = none → Good A H1 (.ref p) → Q (.ref p) H1
theorem ok_step (T : Txt w K mg A) : FnOk P w K mg base CX0 6 A.f_step A.d_step ["_law_box_here", "_law_known"] (spStep A) := by
  refine T.F_step.ok sc_step (fun vs H Q E h => ?_) (fun cdv A_ outer s H vs Q E hr h => ?_)
  · obtain ⟨b, l, n, x, y, z, us, rfl, _⟩ := h
    rfl
  · obtain ⟨b, l, n, x, y, z, us, rfl, hbl, hb, ok, hn, hl, u0, u1, hg, q⟩ := h
    have W := Ow.start1 hb
    refine ⟨_, (pss_cons (ps_asg (pe_ix ix_list (pv 1) (pe_call (ok_take T) (hr.mono (by decide)) (by rfl) T.g_take T.F_take.kp T.B_take .nil pass0 (pa_cons (pv 0) (pa_cons (pe_callB call_len_seq (by rfl) T.b_len PySem.boot_len (pa_cons (pv 1) pa_nil)) pa_nil))) (fun _ _ => rfl)) (pg_tup rfl (pgs_cons (pg_name (i := 2) sc_step.nd rfl (.inl rfl)) (pgs_cons (pg_name (i := 3) sc_step.nd rfl (.inl rfl)) pgs_nil))))
  (pss_cons (ps_asg (pe_ix ix_list (pv 1) (pe_call (ok_take T) (hr.mono (by decide)) (by rfl) T.g_take T.F_take.kp T.B_take .nil pass0 (pa_cons (pv 0) (pa_cons (pe_callB call_len_seq (by rfl) T.b_len PySem.boot_len (pa_cons (pv 1) pa_nil)) pa_nil))) (fun _ _ => rfl)) (pg_tup rfl (pgs_cons (pg_name (i := 4) sc_step.nd rfl (.inl rfl)) (pgs_cons (pg_name (i := 5) sc_step.nd rfl (.inl rfl)) pgs_nil))))
  (pss_cons (ps_set (i := 6) sc_step.nd rfl (.inl rfl) (pe_call (ok_take T) (hr.mono (by decide)) (by rfl) T.g_take T.F_take.kp T.B_take .nil pass0 (pa_cons (pv 0) (pa_cons pe_int pa_nil))))
  (pss_cons (ps_set (i := 7) sc_step.nd rfl (.inl rfl) (pe_ix ix_list (pe_lstS (pa_cons (pe_op op_or (pv 3) (pv 5)) (pa_cons (pe_op op_and (pv 3) (pv 5)) (pa_cons (pe_op op_and (pv 3) (pe_un un_inv (pv 5))) (pa_cons (pe_op op_xor (pv 3) (pv 5)) (pa_cons (pe_op op_sub pe_int (pv 3)) pa_nil)))))) (pv 6) (fun _ _ => rfl)))
  (pss_cons (ps_if (pt_cmpR op_lt (pv 6) pe_int (nomark _)) (pss_one (ps_ret (pe_tupN (pa_cons (pe_ifExp (pt_cmpR op_eq (pv 6) pe_int (nomark _)) (pe_op (op_binI T.sf_Rights T.me_Rights___or__.at_ T.me_Rights___or__.fn ((ok_Rights___or__ T).raw T.B_Rights___or__ .nil) (hr.mono (by decide)) pass0) (pv 2) (pv 4)) (pe_op (op_binI T.sf_Rights T.me_Rights___and__.at_ T.me_Rights___and__.fn ((ok_Rights___and__ T).raw T.B_Rights___and__ .nil) (hr.mono (by decide)) pass0) (pv 2) (pv 4))) (pa_cons (pv 7) pa_nil))))) pss_nil)
  (pss_one (ps_ret (pe_tupN (pa_cons (pe_ifExp (pt_cmpR op_eq (pv 6) pe_int (nomark _)) (pe_op (op_binI T.sf_Rights T.me_Rights___sub__.at_ T.me_Rights___sub__.fn ((ok_Rights___sub__ T).raw T.B_Rights___sub__ .nil) (hr.mono (by decide)) pass0) (pv 2) (pv 4)) (pe_ifExp (pt_cmpR op_eq (pv 6) pe_int (nomark _)) (pe_op (op_binI T.sf_Rights T.me_Rights___xor__.at_ T.me_Rights___xor__.fn ((ok_Rights___xor__ T).raw T.B_Rights___xor__ .nil) (hr.mono (by decide)) pass0) (pv 2) (pv 4)) (pe_un (un_invI T.me_Rights___invert__.at_ T.me_Rights___invert__.fn ((ok_Rights___invert__ T).raw T.B_Rights___invert__ .nil) (hr.mono (by decide)) pass0) (pv 2)))) (pa_cons (pv 7) pa_nil)))))))))), ?_⟩
    walk_at "rd"
    refine ⟨l, us, rfl, .inl (.inl (.inl hl)), ?_⟩
    refine ⟨b, _, n, x, y, z, rfl, hb, ok, by omega, by omega, by omega, fun t1 x1 y1 z1 H1 a0 a1 ok1 k1 hb1 => ?_⟩
    have W1 := W.any1 0 rfl k1 hb1
    have hl1 := W1.keep l _ hl (by simpa using Ne.symm hbl)
    obtain ⟨v1, hv1, hm1⟩ := atI_in (xs := us) a0 a1
    obtain ⟨p1, r1, dr1, d1, rfl, hp1, hr1, d10, d11⟩ := (hg v1 hm1).keep1 hb k1
    refine ⟨l, us, _, _, rfl, rfl, .inl (.inl hl1), hv1, ?_⟩
    refine ⟨p1, _, rfl, .inl (.inl hp1), rfl, ?_⟩
    walk_at "rd"
    refine ⟨l, us, rfl, .inl (.inl (.inl hl1)), ?_⟩
    refine ⟨b, _, n + 1, x1, y1, z1, rfl, hb1, ok1, by omega, by omega, by omega, fun t2 x2 y2 z2 H2 b0 b1 ok2 k2 hb2 => ?_⟩
    have W2 := W1.any1 0 rfl k2 hb2
    have hl2 := W2.keep l _ hl (by simpa using Ne.symm hbl)
    obtain ⟨v2, hv2, hm2⟩ := atI_in (xs := us) b0 b1
    obtain ⟨p2, r2, dr2, d2, rfl, hp2, hr2, d20, d21⟩ := ((hg v2 hm2).keep1 hb k1).keep1 hb1 k2
    refine ⟨l, us, _, _, rfl, rfl, .inl (.inl hl2), hv2, ?_⟩
    refine ⟨p2, _, rfl, .inl (.inl hp2), rfl, ?_⟩
    obtain ⟨p1', r1', dr1', d1', e1, hp1', hr1', -⟩ := ((hg (.ref p1) hm1).keep1 hb k1).keep1 hb1 k2
    have hr12 : H2 r1 = some (RgO A dr1 d1) := by
      refine k2 _ _ hr1 fun e => ?_
      rw [List.mem_singleton.mp e, hb1] at hr1
      cases hr1
    walk_at "rd"
    walk_at "take"
    rename_i t3 x3 y3 z3 H3 c0 c1 ok3 k3 hb3 W3
    have hr13 : H3 r1 = some (RgO A dr1 d1) := by
      refine k3 _ _ hr12 fun e => ?_
      rw [List.mem_singleton.mp e, hb2] at hr12
      cases hr12
    have hr23 : H3 r2 = some (RgO A dr2 d2) := by
      refine k3 _ _ hr2 fun e => ?_
      rw [List.mem_singleton.mp e, hb2] at hr2
      cases hr2
    walk_at "rd"
    rename_i p4 H4 np4 sp4 kp4 hp4 W4
    have hr14 : H4 r1 = some (RgO A dr1 d1) := kp4 _ _ hr13 (by simp)
    have hr24 : H4 r2 = some (RgO A dr2 d2) := kp4 _ _ hr23 (by simp)
    have ht : t3 = 0 ∨ t3 = 1 ∨ t3 = 2 ∨ t3 = 3 ∨ t3 = 4 := by omega
    rcases ht with rfl | rfl | rfl | rfl | rfl
    · refine ⟨p4, _, _, _, rfl, rfl, W4.sq 0 rfl, rfl, ?_⟩
      walk_at "rd"
      refine bin_at hr14 hr24 d10 d11 d20 d21 ?_
      intro x dx H5 hx hdx k5 h5
      have W5 := W4.res (W4.call0 k5) hx h5
      walk_at "rd"
      rename_i p6 H6 np6 kp6 hp6 W6
      exact q p6 x3 y3 z3 H6 ok3 W6.keep (W6.get 3 rfl) (W6.fresh (by simp)) ⟨p6, x, dx, Builtin.bitOr d1 d2, rfl, hp6, W6.get 1 rfl, (or_in d10 d11 d20 d21).1, (or_in d10 d11 d20 d21).2⟩
    · refine ⟨p4, _, _, _, rfl, rfl, W4.sq 0 rfl, rfl, ?_⟩
      walk_at "rd"
      refine bin_at hr14 hr24 d10 d11 d20 d21 ?_
      intro x dx H5 hx hdx k5 h5
      have W5 := W4.res (W4.call0 k5) hx h5
      walk_at "rd"
      rename_i p6 H6 np6 kp6 hp6 W6
      exact q p6 x3 y3 z3 H6 ok3 W6.keep (W6.get 3 rfl) (W6.fresh (by simp)) ⟨p6, x, dx, Builtin.bitAnd d1 d2, rfl, hp6, W6.get 1 rfl, (and_in d10 d11 d20 d21).1, (and_in d10 d11 d20 d21).2⟩
    · refine ⟨p4, _, _, _, rfl, rfl, W4.sq 0 rfl, rfl, ?_⟩
      walk_at "rd"
      refine bin_at hr14 hr24 d10 d11 d20 d21 ?_
      intro x dx H5 hx hdx k5 h5
      have W5 := W4.res (W4.call0 k5) hx h5
      walk_at "rd"
      rename_i p6 H6 np6 kp6 hp6 W6
      exact q p6 x3 y3 z3 H6 ok3 W6.keep (W6.get 3 rfl) (W6.fresh (by simp)) ⟨p6, x, dx, bSub d1 d2, rfl, hp6, W6.get 1 rfl, (sub_in d10 d11 d20 d21).1, (sub_in d10 d11 d20 d21).2⟩
    · refine ⟨p4, _, _, _, rfl, rfl, W4.sq 0 rfl, rfl, ?_⟩
      walk_at "rd"
      refine bin_at hr14 hr24 d10 d11 d20 d21 ?_
      intro x dx H5 hx hdx k5 h5
      have W5 := W4.res (W4.call0 k5) hx h5
      walk_at "rd"
      rename_i p6 H6 np6 kp6 hp6 W6
      exact q p6 x3 y3 z3 H6 ok3 W6.keep (W6.get 3 rfl) (W6.fresh (by simp)) ⟨p6, x, dx, Builtin.bitXor d1 d2, rfl, hp6, W6.get 1 rfl, (xor_in d10 d11 d20 d21).1, (xor_in d10 d11 d20 d21).2⟩
    · refine ⟨p4, _, _, _, rfl, rfl, W4.sq 0 rfl, rfl, ?_⟩
      walk_at "rd"
      refine ⟨r1, dr1, _, rfl, hr14, _, d1, rfl, ⟨r1, dr1, rfl, hr14, d10, d11⟩, ?_⟩
      intro x dx H5 hx hdx k5 h5
      have W5 := W4.res (W4.call0 k5) hx h5
      walk_at "rd"
      rename_i p6 H6 np6 kp6 hp6 W6
      exact q p6 x3 y3 z3 H6 ok3 W6.keep (W6.get 3 rfl) (W6.fresh (by simp)) ⟨p6, x, dx, 7 - d1, rfl, hp6, W6.get 1 rfl, by omega, by omega⟩
def spPairR (A : Ads) : Sp := fun vs H Q _ => ∃ (v1 v2 : V) (d e : Int), vs = [v1, .int d, v2, .int e] ∧ IsR A H v1 d ∧ IsR A H v2 e ∧ ∀ H1, Keep [] H H1 → Q (.bl true) H1
theorem dec_int (i j : Int) : decide (V.int i = V.int j) = decide (i = j) := by simp
theorem and_swap {d d' : Int} (d0 : 0 ≤ d) (d1 : d ≤ 7) (e0 : 0 ≤ d') (e1 : d' ≤ 7) : Builtin.bitAnd d d' = Builtin.bitAnd d' d :=
  eight (F := fun d => ∀ d', 0 ≤ d' → d' ≤ 7 → Builtin.bitAnd d d' = Builtin.bitAnd d' d) (by
    refine ⟨?_, ?_, ?_, ?_, ?_, ?_, ?_, ?_⟩ <;> exact fun d' a b => eight (F := fun e => Builtin.bitAnd _ e = Builtin.bitAnd e _) (by decide +kernel) a b) d0 d1 d' e0 e1
theorem dpAll_bls {K : PySem.W.Frag} {H : Hp} : ∀ bs : List Bool, DpAll K H (bs.map V.bl) (bs.map PyData.bool)
  | [] => .nil
  | b :: r => .cons (.bl b) (dpAll_bls r)
theorem sh3 (a b c : Bool) : (PyData.list ([a, b, c].map .bool)).showable = true ∧ (PyData.list ([a, b, c].map .bool)).hasDict = false ∧ (PyData.list ([a, b, c].map .bool)).depth ≤ 50 ∧ (PyData.list ([a, b, c].map .bool)).shown.length ≤ 1000000 := by
  cases a <;> cases b <;> cases c <;> decide +kernel
def dueL (d e : Int) : List Bool := [decide (d = e), decide (Builtin.bitAnd d e = e), decide (Builtin.bitAnd e d = d)]
theorem due_eq {d e : Int} (d0 : 0 ≤ d) (d1 : d ≤ 7) (e0 : 0 ≤ e) (e1 : e ≤ 7) : [V.bl (decide (V.int d = V.int e)), V.bl (decide (V.int (Builtin.bitAnd d e) = V.int e)), V.bl (decide (V.int (Builtin.bitAnd d e) = V.int d))] = (dueL d e).map V.bl := by
  unfold dueL
  rw [dec_int, dec_int, dec_int, and_swap d0 d1 e0 e1]
  rfl
theorem ok_pair_right (T : Txt w K mg A) : FnG P w K mg base CX0 9 A.f_pair_right (spPairR A) := by
  refine okG0 T.F_pair_right sc_pair_right T.B_pair_right (fun vs H Q E h => ?_) (fun cdv A_ outer s H vs Q E hgd hr h => ?_)
  · obtain ⟨v1, v2, d, e, rfl, _⟩ := h
    rfl
  · obtain ⟨_, _, d, e, rfl, ⟨r1, dr1, rfl, h1, d0, d1⟩, ⟨r2, dr2, rfl, h2, e0, e1⟩, q⟩ := h
    have W : Ow H [] H [] := Ow.start0
    refine ⟨_, (pss_one (ps_ret (pe_cmpR op_eq (pe_callB (call_reprD hgd (u65 hr)) (by rfl) T.b_repr (by decide +kernel) (pa_cons (pe_lstS (pa_cons (pe_cmpR (op_cmpI (fun _ _ => rfl) T.me_Rights___eq__.at_ T.me_Rights___eq__.fn ((ok_Rights___eq__ T).raw T.B_Rights___eq__ .nil) (hr.mono (by decide)) pass0) (pv 0) (pv 2) (nomark _)) (pa_cons (pe_meth (pv 0) T.cl_Rights T.me_Rights_covers (ok_Rights_covers T) (hr.mono (by decide)) T.B_Rights_covers .nil pass0 (pa_cons (pv 2) pa_nil)) (pa_cons (pe_meth (pv 2) T.cl_Rights T.me_Rights_covers (ok_Rights_covers T) (hr.mono (by decide)) T.B_Rights_covers .nil pass0 (pa_cons (pv 0) pa_nil)) pa_nil)))) pa_nil)) (pe_callB (call_reprD hgd (u65 hr)) (by rfl) T.b_repr (by decide +kernel) (pa_cons (pe_lstS (pa_cons (pe_cmpR op_eq (pv 1) (pv 3) (nomark _)) (pa_cons (pe_cmpR op_eq (pe_op op_and (pv 1) (pv 3)) (pv 3) (nomark _)) (pa_cons (pe_cmpR op_eq (pe_op op_and (pv 1) (pv 3)) (pv 1) (nomark _)) pa_nil)))) pa_nil)) (nomark _)))), ?_⟩
    refine ⟨_, rfl, _, rfl, r1, dr1, _, r2, dr2, _, rfl, rfl, h1, h2, _, d, _, rfl, ⟨r1, dr1, rfl, h1, d0, d1⟩, .inl ⟨e, ⟨r2, dr2, rfl, h2, e0, e1⟩, ?_⟩⟩
    refine ⟨_, rfl, r1, dr1, _, rfl, h1, rfl, _, rfl, _, d, _, e, rfl, ⟨r1, dr1, rfl, h1, d0, d1⟩, ⟨r2, dr2, rfl, h2, e0, e1⟩, ?_⟩
    refine ⟨_, rfl, r2, dr2, _, rfl, h2, rfl, _, rfl, _, e, _, d, rfl, ⟨r2, dr2, rfl, h2, e0, e1⟩, ⟨r1, dr1, rfl, h1, d0, d1⟩, ?_⟩
    walk_at "rd"
    rename_i p3 H3 np3 sp3 kp3 hp3 W3
    obtain ⟨g1, g2, g3, g4⟩ := sh3 (decide (d = e)) (decide (Builtin.bitAnd d e = e)) (decide (Builtin.bitAnd e d = d))
    refine ⟨_, .list ((dueL d e).map .bool), rfl, .lst (.inl (.inl hp3)) (dpAll_bls (dueL d e)), g1, g2, g3, size_le g4, ?_⟩
    generalize hsh : (PyData.list ((dueL d e).map .bool)).shown = sh
    walk_at "rd"
    rename_i p4 H4 np4 sp4 kp4 hp4 W4
    have s4 : SqL K H4 p4 ((dueL d e).map V.bl) := by
      rw [← due_eq d0 d1 e0 e1]
      exact .inl (.inl hp4)
    refine ⟨_, .list ((dueL d e).map .bool), rfl, .lst s4 (dpAll_bls (dueL d e)), g1, g2, g3, size_le g4, ?_⟩
    rw [hsh]
    refine ⟨rfl, ?_⟩
    show Q (V.bl (decide (V.str sh = V.str sh))) H4
    rw [decide_eq_true rfl]
    exact q H4 W4.keep
end
end K10
namespace K10
namespace X
open PySem PySem.Spec PyProof.Rows L2 FR TL
open C8 (pss_cut pe_gc)
open StX (pe_callS2 pa_star)
section
variable {P : Program} {w : World} {K : PySem.W.Frag} {mg : Str → Option Value} {base : Heap} {A : Ads}
set_option pp.maxSteps 120
theorem atI_last {α : Type} (vs : List α) (v : α) : atI (vs ++ [v]) (-1) = some v := by
  unfold atI ixN
  simp
  rw [if_pos (by omega), show (-1 + ((vs.length : Int) + 1)).toNat = vs.length by omega]
  simp
theorem val_bv {k : Str} (h : k ∈ keysL) : some (V.int (bv k)) = valV (mergeK [] [(.inr (Str.ofString "r"), V.int 4), (.inr (Str.ofString "w"), V.int 2), (.inr (Str.ofString "x"), V.int 1)]) (.inr k) := by
  simp only [keysL, List.mem_cons, List.not_mem_nil, or_false] at h
  rcases h with rfl | rfl | rfl <;> decide +kernel
theorem sum_bv {d : Int} (d0 : 0 ≤ d) (d1 : d ≤ 7) : ((keysL.filter (bit d)).map bv).sum = d := eight (F := fun d => ((keysL.filter (bit d)).map bv).sum = d) (by decide +kernel) d0 d1
theorem yes_at {F : Bool → Hp → Prop} {σ : L2.St} {H : Hp} (h : F true H) : tYes σ H F := h
def spLaw (K : PySem.W.Frag) : Sp := fun vs H Q _ => ∃ (a : Addr) (ns : List Int), vs = [.ref a] ∧ SqL K H a (ns.map V.int) ∧ ns.length ≤ 63 ∧ ∀ H', Q (.bl true) H'
theorem ok_law (T : Txt w K mg A) : FnG P w K mg base CX0 10 A.f_law (spLaw K) := by
  refine okG0 T.F_law sc_law T.B_law (fun vs H Q E h => ?_) (fun cdv A_ outer s_ H vs Q E hgd hr h => ?_)
  · obtain ⟨a, ns, rfl, _⟩ := h
    rfl
  · obtain ⟨a, zs, rfl, hS, hlen, q⟩ := h
    have W0 : Ow H [] H [] := Ow.start0
    refine ⟨_, (pss_cons (ps_for PassesOwn.never rfl (pi_range1 (by rfl) T.b_range (pa_cons (pe_callB (call_max2 rfl) (by rfl) T.b_max (by decide +kernel) (pa_cons pe_int (pa_cons (pe_callB (call_min2 rfl) (by rfl) T.b_min (by decide +kernel) (pa_cons pe_int (pa_cons (pe_callB call_len_seq (by rfl) T.b_len PySem.boot_len (pa_cons (pv 0) pa_nil)) pa_nil))) pa_nil))) pa_nil)) (pg_name (i := 1) sc_law.nd rfl (.inl rfl)) (pss_cons (ps_set (i := 2) sc_law.nd rfl (.inl rfl) (pe_call (ok_box T) (hr.mono (by decide)) (by rfl) T.g_box T.F_box.kp T.B_box .nil pass0 (pa_cons (pe_call (ok_cell T) (hr.mono (by decide)) (by rfl) T.g_cell T.F_cell.kp T.B_cell .nil pass0 (pa_cons (pv 0) (pa_cons (pv 1) pa_nil))) pa_nil)))
  (pss_cons (ps_set (i := 3) sc_law.nd rfl (.inl rfl) (pe_lstS pa_nil))
  (pss_cons (ps_for PassesOwn.never rfl (pi_range1 (by rfl) T.b_range (pa_cons (pe_op op_add pe_int (pe_call (ok_take T) (hr.mono (by decide)) (by rfl) T.g_take T.F_take.kp T.B_take .nil pass0 (pa_cons (pv 2) (pa_cons pe_int pa_nil)))) pa_nil)) (pg_name (i := 4) sc_law.nd rfl (.inl rfl)) (pss_cons (ps_set (i := 5) sc_law.nd rfl (.inl rfl) (pe_call (ok_take T) (hr.mono (by decide)) (by rfl) T.g_take T.F_take.kp T.B_take .nil pass0 (pa_cons (pv 2) (pa_cons pe_int pa_nil))))
  (pss_one (ps_expr (pe_bm PySem.F.plainAttrs_list PySem.F.slot_list_append PySem.F.type_list_append mt_appN (pv 3) (pa_cons (pe_tupN (pa_cons (pe_call (ok_made T) (hr.mono (by decide)) (by rfl) T.g_made T.F_made.kp T.B_made .nil pass0 (pa_cons (pv 2) (pa_cons (pv 5) pa_nil))) (pa_cons (pv 5) pa_nil))) pa_nil))))))
  (pss_cons (ps_for PassesOwn.never rfl (pi_range1 (by rfl) T.b_range (pa_cons pe_int pa_nil)) (pg_name (i := 4) sc_law.nd rfl (.inl rfl)) (pss_cons (ps_expr (pe_bm PySem.F.plainAttrs_list PySem.F.slot_list_append PySem.F.type_list_append mt_appN (pv 3) (pa_cons (pe_call (ok_step T) (hr.mono (by decide)) (by rfl) T.g_step T.F_step.kp T.B_step .nil pass0 (pa_cons (pv 2) (pa_cons (pv 3) pa_nil))) pa_nil)))
  (pss_cons (ps_expr (pe_bm PySem.F.plainAttrs_list PySem.F.slot_list_append PySem.F.type_list_append mt_appN (pe_meth0 (pe_ix ix_tup (pe_ix ix_list (pv 3) (pe_un un_neg pe_int) (fun _ _ => rfl)) pe_int (fun _ _ => rfl)) T.cl_Rights T.me_Rights_listed (ok_Rights_listed T) (hr.mono (by decide)) T.B_Rights_listed .nil pass0) (pa_cons pe_str pa_nil)))
  (pss_one (ps_for PassesOwn.never rfl (pi_list (pv 3)) ((pg_tup rfl (pgs_cons (pg_name (i := 6) sc_law.nd rfl (.inl rfl)) (pgs_cons (pg_name (i := 5) sc_law.nd rfl (.inl rfl)) pgs_nil)))) (pss_cons (ps_setLc (i := 7) (own := [("_law_letter", 12)]) (g := gName 12) rfl sc_law.nd rfl rfl (sw_true rfl rfl rfl (by decide +kernel)) (pi_list (pe_meth0 (pv 6) T.cl_Rights T.me_Rights_listed (ok_Rights_listed T) (hr.mono (by decide)) T.B_Rights_listed .nil pass0)) (blkOk_by (own := [("_law_letter", 12)]) (N := N_law) (sc := defScope s_law) (by decide +kernel)) (fun _ _ _ _ _ => pg_name (i := 12) sc_law.nd rfl (Or.inl rfl)) (fun _ _ _ _ _ => pts_nil) (fun _ _ _ _ _ => (pe_dget (hu_of hr) (pe_disp (pps_cons pe_str pe_int (pps_cons pe_str pe_int (pps_cons pe_str pe_int pps_nil))) (by rfl) (by rfl) (fun z => by cases z) (by decide)) (pv 12) (fun _ _ => rfl))))
  (pss_one (ps_if (PW.pt (pw_or (pt_cmpR op_ne (pe_prop (pv 6) T.cl_Rights T.pr_Rights_digit (ok_Rights_digit T) (hr.mono (by decide)) T.B_Rights_digit .nil pass0 rfl) (pv 5) (nomark _)) (pw_or1 (pt_cmpR op_ne (pe_callB (cr_sum rfl) (by rfl) T.b_sum (by decide +kernel) (pa_cons (pv 7) pa_nil)) (pv 5) (nomark _))))) (pss_one (ps_ret pe_bl)) pss_nil))))))))
  (pss_one (ps_for PassesOwn.never rfl (pi_list (pv 3)) ((pg_tup rfl (pgs_cons (pg_name (i := 8) sc_law.nd rfl (.inl rfl)) (pgs_cons (pg_name (i := 9) sc_law.nd rfl (.inl rfl)) pgs_nil)))) (pss_one (ps_for PassesOwn.never rfl (pi_list (pv 3)) ((pg_tup rfl (pgs_cons (pg_name (i := 10) sc_law.nd rfl (.inl rfl)) (pgs_cons (pg_name (i := 11) sc_law.nd rfl (.inl rfl)) pgs_nil)))) (pss_one (ps_if (pt_not (pt_val (pe_callG (ok_pair_right T) hgd (hr.mono (by decide)) T.F_pair_right.kp (by rfl) T.g_pair_right pass0 (pa_cons (pv 8) (pa_cons (pv 9) (pa_cons (pv 10) (pa_cons (pv 11) pa_nil))))))) (pss_one (ps_ret pe_bl)) pss_nil)))))))))))
  (pss_one (ps_ret pe_bl))), ?_⟩
    walk_at "rd"
    refine for_rg (fun i σ H' => (∃ y1 y2 y3 y4 y5 y6 y7 y8 y9 y10 y11 y12, σ = [some (.ref a), y1, y2, y3, y4, y5, y6, y7, y8, y9, y10, y11, y12]) ∧ Ow H [] H' []) ⟨⟨none, none, none, none, none, none, none, none, none, none, none, none, rfl⟩, W0⟩ ?_ ?_
    · rintro i σ H1 hi ⟨⟨y1, y2, y3, y4, y5, y6, y7, y8, y9, y10, y11, y12, rfl⟩, W1⟩
      have hi' : i < 63 := by
        refine Nat.lt_of_lt_of_le hi ?_
        rw [List.length_map]
        omega
      walk_at "rd"
      refine ⟨a, zs, _, rfl, W1.seq hS (by simp), by omega, by omega, fun n => ?_⟩
      walk_at "rd"
      intro x y z ok
      walk_at "rd"
      rename_i b H2 np2 kp2 hp2 W2 p3 H3 np3 sp3 kp3 hp3 W3
      walk_at "take"
      rename_i t4 x4 y4' z4 H4 a0 a1 ok4 k4 hb4 W4
      walk_at "rd"
      refine for_rg (fun j σ' H' => ∃ us x y z u4 u5, σ' = [some (.ref a), some (.int (0 + i)), some (.ref b), some (.ref p3), u4, u5, y6, y7, y8, y9, y10, y11, y12] ∧ us.length = j ∧ BagOk (1 + 2 * j) x y z ∧ (∀ v ∈ us, Good A H' v) ∧ Ow H [] H' [(p3, .lst us), (b, bagO x y z)]) ⟨[], x4, y4', z4, y4, y5, rfl, rfl, ok4, fun _ h => by simp at h, W4⟩ ?_ ?_
      · rintro j σ5 H5 hj ⟨us, x5, y5', z5, u4, u5, rfl, hul, ok5, hus, W5⟩
        have hj8 : j < 8 := by omega
        walk_at "rd"
        walk_at "take"
        rename_i d x6 y6' z6 H6 d0 d1 ok6 k6 hb6 W6
        walk_at "rd"
        refine ⟨b, _, x6, y6', z6, d, rfl, W6.get 1 rfl, ok6, by omega, d0, by omega, fun r dr x7 y7' z7 H7 ok7 k7 hb7 n7 h7 => ?_⟩
        have W7 := W6.anyN 1 rfl k7 hb7 n7 h7
        have hb5 := W5.get 1 rfl
        have hb6' := W6.get 1 rfl
        walk_at "rd"
        rename_i p8 H8 np8 kp8 hp8 W8 H9 kp9 hp9 W9
        have hl8 := W8.get 2 rfl
        refine ⟨us ++ [.ref p8], x7, y7', z7, _, _, rfl, by rw [List.length_append, hul]; rfl, ok7.mono (by omega), fun v hv => ?_, W9.sel (.cons _ (.cons _ (.cons₂ _ (.cons₂ _ .slnil))))⟩
        rcases List.mem_append.mp hv with hv | hv
        · exact ((((hus v hv).keep1 hb5 k6).keep1 hb6' k7).keep kp8).keep1 hl8 kp9
        · rw [List.mem_singleton.mp hv]
          exact Good.keep1 ⟨p8, r, dr, d, rfl, hp8, W8.get 1 rfl, d0, by omega⟩ hl8 kp9
      · rintro σ5 H5 ⟨us, x5, y5', z5, u4, u5, rfl, hul, ok5, hus, W5⟩
        have hul2 : 2 ≤ us.length ∧ us.length ≤ 8 := by omega
        clear W4 W3 W2 W1
        walk_at "rd"
        refine for_rg (fun j σ' H' => ∃ vs x y z u4 u5 u6 u7 u12, σ' = [some (.ref a), some (.int (0 + i)), some (.ref b), some (.ref p3), u4, u5, u6, u7, y8, y9, y10, y11, u12] ∧ vs.length = us.length + j ∧ BagOk (20 + 3 * j) x y z ∧ (∀ v ∈ vs, Good A H' v) ∧ Ow H [] H' [(p3, .lst vs), (b, bagO x y z)]) ⟨us, x5, y5', z5, u4, u5, y6, y7, y12, rfl, rfl, ok5.mono (by omega), hus, W5⟩ ?_ ?_
        · rintro j σ6 H6 hj ⟨vs, x6, y6', z6, u4, u5, u6, u7, u12, rfl, hvl, ok6, hvs, W6⟩
          have hj12 : j < 12 := hj
          have nbl : b ≠ p3 := fun e => by have := W6.nd; rw [e] at this; simp at this
          walk_at "rd"
          refine ⟨b, p3, _, x6, y6', z6, vs, rfl, nbl, W6.get 1 rfl, ok6, by omega, W6.get 0 rfl, by omega, by omega, hvs, fun p x7 y7' z7 H7 ok7 k7 hb7 np7 hg7 => ?_⟩
          obtain ⟨p', r, dr, d, ep, hp7, hr7, d0, d1⟩ := id hg7
          cases ep
          have W7 := W6.anyN 1 rfl k7 hb7 np7 hp7
          have hb6 := W6.get 1 rfl
          have hvs7 : ∀ v ∈ vs, Good A H7 v := fun v hv => (hvs v hv).keep1 hb6 k7
          have hvl30 : vs.length ≤ 30 := by omega
          walk_at "rd"
          rename_i H8 kp8 hp8 W8
          have hl7 := W7.get 1 rfl
          have hvs8 : ∀ v ∈ vs ++ [.ref p], Good A H8 v := fun v hv => by
            rcases List.mem_append.mp hv with hv | hv
            · exact (hvs7 v hv).keep1 hl7 kp8
            · rw [List.mem_singleton.mp hv]
              exact hg7.keep1 hl7 kp8
          obtain ⟨p', r', dr', d', ep, hpp, hr8, d0', d1'⟩ := hvs8 (.ref p) (by simp)
          cases ep
          have V8 : Ow H [] H8 [(p3, .lst (vs ++ [.ref p])), (b, bagO x7 y7' z7)] := W8.sel (.cons _ (.cons₂ _ (.cons₂ _ .slnil)))
          refine ⟨p3, _, -1, .ref p, rfl, rfl, V8.sq 0 rfl, atI_last _ _, ?_⟩
          refine ⟨p, _, 0, .ref r', rfl, rfl, .inl (.inl hpp), rfl, ?_⟩
          refine ⟨r', dr', _, rfl, hr8, rfl, _, d', rfl, ⟨r', dr', rfl, hr8, d0', d1'⟩, fun H9 k9 => ?_⟩
          have V9 := V8.call0 k9
          have hfl : (keysL.filter (bit d')).length ≤ 3 := List.length_filter_le _ _
          walk_at "obj"
          rename_i p10 H10 np10 sp10 kp10 hp10 W10
          walk_at "rd"
          rename_i H11 kp11 hp11 W11
          have V11 : Ow H [] H11 [(p3, .lst (vs ++ [.ref p])), (b, bagO x7 y7' z7)] := W11.sel (.cons _ (.cons₂ _ (.cons₂ _ .slnil)))
          have hvs11 : ∀ v ∈ vs ++ [.ref p], Good A H11 v := fun v hv => (((hvs8 v hv).keep k9).keep kp10).keep1 hp10 kp11
          have hll : (vs ++ [V.ref p]).length = us.length + (j + 1) := by rw [List.length_append, hvl]; rfl
          clear W11 W10 V9 V8 W8 W7 W6 W5
          generalize vs ++ [V.ref p] = vs' at V11 hvs11 hll
          refine ⟨⟨_, V11.sq 0 rfl⟩, ?_⟩
          refine for_li (a := p3) (xs := vs') (fun pre σ' H' => (∃ u5 u6 u7, σ' = [some (.ref a), some (.int (0 + i)), some (.ref b), some (.ref p3), some (.int (0 + j)), u5, u6, u7, y8, y9, y10, y11, u12]) ∧ Keep [] H11 H') ⟨⟨_, _, _, rfl⟩, Keep.refl⟩ ?_ ?_ ?_
          · rintro pre post σ' H12 e ⟨_, k12⟩
            exact (V11.call0 k12).sq 0 rfl
          · rintro pre v post σ' H12 e ⟨⟨u5, u6, u7, rfl⟩, k12⟩
            obtain ⟨pp, r2, dr2, d2, rfl, hpp2, hr2, e0, e1⟩ := (hvs11 v (by rw [e]; simp)).keep k12
            have W12 : Ow H12 [] H12 [] := Ow.start0
            refine ⟨pp, _, rfl, .inl (.inl hpp2), rfl, ?_⟩
            walk_at "rd"
            refine ⟨r2, dr2, _, rfl, hr2, rfl, _, d2, rfl, ⟨r2, dr2, rfl, hr2, e0, e1⟩, fun H13 k13 => ?_⟩
            have W13 := W12.call0 k13
            walk_at "obj"
            rename_i p14 H14 np14 sp14 kp14 hp14 W14
            refine ⟨_, rfl, ⟨_, W14.sq 0 rfl⟩, fun D hD => ?_⟩
            refine lc_li (K := K) (a := p14) (xs := (keysL.filter (bit d2)).map V.str) (fun pre H' => ∃ ks : List Str, pre = ks.map V.str ∧ Ow H12 [] H' [(D, .lst ((ks.map bv).map V.int)), (p14, .lst ((keysL.filter (bit d2)).map V.str))]) ⟨[], rfl, W14.new hD⟩ ?_ ?_ ?_
            · rintro pre post H15 e ⟨_, _, W15⟩
              exact W15.sq 1 rfl
            · rintro pre v post H15 e ⟨ks, rfl, W15⟩
              obtain ⟨k, hk, rfl⟩ := List.mem_map.mp (show v ∈ (keysL.filter (bit d2)).map V.str by rw [e]; simp)
              have hkl : ks.length ≤ 3 := by
                have h1 := congrArg List.length e
                rw [List.length_append, List.length_cons, List.length_map, List.length_map] at h1
                have h3 : (keysL.filter (bit d2)).length ≤ 3 := List.length_filter_le _ _
                omega
              walk_at "rd"
              refine yes_at ?_
              rw [if_pos rfl]
              intro p16 np16
              refine ⟨upd_same, [(.inr (Str.ofString "r"), V.int 4), (.inr (Str.ofString "w"), V.int 2), (.inr (Str.ofString "x"), V.int 1)], rfl, by decide, ?_⟩
              have W16 := (W15.new (o := .dK []) np16).set 0 (o' := .dK (mergeK [] [(.inr (Str.ofString "r"), V.int 4), (.inr (Str.ofString "w"), V.int 2), (.inr (Str.ofString "x"), V.int 1)])) rfl
              refine ⟨_, rfl, p16, .int (bv k), rfl, .inl ⟨_, .inr k, .inl upd_same, rfl, val_bv (List.mem_filter.mp hk).1⟩, ?_⟩
              refine ⟨_, W16.get 1 rfl, size_ok (by rw [List.length_map, List.length_map]; omega), ks ++ [k], by rw [List.map_append]; rfl, ?_⟩
              rw [List.map_append, List.map_append]
              exact W16.tail.set 0 rfl
            · rintro H15 ⟨ks, e, W15⟩
              have ek : keysL.filter (bit d2) = ks := (List.map_inj_right (fun a b h => V.str.inj h)).mp e
              subst ek
              have hr15 := W15.keep r2 _ hr2 (by simp)
              walk_at "rd"
              refine ⟨r2, dr2, _, rfl, hr15, _, d2, rfl, ⟨r2, dr2, rfl, hr15, e0, e1⟩, ?_⟩
              walk_at "rd"
              refine ifN (fun z => absurd rfl z) (fun _ => ?_)
              walk_at "rd"
              refine ⟨D, _, rfl, W15.sq 0 rfl, ?_⟩
              rw [sum_bv e0 e1]
              walk_at "rd"
              refine ifN (fun z => absurd rfl z) (fun _ => ?_)
              exact ⟨⟨_, _, _, rfl⟩, k12.trans W15.keep⟩
          · rintro σ' H12 ⟨⟨u5, u6, u7, rfl⟩, k12⟩
            exact ⟨vs', x7, y7', z7, _, _, _, _, _, rfl, hll, ok7.mono (by omega), fun v hv => (hvs11 v hv).keep k12, V11.call0 k12⟩
        · rintro σ6 H6 ⟨vs, x6, y6', z6, u4, u5, u6, u7, u12, rfl, hvl, ok6, hvs, W6⟩
          have hvl30 : vs.length ≤ 30 := by omega
          clear W5
          walk_at "rd"
          have sq6 : ∀ H', Keep [] H6 H' → SqL K H' p3 vs := fun H' k => (W6.call0 k).sq 0 rfl
          refine ⟨⟨_, W6.sq 0 rfl⟩, ?_⟩
          refine for_li (a := p3) (xs := vs) (fun pre σ' H' => (∃ u8 u9 u10 u11, σ' = [some (.ref a), some (.int (0 + i)), some (.ref b), some (.ref p3), u4, u5, u6, u7, u8, u9, u10, u11, u12]) ∧ Keep [] H6 H') ⟨⟨_, _, _, _, rfl⟩, Keep.refl⟩ ?_ ?_ ?_
          · rintro pre post σ' H7 e ⟨_, k7⟩
            exact sq6 H7 k7
          · rintro pre v post σ' H7 e ⟨⟨u8, u9, u10, u11, rfl⟩, k7⟩
            obtain ⟨pp, r1, dr1, d1, rfl, hpp, hr1, d10, d11⟩ := hvs v (by rw [e]; simp)
            refine ⟨pp, _, rfl, .inl (.inl (k7 _ _ hpp (by simp))), rfl, ?_⟩
            walk_at "rd"
            refine ⟨⟨_, sq6 H7 k7⟩, ?_⟩
            refine for_li (a := p3) (xs := vs) (fun pre σ' H' => (∃ u10 u11, σ' = [some (.ref a), some (.int (0 + i)), some (.ref b), some (.ref p3), u4, u5, u6, u7, some (.ref r1), some (.int d1), u10, u11, u12]) ∧ Keep [] H6 H') ⟨⟨_, _, rfl⟩, k7⟩ ?_ ?_ ?_
            · rintro pre post σ' H8 e ⟨_, k8⟩
              exact sq6 H8 k8
            · rintro pre v post σ' H8 e ⟨⟨u10, u11, rfl⟩, k8⟩
              obtain ⟨pp2, r2, dr2, d2, rfl, hpp2, hr2, d20, d21⟩ := hvs v (by rw [e]; simp)
              refine ⟨pp2, _, rfl, .inl (.inl (k8 _ _ hpp2 (by simp))), rfl, ?_⟩
              walk_at "rd"
              refine ⟨_, _, d1, d2, rfl, ⟨r1, dr1, rfl, k8 _ _ hr1 (by simp), d10, d11⟩, ⟨r2, dr2, rfl, k8 _ _ hr2 (by simp), d20, d21⟩, fun H9 k9 => ?_⟩
              refine ⟨_, rfl, ?_⟩
              refine ifF rfl ?_
              exact ⟨⟨_, _, rfl⟩, k8.trans k9⟩
            · rintro σ' H8 ⟨⟨u10, u11, rfl⟩, k8⟩
              exact ⟨⟨_, _, _, _, rfl⟩, k8⟩
          · rintro σ' H7 ⟨⟨u8, u9, u10, u11, rfl⟩, k7⟩
            exact ⟨⟨_, _, _, _, _, _, _, _, _, _, _, _, rfl⟩, ⟨Keep.trans W6.keep k7, fun q hq => by simp at hq, by simp, fun q hq => by simp at hq⟩⟩
    · rintro σ H1 ⟨⟨y1, y2, y3, y4, y5, y6, y7, y8, y9, y10, y11, y12, rfl⟩, W1⟩
      exact q _
end
end X
end K10
namespace K10
open X
open PySem PySem.Spec PyProof.Rows L2 FR TL
theorem all_mk {P : Program} {w : World} {K : PySem.W.Frag} {h : Heap} {mg : Str → Option Value} {fa : Addr} (X : K.In h) (G : h.Ns mainGlobals mg) (hfa : mg "law" = some (.ref fa))
    {O0 : Addr} {cdo0 : ClassData}
    {f0 : Addr} {od0 an0 : Option Addr} {sl0 : Array (Option Value)} {oc0 kV0 dc0 pm0 cd0 ct0 : Value}
    {f1 : Addr} {od1 an1 : Option Addr} {sl1 : Array (Option Value)} {oc1 kV1 dc1 pm1 cd1 ct1 : Value}
    {f2 : Addr} {od2 an2 : Option Addr} {sl2 : Array (Option Value)} {oc2 kV2 dc2 pm2 cd2 ct2 : Value}
    {f3 : Addr} {od3 an3 : Option Addr} {sl3 : Array (Option Value)} {oc3 kV3 dc3 pm3 cd3 ct3 : Value}
    {f4 : Addr} {od4 an4 : Option Addr} {sl4 : Array (Option Value)} {oc4 kV4 dc4 pm4 cd4 ct4 : Value}
    {f5 : Addr} {od5 an5 : Option Addr} {sl5 : Array (Option Value)} {oc5 kV5 dc5 pm5 cd5 ct5 : Value}
    {f6 : Addr} {od6 an6 : Option Addr} {sl6 : Array (Option Value)} {oc6 kV6 dc6 pm6 cd6 ct6 : Value}
    {f7 : Addr} {od7 an7 : Option Addr} {sl7 : Array (Option Value)} {oc7 kV7 dc7 pm7 cd7 ct7 : Value}
    {f8 : Addr} {od8 an8 : Option Addr} {sl8 : Array (Option Value)} {oc8 kV8 dc8 pm8 cd8 ct8 : Value}
    {f9 : Addr} {od9 an9 : Option Addr} {sl9 : Array (Option Value)} {oc9 kV9 dc9 pm9 cd9 ct9 : Value}
    {f10 : Addr} {od10 an10 : Option Addr} {sl10 : Array (Option Value)} {oc10 kV10 dc10 pm10 cd10 ct10 : Value}
    {f11 : Addr} {od11 an11 : Option Addr} {sl11 : Array (Option Value)} {oc11 kV11 dc11 pm11 cd11 ct11 : Value}
    {DT11 : Addr} {dto11 : Obj} {dti11 : List Value} {dtn11 : Nat}
    {f12 : Addr} {od12 an12 : Option Addr} {sl12 : Array (Option Value)} {oc12 kV12 dc12 pm12 cd12 ct12 : Value}
    {P12 : Addr} {pr12 : List Value}
    {f13 : Addr} {od13 an13 : Option Addr} {sl13 : Array (Option Value)} {oc13 kV13 dc13 pm13 cd13 ct13 : Value}
    {P13 : Addr} {pr13 : List Value}
    {f14 : Addr} {od14 an14 : Option Addr} {sl14 : Array (Option Value)} {oc14 kV14 dc14 pm14 cd14 ct14 : Value}
    {P14 : Addr} {pr14 : List Value}
    {f15 : Addr} {od15 an15 : Option Addr} {sl15 : Array (Option Value)} {oc15 kV15 dc15 pm15 cd15 ct15 : Value}
    {f16 : Addr} {od16 an16 : Option Addr} {sl16 : Array (Option Value)} {oc16 kV16 dc16 pm16 cd16 ct16 : Value}
    {f17 : Addr} {od17 an17 : Option Addr} {sl17 : Array (Option Value)} {oc17 kV17 dc17 pm17 cd17 ct17 : Value}
    {f18 : Addr} {od18 an18 : Option Addr} {sl18 : Array (Option Value)} {oc18 kV18 dc18 pm18 cd18 ct18 : Value}
    {f19 : Addr} {od19 an19 : Option Addr} {sl19 : Array (Option Value)} {oc19 kV19 dc19 pm19 cd19 ct19 : Value}
    {f20 : Addr} {od20 an20 : Option Addr} {sl20 : Array (Option Value)} {oc20 kV20 dc20 pm20 cd20 ct20 : Value}
    {f21 : Addr} {od21 an21 : Option Addr} {sl21 : Array (Option Value)} {oc21 kV21 dc21 pm21 cd21 ct21 : Value}
    {f22 : Addr} {od22 an22 : Option Addr} {sl22 : Array (Option Value)} {oc22 kV22 dc22 pm22 cd22 ct22 : Value}
    {f23 : Addr} {od23 an23 : Option Addr} {sl23 : Array (Option Value)} {oc23 kV23 dc23 pm23 cd23 ct23 : Value}
    {f24 : Addr} {od24 an24 : Option Addr} {sl24 : Array (Option Value)} {oc24 kV24 dc24 pm24 cd24 ct24 : Value}
    {f25 : Addr} {od25 an25 : Option Addr} {sl25 : Array (Option Value)} {oc25 kV25 dc25 pm25 cd25 ct25 : Value}
    {tc0 : Tok}
    {tc1 : Tok}
    {KD2 : Addr} {kes2 : Array DictEntry} {ken2 : Nat} {kt2_0 : Tok} {kt2_1 : Tok} {kt2_2 : Tok} {kt2_3 : Tok} {kt2_4 : Tok} {kt2_5 : Tok} {kt2_6 : Tok} {kt2_7 : Tok} {kt2_8 : Tok} {kt2_9 : Tok} {kt2_10 : Tok} {kt2_11 : Tok} {kt2_12 : Tok} {kt2_13 : Tok} {kt2_14 : Tok} {kt2_15 : Tok}
    {KD3 : Addr} {kto3 : Obj} {kti3 : Array Value} {ktn3 : Nat}
    (oa0 : PySem.W.nsIn K mainGlobals "Rights" = some (some (.ref O0)))
    (opg0 : PySem.W.plainGet K O0 Str.empty = true)
    (ohd0 : PySem.W.hasDictIn K O0 = true)
    (opo0 : PySem.W.plainOver K O0 = true)
    (osa0 : PySem.W.findIn K (.ref O0) "__setattr__" = some (some (.builtin "object.__setattr__")))
    (omk0 : PySem.W.makesIn K O0 = true)
    (okc0 : PySem.W.keepIn K (.ref O0) = true)
    (oca0 : PySem.W.findIn K (.ref O0) "__class__" = some (some (.builtin "object.__class__")))
    (ocn0 : PySem.W.specialIn K (.builtin "object.__class__") "__get__" = some (some (.builtin "getset_descriptor.__get__")))
    (oct0 : PySem.W.takesIn K (.builtin "object.__class__") = some true)
    (ocm0 : PySem.W.mroIn K O0 (.type "object") = some true)
    (osf0 : PySem.W.selfFirst K O0 = true)
    (ocd0 : PySem.W.clsIn K O0 = some cdo0)
    (omr0 : cdo0.mro = [.ref O0, .type "object"])
    (one0 : PySem.W.findIn K (.ref O0) "__ne__" = some (some (.builtin "object.__ne__")))
    (ona_digit0 : PySem.W.findIn K (.ref O0) "_digit" = some none)
    (onfstr0 : PySem.W.notFirst K O0 (.type "str") = true)
    (onfint0 : PySem.W.notFirst K O0 (.type "int") = true)
    (ord0 : PySem.W.readsIn K O0 (.type "type") = true)
    (org0 : PySem.W.specialIn K (.ref O0) "__getattribute__" = some (some (.builtin "type.__getattribute__")))
    (oic0 : PySem.W.isClsIn K O0 = true)
    (oyt0 : PySem.W.typeIn K (.ref O0) = some (.type "type"))
    (oktstr0 : PySem.W.subIn K (.type "str") (.ref O0) = some false)
    (oktint0 : PySem.W.subIn K (.type "int") (.ref O0) = some false)
    (a0 : PySem.W.nsIn K mainGlobals "is_integer" = some (some (.ref f0)))
    (l0 : K.lookup f0 = some ⟨oc0, od0, .func (PySem.W.fnOf "is_integer" "is_integer" (defArgs s_is_integer) (defBody s_is_integer) (defScope s_is_integer) .none kV0 dc0 pm0 an0 cd0 ct0), sl0⟩)
    (c0 : PySem.W.codeIn K cd0 "is_integer" = true) (k0 : PySem.W.keepIn K (.ref f0) = true)
    (a1 : PySem.W.nsIn K mainGlobals "as_rights" = some (some (.ref f1)))
    (l1 : K.lookup f1 = some ⟨oc1, od1, .func (PySem.W.fnOf "as_rights" "as_rights" (defArgs s_as_rights) (defBody s_as_rights) (defScope s_as_rights) .none kV1 dc1 pm1 an1 cd1 ct1), sl1⟩)
    (c1 : PySem.W.codeIn K cd1 "as_rights" = true) (k1 : PySem.W.keepIn K (.ref f1) = true)
    (a2 : PySem.W.nsIn K mainGlobals "_is_letters" = some (some (.ref f2)))
    (l2 : K.lookup f2 = some ⟨oc2, od2, .func (PySem.W.fnOf "_is_letters" "_is_letters" (defArgs s__is_letters) (defBody s__is_letters) (defScope s__is_letters) .none kV2 dc2 pm2 an2 cd2 ct2), sl2⟩)
    (c2 : PySem.W.codeIn K cd2 "_is_letters" = true) (k2 : PySem.W.keepIn K (.ref f2) = true)
    (a3 : PySem.W.nsIn K mainGlobals "_digit_of" = some (some (.ref f3)))
    (l3 : K.lookup f3 = some ⟨oc3, od3, .func (PySem.W.fnOf "_digit_of" "_digit_of" (defArgs s__digit_of) (defBody s__digit_of) (defScope s__digit_of) .none kV3 dc3 pm3 an3 cd3 ct3), sl3⟩)
    (c3 : PySem.W.codeIn K cd3 "_digit_of" = true) (k3 : PySem.W.keepIn K (.ref f3) = true)
    (a4 : PySem.W.nsIn K mainGlobals "_law_cell" = some (some (.ref f4)))
    (l4 : K.lookup f4 = some ⟨oc4, od4, .func (PySem.W.fnOf "_law_cell" "_law_cell" (defArgs s_cell) (defBody s_cell) (defScope s_cell) .none kV4 dc4 pm4 an4 cd4 ct4), sl4⟩)
    (c4 : PySem.W.codeIn K cd4 "_law_cell" = true) (k4 : PySem.W.keepIn K (.ref f4) = true)
    (a5 : PySem.W.nsIn K mainGlobals "_law_box" = some (some (.ref f5)))
    (l5 : K.lookup f5 = some ⟨oc5, od5, .func (PySem.W.fnOf "_law_box" "_law_box" (defArgs s_box) (defBody s_box) (defScope s_box) .none kV5 dc5 pm5 an5 cd5 ct5), sl5⟩)
    (c5 : PySem.W.codeIn K cd5 "_law_box" = true) (k5 : PySem.W.keepIn K (.ref f5) = true)
    (a6 : PySem.W.nsIn K mainGlobals "_law_take" = some (some (.ref f6)))
    (l6 : K.lookup f6 = some ⟨oc6, od6, .func (PySem.W.fnOf "_law_take" "_law_take" (defArgs s_take) (defBody s_take) (defScope s_take) .none kV6 dc6 pm6 an6 cd6 ct6), sl6⟩)
    (c6 : PySem.W.codeIn K cd6 "_law_take" = true) (k6 : PySem.W.keepIn K (.ref f6) = true)
    (a7 : PySem.W.nsIn K mainGlobals "_law_made" = some (some (.ref f7)))
    (l7 : K.lookup f7 = some ⟨oc7, od7, .func (PySem.W.fnOf "_law_made" "_law_made" (defArgs s_made) (defBody s_made) (defScope s_made) .none kV7 dc7 pm7 an7 cd7 ct7), sl7⟩)
    (c7 : PySem.W.codeIn K cd7 "_law_made" = true) (k7 : PySem.W.keepIn K (.ref f7) = true)
    (a8 : PySem.W.nsIn K mainGlobals "_law_step" = some (some (.ref f8)))
    (l8 : K.lookup f8 = some ⟨oc8, od8, .func (PySem.W.fnOf "_law_step" "_law_step" (defArgs s_step) (defBody s_step) (defScope s_step) .none kV8 dc8 pm8 an8 cd8 ct8), sl8⟩)
    (c8 : PySem.W.codeIn K cd8 "_law_step" = true) (k8 : PySem.W.keepIn K (.ref f8) = true)
    (a9 : PySem.W.nsIn K mainGlobals "_law_pair_right" = some (some (.ref f9)))
    (l9 : K.lookup f9 = some ⟨oc9, od9, .func (PySem.W.fnOf "_law_pair_right" "_law_pair_right" (defArgs s_pair_right) (defBody s_pair_right) (defScope s_pair_right) .none kV9 dc9 pm9 an9 cd9 ct9), sl9⟩)
    (c9 : PySem.W.codeIn K cd9 "_law_pair_right" = true) (k9 : PySem.W.keepIn K (.ref f9) = true)
    (a10 : PySem.W.nsIn K mainGlobals "law" = some (some (.ref f10)))
    (l10 : K.lookup f10 = some ⟨oc10, od10, .func (PySem.W.fnOf "law" "law" (defArgs s_law) (defBody s_law) (defScope s_law) .none kV10 dc10 pm10 an10 cd10 ct10), sl10⟩)
    (c10 : PySem.W.codeIn K cd10 "law" = true) (k10 : PySem.W.keepIn K (.ref f10) = true)
    (a11 : PySem.W.findIn K (.ref O0) "__init__" = some (some (.ref f11)))
    (t11 : PySem.W.isFn K (.ref f11) = true)
    (l11 : K.lookup f11 = some ⟨oc11, od11, .func (PySem.W.fnOf "__init__" "Rights.__init__" (defArgs s_Rights___init__) (defBody s_Rights___init__) (defScope s_Rights___init__) (.ref DT11) kV11 dc11 pm11 an11 cd11 ct11), sl11⟩)
    (c11 : PySem.W.codeIn K cd11 "Rights.__init__" = true)
    (k11 : PySem.W.keepIn K (.ref f11) = true)
    (dl11 : K.lookup DT11 = some dto11)
    (dd11 : dto11.data = .seq dti11.toArray dtn11)
    (dv11 : Vals [.str ""] dti11)
    (a12 : PySem.W.findCls K (.ref O0) (.type "type") "of" = some (PySem.W.CFound.get (.builtin "classmethod.__get__") (.ref P12) .none (.ref O0)))
    (px12 : PySem.W.recIn K P12 "classmethod" = some (.ref f12 :: pr12))
    (pf12 : PySem.W.fnIn K f12 = true)
    (l12 : K.lookup f12 = some ⟨oc12, od12, .func (PySem.W.fnOf "of" "Rights.of" (defArgs s_Rights_of) (defBody s_Rights_of) (defScope s_Rights_of) .none kV12 dc12 pm12 an12 cd12 ct12), sl12⟩)
    (c12 : PySem.W.codeIn K cd12 "Rights.of" = true)
    (k12 : PySem.W.keepIn K (.ref f12) = true)
    (a13 : PySem.W.findCls K (.ref O0) (.type "type") "from_digit" = some (PySem.W.CFound.get (.builtin "classmethod.__get__") (.ref P13) .none (.ref O0)))
    (px13 : PySem.W.recIn K P13 "classmethod" = some (.ref f13 :: pr13))
    (pf13 : PySem.W.fnIn K f13 = true)
    (l13 : K.lookup f13 = some ⟨oc13, od13, .func (PySem.W.fnOf "from_digit" "Rights.from_digit" (defArgs s_Rights_from_digit) (defBody s_Rights_from_digit) (defScope s_Rights_from_digit) .none kV13 dc13 pm13 an13 cd13 ct13), sl13⟩)
    (c13 : PySem.W.codeIn K cd13 "Rights.from_digit" = true)
    (k13 : PySem.W.keepIn K (.ref f13) = true)
    (a14 : PySem.W.findIn K (.ref O0) "digit" = some (some (.ref P14)))
    (pg14 : PySem.W.specialIn K (.ref P14) "__get__" = some (some (.builtin "property.__get__")))
    (pt14 : PySem.W.takesIn K (.ref P14) = some true)
    (px14 : PySem.W.recIn K P14 "property" = some (.ref f14 :: pr14))
    (l14 : K.lookup f14 = some ⟨oc14, od14, .func (PySem.W.fnOf "digit" "Rights.digit" (defArgs s_Rights_digit) (defBody s_Rights_digit) (defScope s_Rights_digit) .none kV14 dc14 pm14 an14 cd14 ct14), sl14⟩)
    (c14 : PySem.W.codeIn K cd14 "Rights.digit" = true)
    (k14 : PySem.W.keepIn K (.ref f14) = true)
    (a15 : PySem.W.findIn K (.ref O0) "listed" = some (some (.ref f15)))
    (t15 : PySem.W.isFn K (.ref f15) = true)
    (l15 : K.lookup f15 = some ⟨oc15, od15, .func (PySem.W.fnOf "listed" "Rights.listed" (defArgs s_Rights_listed) (defBody s_Rights_listed) (defScope s_Rights_listed) .none kV15 dc15 pm15 an15 cd15 ct15), sl15⟩)
    (c15 : PySem.W.codeIn K cd15 "Rights.listed" = true)
    (k15 : PySem.W.keepIn K (.ref f15) = true)
    (a16 : PySem.W.findIn K (.ref O0) "covers" = some (some (.ref f16)))
    (t16 : PySem.W.isFn K (.ref f16) = true)
    (l16 : K.lookup f16 = some ⟨oc16, od16, .func (PySem.W.fnOf "covers" "Rights.covers" (defArgs s_Rights_covers) (defBody s_Rights_covers) (defScope s_Rights_covers) .none kV16 dc16 pm16 an16 cd16 ct16), sl16⟩)
    (c16 : PySem.W.codeIn K cd16 "Rights.covers" = true)
    (k16 : PySem.W.keepIn K (.ref f16) = true)
    (a17 : PySem.W.findIn K (.ref O0) "__or__" = some (some (.ref f17)))
    (t17 : PySem.W.isFn K (.ref f17) = true)
    (l17 : K.lookup f17 = some ⟨oc17, od17, .func (PySem.W.fnOf "__or__" "Rights.__or__" (defArgs s_Rights___or__) (defBody s_Rights___or__) (defScope s_Rights___or__) .none kV17 dc17 pm17 an17 cd17 ct17), sl17⟩)
    (c17 : PySem.W.codeIn K cd17 "Rights.__or__" = true)
    (k17 : PySem.W.keepIn K (.ref f17) = true)
    (a18 : PySem.W.findIn K (.ref O0) "__and__" = some (some (.ref f18)))
    (t18 : PySem.W.isFn K (.ref f18) = true)
    (l18 : K.lookup f18 = some ⟨oc18, od18, .func (PySem.W.fnOf "__and__" "Rights.__and__" (defArgs s_Rights___and__) (defBody s_Rights___and__) (defScope s_Rights___and__) .none kV18 dc18 pm18 an18 cd18 ct18), sl18⟩)
    (c18 : PySem.W.codeIn K cd18 "Rights.__and__" = true)
    (k18 : PySem.W.keepIn K (.ref f18) = true)
    (a19 : PySem.W.findIn K (.ref O0) "__sub__" = some (some (.ref f19)))
    (t19 : PySem.W.isFn K (.ref f19) = true)
    (l19 : K.lookup f19 = some ⟨oc19, od19, .func (PySem.W.fnOf "__sub__" "Rights.__sub__" (defArgs s_Rights___sub__) (defBody s_Rights___sub__) (defScope s_Rights___sub__) .none kV19 dc19 pm19 an19 cd19 ct19), sl19⟩)
    (c19 : PySem.W.codeIn K cd19 "Rights.__sub__" = true)
    (k19 : PySem.W.keepIn K (.ref f19) = true)
    (a20 : PySem.W.findIn K (.ref O0) "__xor__" = some (some (.ref f20)))
    (t20 : PySem.W.isFn K (.ref f20) = true)
    (l20 : K.lookup f20 = some ⟨oc20, od20, .func (PySem.W.fnOf "__xor__" "Rights.__xor__" (defArgs s_Rights___xor__) (defBody s_Rights___xor__) (defScope s_Rights___xor__) .none kV20 dc20 pm20 an20 cd20 ct20), sl20⟩)
    (c20 : PySem.W.codeIn K cd20 "Rights.__xor__" = true)
    (k20 : PySem.W.keepIn K (.ref f20) = true)
    (a21 : PySem.W.findIn K (.ref O0) "__invert__" = some (some (.ref f21)))
    (t21 : PySem.W.isFn K (.ref f21) = true)
    (l21 : K.lookup f21 = some ⟨oc21, od21, .func (PySem.W.fnOf "__invert__" "Rights.__invert__" (defArgs s_Rights___invert__) (defBody s_Rights___invert__) (defScope s_Rights___invert__) .none kV21 dc21 pm21 an21 cd21 ct21), sl21⟩)
    (c21 : PySem.W.codeIn K cd21 "Rights.__invert__" = true)
    (k21 : PySem.W.keepIn K (.ref f21) = true)
    (a22 : PySem.W.findIn K (.ref O0) "__eq__" = some (some (.ref f22)))
    (t22 : PySem.W.isFn K (.ref f22) = true)
    (l22 : K.lookup f22 = some ⟨oc22, od22, .func (PySem.W.fnOf "__eq__" "Rights.__eq__" (defArgs s_Rights___eq__) (defBody s_Rights___eq__) (defScope s_Rights___eq__) .none kV22 dc22 pm22 an22 cd22 ct22), sl22⟩)
    (c22 : PySem.W.codeIn K cd22 "Rights.__eq__" = true)
    (k22 : PySem.W.keepIn K (.ref f22) = true)
    (a23 : PySem.W.findIn K (.ref O0) "__contains__" = some (some (.ref f23)))
    (t23 : PySem.W.isFn K (.ref f23) = true)
    (l23 : K.lookup f23 = some ⟨oc23, od23, .func (PySem.W.fnOf "__contains__" "Rights.__contains__" (defArgs s_Rights___contains__) (defBody s_Rights___contains__) (defScope s_Rights___contains__) .none kV23 dc23 pm23 an23 cd23 ct23), sl23⟩)
    (c23 : PySem.W.codeIn K cd23 "Rights.__contains__" = true)
    (k23 : PySem.W.keepIn K (.ref f23) = true)
    (a24 : PySem.W.findIn K (.ref O0) "__len__" = some (some (.ref f24)))
    (t24 : PySem.W.isFn K (.ref f24) = true)
    (l24 : K.lookup f24 = some ⟨oc24, od24, .func (PySem.W.fnOf "__len__" "Rights.__len__" (defArgs s_Rights___len__) (defBody s_Rights___len__) (defScope s_Rights___len__) .none kV24 dc24 pm24 an24 cd24 ct24), sl24⟩)
    (c24 : PySem.W.codeIn K cd24 "Rights.__len__" = true)
    (k24 : PySem.W.keepIn K (.ref f24) = true)
    (a25 : PySem.W.findIn K (.ref O0) "__bool__" = some (some (.ref f25)))
    (t25 : PySem.W.isFn K (.ref f25) = true)
    (l25 : K.lookup f25 = some ⟨oc25, od25, .func (PySem.W.fnOf "__bool__" "Rights.__bool__" (defArgs s_Rights___bool__) (defBody s_Rights___bool__) (defScope s_Rights___bool__) .none kV25 dc25 pm25 an25 cd25 ct25), sl25⟩)
    (c25 : PySem.W.codeIn K cd25 "Rights.__bool__" = true)
    (k25 : PySem.W.keepIn K (.ref f25) = true)
    (q0 : PySem.W.nsIn K mainGlobals "LETTERS" = some (some (.str "rwx" tc0)))
    (q1 : PySem.W.nsIn K mainGlobals "ALL_DIGIT" = some (some (.int 7 tc1)))
    (q2 : PySem.W.nsIn K mainGlobals "DIGITS" = some (some (.ref KD2)))
    (kl2 : K.lookup KD2 = some ⟨.type "dict", none, .dict kes2 ken2, #[]⟩)
    (ky2 : PySem.W.KeysLit w.params kes2.toList)
    (ks2 : (KD2 == sysModules) = false)
    (kv2_0 : PySem.W.nsIn K KD2 "" = some (some (.int 0 kt2_0)))
    (kv2_1 : PySem.W.nsIn K KD2 "x" = some (some (.int 1 kt2_1)))
    (kv2_2 : PySem.W.nsIn K KD2 "w" = some (some (.int 2 kt2_2)))
    (kv2_3 : PySem.W.nsIn K KD2 "wx" = some (some (.int 3 kt2_3)))
    (kv2_4 : PySem.W.nsIn K KD2 "xw" = some (some (.int 3 kt2_4)))
    (kv2_5 : PySem.W.nsIn K KD2 "r" = some (some (.int 4 kt2_5)))
    (kv2_6 : PySem.W.nsIn K KD2 "rx" = some (some (.int 5 kt2_6)))
    (kv2_7 : PySem.W.nsIn K KD2 "xr" = some (some (.int 5 kt2_7)))
    (kv2_8 : PySem.W.nsIn K KD2 "rw" = some (some (.int 6 kt2_8)))
    (kv2_9 : PySem.W.nsIn K KD2 "wr" = some (some (.int 6 kt2_9)))
    (kv2_10 : PySem.W.nsIn K KD2 "rwx" = some (some (.int 7 kt2_10)))
    (kv2_11 : PySem.W.nsIn K KD2 "rxw" = some (some (.int 7 kt2_11)))
    (kv2_12 : PySem.W.nsIn K KD2 "wrx" = some (some (.int 7 kt2_12)))
    (kv2_13 : PySem.W.nsIn K KD2 "wxr" = some (some (.int 7 kt2_13)))
    (kv2_14 : PySem.W.nsIn K KD2 "xrw" = some (some (.int 7 kt2_14)))
    (kv2_15 : PySem.W.nsIn K KD2 "xwr" = some (some (.int 7 kt2_15)))
    (q3 : PySem.W.nsIn K mainGlobals "WORDS" = some (some (.ref KD3)))
    (kl3 : K.lookup KD3 = some kto3)
    (ku3 : kto3.cls = .type "tuple")
    (kd3 : kto3.data = .seq kti3 ktn3)
    (kz3 : kti3.size ≤ sizeLine)
    (kv3 : Vals [.str "", .str "x", .str "w", .str "wx", .str "r", .str "rx", .str "rw", .str "rwx"] kti3.toList)
    (z0 : PySem.W.nsIn K mainGlobals "bool" = some none)
    (z1 : PySem.W.nsIn K mainGlobals "int" = some none)
    (z2 : PySem.W.nsIn K mainGlobals "isinstance" = some none)
    (z3 : PySem.W.nsIn K mainGlobals "len" = some none)
    (z4 : PySem.W.nsIn K mainGlobals "list" = some none)
    (z5 : PySem.W.nsIn K mainGlobals "max" = some none)
    (z6 : PySem.W.nsIn K mainGlobals "min" = some none)
    (z7 : PySem.W.nsIn K mainGlobals "range" = some none)
    (z8 : PySem.W.nsIn K mainGlobals "repr" = some none)
    (z9 : PySem.W.nsIn K mainGlobals "str" = some none)
    (z10 : PySem.W.nsIn K mainGlobals "sum" = some none) :
    ∀ base : Heap, K.In base → base.Ns mainGlobals mg → FnG P w K mg base CX0 10 fa (spLaw K) := by
  have e := hfa.symm.trans (PySem.W.mg_of X G a10)
  cases e
  let A : Ads := {
    C_Rights := O0
    f_is_integer := f0
    d_is_integer := PySem.W.fnOf "is_integer" "is_integer" (defArgs s_is_integer) (defBody s_is_integer) (defScope s_is_integer) .none kV0 dc0 pm0 an0 cd0 ct0
    f_as_rights := f1
    d_as_rights := PySem.W.fnOf "as_rights" "as_rights" (defArgs s_as_rights) (defBody s_as_rights) (defScope s_as_rights) .none kV1 dc1 pm1 an1 cd1 ct1
    f__is_letters := f2
    d__is_letters := PySem.W.fnOf "_is_letters" "_is_letters" (defArgs s__is_letters) (defBody s__is_letters) (defScope s__is_letters) .none kV2 dc2 pm2 an2 cd2 ct2
    f__digit_of := f3
    d__digit_of := PySem.W.fnOf "_digit_of" "_digit_of" (defArgs s__digit_of) (defBody s__digit_of) (defScope s__digit_of) .none kV3 dc3 pm3 an3 cd3 ct3
    f_cell := f4
    d_cell := PySem.W.fnOf "_law_cell" "_law_cell" (defArgs s_cell) (defBody s_cell) (defScope s_cell) .none kV4 dc4 pm4 an4 cd4 ct4
    f_box := f5
    d_box := PySem.W.fnOf "_law_box" "_law_box" (defArgs s_box) (defBody s_box) (defScope s_box) .none kV5 dc5 pm5 an5 cd5 ct5
    f_take := f6
    d_take := PySem.W.fnOf "_law_take" "_law_take" (defArgs s_take) (defBody s_take) (defScope s_take) .none kV6 dc6 pm6 an6 cd6 ct6
    f_made := f7
    d_made := PySem.W.fnOf "_law_made" "_law_made" (defArgs s_made) (defBody s_made) (defScope s_made) .none kV7 dc7 pm7 an7 cd7 ct7
    f_step := f8
    d_step := PySem.W.fnOf "_law_step" "_law_step" (defArgs s_step) (defBody s_step) (defScope s_step) .none kV8 dc8 pm8 an8 cd8 ct8
    f_pair_right := f9
    d_pair_right := PySem.W.fnOf "_law_pair_right" "_law_pair_right" (defArgs s_pair_right) (defBody s_pair_right) (defScope s_pair_right) .none kV9 dc9 pm9 an9 cd9 ct9
    f_law := fa
    d_law := PySem.W.fnOf "law" "law" (defArgs s_law) (defBody s_law) (defScope s_law) .none kV10 dc10 pm10 an10 cd10 ct10
    f_Rights___init__ := f11
    d_Rights___init__ := PySem.W.fnOf "__init__" "Rights.__init__" (defArgs s_Rights___init__) (defBody s_Rights___init__) (defScope s_Rights___init__) (.ref DT11) kV11 dc11 pm11 an11 cd11 ct11
    f_Rights_of := f12
    d_Rights_of := PySem.W.fnOf "of" "Rights.of" (defArgs s_Rights_of) (defBody s_Rights_of) (defScope s_Rights_of) .none kV12 dc12 pm12 an12 cd12 ct12
    P_Rights_of := P12
    f_Rights_from_digit := f13
    d_Rights_from_digit := PySem.W.fnOf "from_digit" "Rights.from_digit" (defArgs s_Rights_from_digit) (defBody s_Rights_from_digit) (defScope s_Rights_from_digit) .none kV13 dc13 pm13 an13 cd13 ct13
    P_Rights_from_digit := P13
    f_Rights_digit := f14
    d_Rights_digit := PySem.W.fnOf "digit" "Rights.digit" (defArgs s_Rights_digit) (defBody s_Rights_digit) (defScope s_Rights_digit) .none kV14 dc14 pm14 an14 cd14 ct14
    P_Rights_digit := P14
    f_Rights_listed := f15
    d_Rights_listed := PySem.W.fnOf "listed" "Rights.listed" (defArgs s_Rights_listed) (defBody s_Rights_listed) (defScope s_Rights_listed) .none kV15 dc15 pm15 an15 cd15 ct15
    f_Rights_covers := f16
    d_Rights_covers := PySem.W.fnOf "covers" "Rights.covers" (defArgs s_Rights_covers) (defBody s_Rights_covers) (defScope s_Rights_covers) .none kV16 dc16 pm16 an16 cd16 ct16
    f_Rights___or__ := f17
    d_Rights___or__ := PySem.W.fnOf "__or__" "Rights.__or__" (defArgs s_Rights___or__) (defBody s_Rights___or__) (defScope s_Rights___or__) .none kV17 dc17 pm17 an17 cd17 ct17
    f_Rights___and__ := f18
    d_Rights___and__ := PySem.W.fnOf "__and__" "Rights.__and__" (defArgs s_Rights___and__) (defBody s_Rights___and__) (defScope s_Rights___and__) .none kV18 dc18 pm18 an18 cd18 ct18
    f_Rights___sub__ := f19
    d_Rights___sub__ := PySem.W.fnOf "__sub__" "Rights.__sub__" (defArgs s_Rights___sub__) (defBody s_Rights___sub__) (defScope s_Rights___sub__) .none kV19 dc19 pm19 an19 cd19 ct19
    f_Rights___xor__ := f20
    d_Rights___xor__ := PySem.W.fnOf "__xor__" "Rights.__xor__" (defArgs s_Rights___xor__) (defBody s_Rights___xor__) (defScope s_Rights___xor__) .none kV20 dc20 pm20 an20 cd20 ct20
    f_Rights___invert__ := f21
    d_Rights___invert__ := PySem.W.fnOf "__invert__" "Rights.__invert__" (defArgs s_Rights___invert__) (defBody s_Rights___invert__) (defScope s_Rights___invert__) .none kV21 dc21 pm21 an21 cd21 ct21
    f_Rights___eq__ := f22
    d_Rights___eq__ := PySem.W.fnOf "__eq__" "Rights.__eq__" (defArgs s_Rights___eq__) (defBody s_Rights___eq__) (defScope s_Rights___eq__) .none kV22 dc22 pm22 an22 cd22 ct22
    f_Rights___contains__ := f23
    d_Rights___contains__ := PySem.W.fnOf "__contains__" "Rights.__contains__" (defArgs s_Rights___contains__) (defBody s_Rights___contains__) (defScope s_Rights___contains__) .none kV23 dc23 pm23 an23 cd23 ct23
    f_Rights___len__ := f24
    d_Rights___len__ := PySem.W.fnOf "__len__" "Rights.__len__" (defArgs s_Rights___len__) (defBody s_Rights___len__) (defScope s_Rights___len__) .none kV24 dc24 pm24 an24 cd24 ct24
    f_Rights___bool__ := f25
    d_Rights___bool__ := PySem.W.fnOf "__bool__" "Rights.__bool__" (defArgs s_Rights___bool__) (defBody s_Rights___bool__) (defScope s_Rights___bool__) .none kV25 dc25 pm25 an25 cd25 ct25
    K_DIGITS := KD2
    K_WORDS := KD3 }
  have T : Txt w K mg A := {
    cr_Rights := ⟨ord0, org0⟩
    gC_Rights := PySem.W.mg_of X G oa0
    c_Rights := ⟨_, PySem.W.mg_of X G oa0, rfl⟩
    cl_Rights := ⟨opg0, ohd0, opo0, osa0⟩
    in_Rights := ⟨⟨opg0, ohd0, opo0, osa0⟩, oca0, ocn0, oct0, ocm0, by unfold PySem.W.kitOne; simp⟩
    sf_Rights := osf0
    cd_Rights := ⟨_, ocd0, omr0⟩
    ne_Rights := one0
    na_Rights__digit := ona_digit0
    nf_Rights_str := onfstr0
    nf_Rights_int := onfint0
    kt_Rights_str := kit_ofT oic0 oyt0 oktstr0
    kt_Rights_int := kit_ofT oic0 oyt0 oktint0
    F_is_integer := fun_mk l0 c0 k0
    B_is_integer := (fun_mk (st := s_is_integer) l0 c0 k0).binds (ps := ["value", "low", "high"]) fun _ _ _ _ _ _ us hl => match us, hl with | [_, _, _], _ => rfl
    g_is_integer := PySem.W.mg_of X G a0
    F_as_rights := fun_mk l1 c1 k1
    B_as_rights := (fun_mk (st := s_as_rights) l1 c1 k1).binds (ps := ["value"]) fun _ _ _ _ _ _ us hl => match us, hl with | [_], _ => rfl
    g_as_rights := PySem.W.mg_of X G a1
    F__is_letters := fun_mk l2 c2 k2
    B__is_letters := (fun_mk (st := s__is_letters) l2 c2 k2).binds (ps := ["value"]) fun _ _ _ _ _ _ us hl => match us, hl with | [_], _ => rfl
    g__is_letters := PySem.W.mg_of X G a2
    F__digit_of := fun_mk l3 c3 k3
    B__digit_of := (fun_mk (st := s__digit_of) l3 c3 k3).binds (ps := ["value"]) fun _ _ _ _ _ _ us hl => match us, hl with | [_], _ => rfl
    g__digit_of := PySem.W.mg_of X G a3
    F_cell := fun_mk l4 c4 k4
    B_cell := (fun_mk (st := s_cell) l4 c4 k4).binds (ps := ["_law_script", "_law_k"]) fun _ _ _ _ _ _ us hl => match us, hl with | [_, _], _ => rfl
    g_cell := PySem.W.mg_of X G a4
    F_box := fun_mk l5 c5 k5
    B_box := (fun_mk (st := s_box) l5 c5 k5).binds (ps := ["_law_cell_here"]) fun _ _ _ _ _ _ us hl => match us, hl with | [_], _ => rfl
    g_box := PySem.W.mg_of X G a5
    F_take := fun_mk l6 c6 k6
    B_take := (fun_mk (st := s_take) l6 c6 k6).binds (ps := ["_law_box_here", "_law_many"]) fun _ _ _ _ _ _ us hl => match us, hl with | [_, _], _ => rfl
    g_take := PySem.W.mg_of X G a6
    F_made := fun_mk l7 c7 k7
    B_made := (fun_mk (st := s_made) l7 c7 k7).binds (ps := ["_law_box_here", "_law_digit"]) fun _ _ _ _ _ _ us hl => match us, hl with | [_, _], _ => rfl
    g_made := PySem.W.mg_of X G a7
    F_step := fun_mk l8 c8 k8
    B_step := (fun_mk (st := s_step) l8 c8 k8).binds (ps := ["_law_box_here", "_law_known"]) fun _ _ _ _ _ _ us hl => match us, hl with | [_, _], _ => rfl
    g_step := PySem.W.mg_of X G a8
    F_pair_right := fun_mk l9 c9 k9
    B_pair_right := (fun_mk (st := s_pair_right) l9 c9 k9).binds (ps := ["_law_one", "_law_a", "_law_other", "_law_b"]) fun _ _ _ _ _ _ us hl => match us, hl with | [_, _, _, _], _ => rfl
    g_pair_right := PySem.W.mg_of X G a9
    F_law := fun_mk l10 c10 k10
    B_law := (fun_mk (st := s_law) l10 c10 k10).binds (ps := ["_law_script"]) fun _ _ _ _ _ _ us hl => match us, hl with | [_], _ => rfl
    g_law := PySem.W.mg_of X G a10
    F_Rights___init__ := ⟨⟨oc11, od11, .ref DT11, kV11, dc11, pm11, an11, cd11, ct11, sl11, rfl, l11, c11, .inr ⟨by simp, DT11, dto11, dti11, dtn11, rfl, dl11, dd11, dv11⟩, .inl rfl⟩, k11⟩
    me_Rights___init__ := ⟨a11, t11, k11⟩
    mk_Rights := ⟨omk0, a11, t11, okc0⟩
    F_Rights_of := fun_mk l12 c12 k12
    cm_Rights_of := ⟨a12, ⟨_, px12⟩, pf12⟩
    F_Rights_from_digit := fun_mk l13 c13 k13
    B_Rights_from_digit := (fun_mk (st := s_Rights_from_digit) l13 c13 k13).binds (ps := ["cls", "digit"]) fun _ _ _ _ _ _ us hl => match us, hl with | [_, _], _ => rfl
    cm_Rights_from_digit := ⟨a13, ⟨_, px13⟩, pf13⟩
    F_Rights_digit := fun_mk l14 c14 k14
    B_Rights_digit := (fun_mk (st := s_Rights_digit) l14 c14 k14).binds (ps := ["self"]) fun _ _ _ _ _ _ us hl => match us, hl with | [_], _ => rfl
    pr_Rights_digit := ⟨a14, pg14, pt14, _, px14⟩
    F_Rights_listed := fun_mk l15 c15 k15
    B_Rights_listed := (fun_mk (st := s_Rights_listed) l15 c15 k15).binds (ps := ["self"]) fun _ _ _ _ _ _ us hl => match us, hl with | [_], _ => rfl
    me_Rights_listed := ⟨a15, t15, k15⟩
    F_Rights_covers := fun_mk l16 c16 k16
    B_Rights_covers := (fun_mk (st := s_Rights_covers) l16 c16 k16).binds (ps := ["self", "other"]) fun _ _ _ _ _ _ us hl => match us, hl with | [_, _], _ => rfl
    me_Rights_covers := ⟨a16, t16, k16⟩
    F_Rights___or__ := fun_mk l17 c17 k17
    B_Rights___or__ := (fun_mk (st := s_Rights___or__) l17 c17 k17).binds (ps := ["self", "other"]) fun _ _ _ _ _ _ us hl => match us, hl with | [_, _], _ => rfl
    me_Rights___or__ := ⟨a17, t17, k17⟩
    F_Rights___and__ := fun_mk l18 c18 k18
    B_Rights___and__ := (fun_mk (st := s_Rights___and__) l18 c18 k18).binds (ps := ["self", "other"]) fun _ _ _ _ _ _ us hl => match us, hl with | [_, _], _ => rfl
    me_Rights___and__ := ⟨a18, t18, k18⟩
    F_Rights___sub__ := fun_mk l19 c19 k19
    B_Rights___sub__ := (fun_mk (st := s_Rights___sub__) l19 c19 k19).binds (ps := ["self", "other"]) fun _ _ _ _ _ _ us hl => match us, hl with | [_, _], _ => rfl
    me_Rights___sub__ := ⟨a19, t19, k19⟩
    F_Rights___xor__ := fun_mk l20 c20 k20
    B_Rights___xor__ := (fun_mk (st := s_Rights___xor__) l20 c20 k20).binds (ps := ["self", "other"]) fun _ _ _ _ _ _ us hl => match us, hl with | [_, _], _ => rfl
    me_Rights___xor__ := ⟨a20, t20, k20⟩
    F_Rights___invert__ := fun_mk l21 c21 k21
    B_Rights___invert__ := (fun_mk (st := s_Rights___invert__) l21 c21 k21).binds (ps := ["self"]) fun _ _ _ _ _ _ us hl => match us, hl with | [_], _ => rfl
    me_Rights___invert__ := ⟨a21, t21, k21⟩
    F_Rights___eq__ := fun_mk l22 c22 k22
    B_Rights___eq__ := (fun_mk (st := s_Rights___eq__) l22 c22 k22).binds (ps := ["self", "other"]) fun _ _ _ _ _ _ us hl => match us, hl with | [_, _], _ => rfl
    me_Rights___eq__ := ⟨a22, t22, k22⟩
    F_Rights___contains__ := fun_mk l23 c23 k23
    B_Rights___contains__ := (fun_mk (st := s_Rights___contains__) l23 c23 k23).binds (ps := ["self", "value"]) fun _ _ _ _ _ _ us hl => match us, hl with | [_, _], _ => rfl
    me_Rights___contains__ := ⟨a23, t23, k23⟩
    F_Rights___len__ := fun_mk l24 c24 k24
    B_Rights___len__ := (fun_mk (st := s_Rights___len__) l24 c24 k24).binds (ps := ["self"]) fun _ _ _ _ _ _ us hl => match us, hl with | [_], _ => rfl
    me_Rights___len__ := ⟨a24, t24, k24⟩
    F_Rights___bool__ := fun_mk l25 c25 k25
    B_Rights___bool__ := (fun_mk (st := s_Rights___bool__) l25 c25 k25).binds (ps := ["self"]) fun _ _ _ _ _ _ us hl => match us, hl with | [_], _ => rfl
    me_Rights___bool__ := ⟨a25, t25, k25⟩
    c_LETTERS := ⟨_, PySem.W.mg_of X G q0, _, rfl⟩
    c_ALL_DIGIT := ⟨_, PySem.W.mg_of X G q1, _, rfl⟩
    c_DIGITS := ⟨_, PySem.W.mg_of X G q2, rfl⟩
    kd_DIGITS := ⟨_, _, kl2, ky2, ks2⟩
    at_DIGITS_ := ⟨_, _, _, kl2, ky2, kv2_0, _, rfl⟩
    at_DIGITS_x := ⟨_, _, _, kl2, ky2, kv2_1, _, rfl⟩
    at_DIGITS_w := ⟨_, _, _, kl2, ky2, kv2_2, _, rfl⟩
    at_DIGITS_wx := ⟨_, _, _, kl2, ky2, kv2_3, _, rfl⟩
    at_DIGITS_xw := ⟨_, _, _, kl2, ky2, kv2_4, _, rfl⟩
    at_DIGITS_r := ⟨_, _, _, kl2, ky2, kv2_5, _, rfl⟩
    at_DIGITS_rx := ⟨_, _, _, kl2, ky2, kv2_6, _, rfl⟩
    at_DIGITS_xr := ⟨_, _, _, kl2, ky2, kv2_7, _, rfl⟩
    at_DIGITS_rw := ⟨_, _, _, kl2, ky2, kv2_8, _, rfl⟩
    at_DIGITS_wr := ⟨_, _, _, kl2, ky2, kv2_9, _, rfl⟩
    at_DIGITS_rwx := ⟨_, _, _, kl2, ky2, kv2_10, _, rfl⟩
    at_DIGITS_rxw := ⟨_, _, _, kl2, ky2, kv2_11, _, rfl⟩
    at_DIGITS_wrx := ⟨_, _, _, kl2, ky2, kv2_12, _, rfl⟩
    at_DIGITS_wxr := ⟨_, _, _, kl2, ky2, kv2_13, _, rfl⟩
    at_DIGITS_xrw := ⟨_, _, _, kl2, ky2, kv2_14, _, rfl⟩
    at_DIGITS_xwr := ⟨_, _, _, kl2, ky2, kv2_15, _, rfl⟩
    c_WORDS := ⟨_, PySem.W.mg_of X G q3, rfl⟩
    tu_WORDS := ⟨_, _, _, kl3, ku3, kd3, kz3, kv3⟩
    b_bool := PySem.W.mg_none_of X G z0
    b_int := PySem.W.mg_none_of X G z1
    b_isinstance := PySem.W.mg_none_of X G z2
    b_len := PySem.W.mg_none_of X G z3
    b_list := PySem.W.mg_none_of X G z4
    b_max := PySem.W.mg_none_of X G z5
    b_min := PySem.W.mg_none_of X G z6
    b_range := PySem.W.mg_none_of X G z7
    b_repr := PySem.W.mg_none_of X G z8
    b_str := PySem.W.mg_none_of X G z9
    b_sum := PySem.W.mg_none_of X G z10 }
  exact fun base _ _ => ok_law T
end K10
open PySem PySem.W PyProof.Rows
set_option maxHeartbeats 0 in
theorem PySem.Challenge.cw_filerights_k10_rights_that_stay_holds : PySem.Challenge.rw_filerights_k10_rights_that_stay.Holds := by
  w_on; o_law; k_head; (case hw => w_witness2)
  k_fill
  refine FR.walk_ofG (l := PySem.Challenge.rw_filerights_k10_rights_that_stay) (n := 63) (k := 10) (sp := fun w => K10.X.spLaw _) rfl (by decide) rfl ⟨rfl, by decide, by decide⟩ (fun w h Y => PySem.W.kIn_of Y) ?F (fun _ _ a ns hl _ hS => ⟨a, ns, rfl, hS, hl, fun _ => rfl⟩)
  case F =>
    intro w mg fa h KX G hmg
    refine' K10.all_mk KX G hmg ?oa0 ?opg0 ?ohd0 ?opo0 ?osa0 ?omk0 ?okc0 ?oca0 ?ocn0 ?oct0 ?ocm0 ?osf0 ?ocd0 ?omr0 ?one0 ?ona_digit0 ?onfstr0 ?onfint0 ?ord0 ?org0 ?oic0 ?oyt0 ?oktstr0 ?oktint0 ?a0 ?l0 ?c0 ?k0 ?a1 ?l1 ?c1 ?k1 ?a2 ?l2 ?c2 ?k2 ?a3 ?l3 ?c3 ?k3 ?a4 ?l4 ?c4 ?k4 ?a5 ?l5 ?c5 ?k5 ?a6 ?l6 ?c6 ?k6 ?a7 ?l7 ?c7 ?k7 ?a8 ?l8 ?c8 ?k8 ?a9 ?l9 ?c9 ?k9 ?a10 ?l10 ?c10 ?k10 ?a11 ?t11 ?l11 ?c11 ?k11 ?dl11 ?dd11 ?dv11 ?a12 ?px12 ?pf12 ?l12 ?c12 ?k12 ?a13 ?px13 ?pf13 ?l13 ?c13 ?k13 ?a14 ?pg14 ?pt14 ?px14 ?l14 ?c14 ?k14 ?a15 ?t15 ?l15 ?c15 ?k15 ?a16 ?t16 ?l16 ?c16 ?k16 ?a17 ?t17 ?l17 ?c17 ?k17 ?a18 ?t18 ?l18 ?c18 ?k18 ?a19 ?t19 ?l19 ?c19 ?k19 ?a20 ?t20 ?l20 ?c20 ?k20 ?a21 ?t21 ?l21 ?c21 ?k21 ?a22 ?t22 ?l22 ?c22 ?k22 ?a23 ?t23 ?l23 ?c23 ?k23 ?a24 ?t24 ?l24 ?c24 ?k24 ?a25 ?t25 ?l25 ?c25 ?k25 ?q0 ?q1 ?q2 ?kl2 ?ky2 ?ks2 ?kv2_0 ?kv2_1 ?kv2_2 ?kv2_3 ?kv2_4 ?kv2_5 ?kv2_6 ?kv2_7 ?kv2_8 ?kv2_9 ?kv2_10 ?kv2_11 ?kv2_12 ?kv2_13 ?kv2_14 ?kv2_15 ?q3 ?kl3 ?ku3 ?kd3 ?kz3 ?kv3 ?z0 ?z1 ?z2 ?z3 ?z4 ?z5 ?z6 ?z7 ?z8 ?z9 ?z10
    (case oa0 => k_is)
    (case opg0 => k_is)
    (case ohd0 => k_is)
    (case opo0 => k_is)
    (case osa0 => k_is)
    (case omk0 => first | k_is | exact (by rfl) | exact FR.size_le (by decide) | decide | (repeat (first | exact True.intro | exact .nil | refine .cons ⟨_, rfl⟩ ?_ | refine ⟨⟨_, _, rfl, rfl⟩, ?_⟩)))
    (case okc0 => k_is)
    (case oca0 => k_is)
    (case ocn0 => k_is)
    (case oct0 => k_is)
    (case ocm0 => k_is)
    (case osf0 => k_is)
    (case ocd0 => k_is)
    (case omr0 => first | k_is | exact (by rfl) | exact FR.size_le (by decide) | decide | (repeat (first | exact True.intro | exact .nil | refine .cons ⟨_, rfl⟩ ?_ | refine ⟨⟨_, _, rfl, rfl⟩, ?_⟩)))
    (case one0 => k_is)
    (case ona_digit0 => k_is)
    (case onfstr0 => k_is)
    (case onfint0 => k_is)
    (case ord0 => k_is)
    (case org0 => k_is)
    (case oic0 => k_is)
    (case oyt0 => k_is)
    (case oktstr0 => k_is)
    (case oktint0 => k_is)
    (case a0 => k_is)
    (case l0 => k_is)
    (case c0 => k_is)
    (case k0 => k_is)
    (case a1 => k_is)
    (case l1 => k_is)
    (case c1 => k_is)
    (case k1 => k_is)
    (case a2 => k_is)
    (case l2 => k_is)
    (case c2 => k_is)
    (case k2 => k_is)
    (case a3 => k_is)
    (case l3 => k_is)
    (case c3 => k_is)
    (case k3 => k_is)
    (case a4 => k_is)
    (case l4 => k_is)
    (case c4 => k_is)
    (case k4 => k_is)
    (case a5 => k_is)
    (case l5 => k_is)
    (case c5 => k_is)
    (case k5 => k_is)
    (case a6 => k_is)
    (case l6 => k_is)
    (case c6 => k_is)
    (case k6 => k_is)
    (case a7 => k_is)
    (case l7 => k_is)
    (case c7 => k_is)
    (case k7 => k_is)
    (case a8 => k_is)
    (case l8 => k_is)
    (case c8 => k_is)
    (case k8 => k_is)
    (case a9 => k_is)
    (case l9 => k_is)
    (case c9 => k_is)
    (case k9 => k_is)
    (case a10 => k_is)
    (case l10 => k_is)
    (case c10 => k_is)
    (case k10 => k_is)
    (case a11 => k_is)
    (case t11 => k_is)
    (case l11 => k_is)
    (case c11 => k_is)
    (case k11 => k_is)
    (case dl11 => k_is)
    (case dd11 => first | k_is | exact (by rfl) | exact FR.size_le (by decide) | decide | (repeat (first | exact True.intro | exact .nil | refine .cons ⟨_, rfl⟩ ?_ | refine ⟨⟨_, _, rfl, rfl⟩, ?_⟩)))
    (case dv11 => first | k_is | exact (by rfl) | exact FR.size_le (by decide) | decide | (repeat (first | exact True.intro | exact .nil | refine .cons ⟨_, rfl⟩ ?_ | refine ⟨⟨_, _, rfl, rfl⟩, ?_⟩)))
    (case a12 => k_is)
    (case px12 => k_is)
    (case pf12 => k_is)
    (case l12 => k_is)
    (case c12 => k_is)
    (case k12 => k_is)
    (case a13 => k_is)
    (case px13 => k_is)
    (case pf13 => k_is)
    (case l13 => k_is)
    (case c13 => k_is)
    (case k13 => k_is)
    (case a14 => k_is)
    (case pg14 => k_is)
    (case pt14 => k_is)
    (case px14 => k_is)
    (case l14 => k_is)
    (case c14 => k_is)
    (case k14 => k_is)
    (case a15 => k_is)
    (case t15 => k_is)
    (case l15 => k_is)
    (case c15 => k_is)
    (case k15 => k_is)
    (case a16 => k_is)
    (case t16 => k_is)
    (case l16 => k_is)
    (case c16 => k_is)
    (case k16 => k_is)
    (case a17 => k_is)
    (case t17 => k_is)
    (case l17 => k_is)
    (case c17 => k_is)
    (case k17 => k_is)
    (case a18 => k_is)
    (case t18 => k_is)
    (case l18 => k_is)
    (case c18 => k_is)
    (case k18 => k_is)
    (case a19 => k_is)
    (case t19 => k_is)
    (case l19 => k_is)
    (case c19 => k_is)
    (case k19 => k_is)
    (case a20 => k_is)
    (case t20 => k_is)
    (case l20 => k_is)
    (case c20 => k_is)
    (case k20 => k_is)
    (case a21 => k_is)
    (case t21 => k_is)
    (case l21 => k_is)
    (case c21 => k_is)
    (case k21 => k_is)
    (case a22 => k_is)
    (case t22 => k_is)
    (case l22 => k_is)
    (case c22 => k_is)
    (case k22 => k_is)
    (case a23 => k_is)
    (case t23 => k_is)
    (case l23 => k_is)
    (case c23 => k_is)
    (case k23 => k_is)
    (case a24 => k_is)
    (case t24 => k_is)
    (case l24 => k_is)
    (case c24 => k_is)
    (case k24 => k_is)
    (case a25 => k_is)
    (case t25 => k_is)
    (case l25 => k_is)
    (case c25 => k_is)
    (case k25 => k_is)
    (case q0 => k_is)
    (case q1 => k_is)
    (case q2 => k_is)
    (case kl2 => k_is)
    (case ky2 => first | k_is | exact (by rfl) | exact FR.size_le (by decide) | decide | (repeat (first | exact True.intro | exact .nil | refine .cons ⟨_, rfl⟩ ?_ | refine ⟨⟨_, _, rfl, rfl⟩, ?_⟩)))
    (case ks2 => first | k_is | exact (by rfl) | exact FR.size_le (by decide) | decide | (repeat (first | exact True.intro | exact .nil | refine .cons ⟨_, rfl⟩ ?_ | refine ⟨⟨_, _, rfl, rfl⟩, ?_⟩)))
    (case kv2_0 => first | k_is | exact (by rfl) | exact FR.size_le (by decide) | decide | (repeat (first | exact True.intro | exact .nil | refine .cons ⟨_, rfl⟩ ?_ | refine ⟨⟨_, _, rfl, rfl⟩, ?_⟩)))
    (case kv2_1 => first | k_is | exact (by rfl) | exact FR.size_le (by decide) | decide | (repeat (first | exact True.intro | exact .nil | refine .cons ⟨_, rfl⟩ ?_ | refine ⟨⟨_, _, rfl, rfl⟩, ?_⟩)))
    (case kv2_2 => first | k_is | exact (by rfl) | exact FR.size_le (by decide) | decide | (repeat (first | exact True.intro | exact .nil | refine .cons ⟨_, rfl⟩ ?_ | refine ⟨⟨_, _, rfl, rfl⟩, ?_⟩)))
    (case kv2_3 => first | k_is | exact (by rfl) | exact FR.size_le (by decide) | decide | (repeat (first | exact True.intro | exact .nil | refine .cons ⟨_, rfl⟩ ?_ | refine ⟨⟨_, _, rfl, rfl⟩, ?_⟩)))
    (case kv2_4 => first | k_is | exact (by rfl) | exact FR.size_le (by decide) | decide | (repeat (first | exact True.intro | exact .nil | refine .cons ⟨_, rfl⟩ ?_ | refine ⟨⟨_, _, rfl, rfl⟩, ?_⟩)))
    (case kv2_5 => first | k_is | exact (by rfl) | exact FR.size_le (by decide) | decide | (repeat (first | exact True.intro | exact .nil | refine .cons ⟨_, rfl⟩ ?_ | refine ⟨⟨_, _, rfl, rfl⟩, ?_⟩)))
    (case kv2_6 => first | k_is | exact (by rfl) | exact FR.size_le (by decide) | decide | (repeat (first | exact True.intro | exact .nil | refine .cons ⟨_, rfl⟩ ?_ | refine ⟨⟨_, _, rfl, rfl⟩, ?_⟩)))
    (case kv2_7 => first | k_is | exact (by rfl) | exact FR.size_le (by decide) | decide | (repeat (first | exact True.intro | exact .nil | refine .cons ⟨_, rfl⟩ ?_ | refine ⟨⟨_, _, rfl, rfl⟩, ?_⟩)))
    (case kv2_8 => first | k_is | exact (by rfl) | exact FR.size_le (by decide) | decide | (repeat (first | exact True.intro | exact .nil | refine .cons ⟨_, rfl⟩ ?_ | refine ⟨⟨_, _, rfl, rfl⟩, ?_⟩)))
    (case kv2_9 => first | k_is | exact (by rfl) | exact FR.size_le (by decide) | decide | (repeat (first | exact True.intro | exact .nil | refine .cons ⟨_, rfl⟩ ?_ | refine ⟨⟨_, _, rfl, rfl⟩, ?_⟩)))
    (case kv2_10 => first | k_is | exact (by rfl) | exact FR.size_le (by decide) | decide | (repeat (first | exact True.intro | exact .nil | refine .cons ⟨_, rfl⟩ ?_ | refine ⟨⟨_, _, rfl, rfl⟩, ?_⟩)))
    (case kv2_11 => first | k_is | exact (by rfl) | exact FR.size_le (by decide) | decide | (repeat (first | exact True.intro | exact .nil | refine .cons ⟨_, rfl⟩ ?_ | refine ⟨⟨_, _, rfl, rfl⟩, ?_⟩)))
    (case kv2_12 => first | k_is | exact (by rfl) | exact FR.size_le (by decide) | decide | (repeat (first | exact True.intro | exact .nil | refine .cons ⟨_, rfl⟩ ?_ | refine ⟨⟨_, _, rfl, rfl⟩, ?_⟩)))
    (case kv2_13 => first | k_is | exact (by rfl) | exact FR.size_le (by decide) | decide | (repeat (first | exact True.intro | exact .nil | refine .cons ⟨_, rfl⟩ ?_ | refine ⟨⟨_, _, rfl, rfl⟩, ?_⟩)))
    (case kv2_14 => first | k_is | exact (by rfl) | exact FR.size_le (by decide) | decide | (repeat (first | exact True.intro | exact .nil | refine .cons ⟨_, rfl⟩ ?_ | refine ⟨⟨_, _, rfl, rfl⟩, ?_⟩)))
    (case kv2_15 => first | k_is | exact (by rfl) | exact FR.size_le (by decide) | decide | (repeat (first | exact True.intro | exact .nil | refine .cons ⟨_, rfl⟩ ?_ | refine ⟨⟨_, _, rfl, rfl⟩, ?_⟩)))
    (case q3 => k_is)
    (case kl3 => k_is)
    (case ku3 => first | k_is | exact (by rfl) | exact FR.size_le (by decide) | decide | (repeat (first | exact True.intro | exact .nil | refine .cons ⟨_, rfl⟩ ?_ | refine ⟨⟨_, _, rfl, rfl⟩, ?_⟩)))
    (case kd3 => first | k_is | exact (by rfl) | exact FR.size_le (by decide) | decide | (repeat (first | exact True.intro | exact .nil | refine .cons ⟨_, rfl⟩ ?_ | refine ⟨⟨_, _, rfl, rfl⟩, ?_⟩)))
    (case kz3 => first | k_is | exact (by rfl) | exact FR.size_le (by decide) | decide | (repeat (first | exact True.intro | exact .nil | refine .cons ⟨_, rfl⟩ ?_ | refine ⟨⟨_, _, rfl, rfl⟩, ?_⟩)))
    (case kv3 => first | k_is | exact (by rfl) | exact FR.size_le (by decide) | decide | (repeat (first | exact True.intro | exact .nil | refine .cons ⟨_, rfl⟩ ?_ | refine ⟨⟨_, _, rfl, rfl⟩, ?_⟩)))
    (case z0 => k_is)
    (case z1 => k_is)
    (case z2 => k_is)
    (case z3 => k_is)
    (case z4 => k_is)
    (case z5 => k_is)
    (case z6 => k_is)
    (case z7 => k_is)
    (case z8 => k_is)
    (case z9 => k_is)
    (case z10 => k_is)
