import PyProof.Rows.All
import Wide.All
import OpenK.AllK
import Wide.FinOn
import HandS.ForMost
import HandS.IsInst
import HandS.Defaults
import HandS.StrMore
import HandS.Flow
import HandS.Codes
import HandS.EndBits
import HandS.Walk
import HandS.Replace
import PySem.Challenge.RW_filerights_k06_words_of_texts
set_option Elab.async false
set_option linter.all false
set_option maxRecDepth 100000
/-! own lemmas over the hand layer: what a def's body holds of the heap -/
namespace FR
open PySem PySem.Spec PyProof.Rows L2 TL
/-- all that was tracked, other than at M, is as it was -/
def Keep (M : List Addr) (H H' : Hp) : Prop := ∀ b o, H b = some o → b ∉ M → H' b = some o
theorem Keep.refl {M : List Addr} {H : Hp} : Keep M H H := fun _ _ h _ => h
theorem Keep.same {H H' : Hp} (k : Keep [] H H') : Same H H' := fun b o h => k b o h (by simp)
theorem Keep.of_same {H H' : Hp} (k : Same H H') : Keep [] H H' := fun b o h _ => k b o h
theorem Keep.free {H H' : Hp} (k : Keep [] H H') {p : Addr} (h : H' p = none) : H p = none := k.same.free h
/-- a body's heap: H0 at its entry, M what it may change, L what it holds -/
structure Ow (H0 : Hp) (M : List Addr) (H : Hp) (L : List (Addr × HO)) : Prop where
  keep : ∀ b o, H0 b = some o → b ∉ M → H b = some o
  has : ∀ p ∈ L, H p.1 = some p.2
  nd : (L.map (·.1)).Nodup
  fr : ∀ p ∈ L, H0 p.1 = none ∨ p.1 ∈ M
section
variable {H0 H H' : Hp} {M : List Addr} {L : List (Addr × HO)} {a p : Addr} {o o' : HO} {K : PySem.W.Frag} {xs : List V}
theorem Ow.start0 : Ow H [] H [] := ⟨fun _ _ h _ => h, fun _ h => by simp at h, by simp, fun _ h => by simp at h⟩
theorem Ow.start1 (h : H a = some o) : Ow H [a] H [(a, o)] := ⟨fun _ _ h _ => h, fun p hp => by simp at hp; subst hp; exact h, by simp, fun p hp => by simp at hp; subst hp; exact .inr (by simp)⟩
theorem Ow.get (W : Ow H0 M H L) (i : Nat) (e : L[i]? = some (a, o)) : H a = some o := W.has _ (List.mem_of_getElem? e)
theorem Ow.new (W : Ow H0 M H L) (h : H p = none) : Ow H0 M (upd H p o) ((p, o) :: L) where
  keep := fun b u e hb => by
    rw [upd_ne (ne_of_none (W.keep b u e hb) h)]
    exact W.keep b u e hb
  has := fun q hq => by
    rcases List.mem_cons.mp hq with rfl | hq
    · exact upd_same
    · rw [upd_ne (ne_of_none (W.has q hq) h)]
      exact W.has q hq
  nd := by
    rw [List.map_cons, List.nodup_cons]
    refine ⟨fun hm => ?_, W.nd⟩
    obtain ⟨q, hq, e⟩ := List.mem_map.mp hm
    have := W.has q hq
    rw [show q.1 = p from e, h] at this
    cases this
  fr := fun q hq => by
    rcases List.mem_cons.mp hq with rfl | hq
    · by_cases hm : p ∈ M
      · exact .inr hm
      · cases e : H0 p with
        | none => exact .inl rfl
        | some u =>
          have := W.keep p u e hm
          rw [h] at this
          cases this
    · exact W.fr q hq
theorem nd_of {α β : Type} [DecidableEq α] : ∀ {L : List (α × β)} {i : Nat} {x : α × β} {q : α × β}, (L.map (·.1)).Nodup → L[i]? = some x → q ∈ L → q.1 = x.1 → q = x
  | [], i, x, q, _, e, _, _ => by simp at e
  | y :: L, 0, x, q, hn, e, hq, h => by
    have e' : y = x := Option.some.inj e
    subst e'
    rcases List.mem_cons.mp hq with r | hq
    · exact r
    · rw [List.map_cons, List.nodup_cons] at hn
      exact absurd (List.mem_map.mpr ⟨q, hq, h⟩) hn.1
  | y :: L, i + 1, x, q, hn, e, hq, h => by
    rw [List.map_cons, List.nodup_cons] at hn
    have e' : L[i]? = some x := e
    rcases List.mem_cons.mp hq with r | hq
    · subst r
      exact absurd (List.mem_map.mpr ⟨x, List.mem_of_getElem? e', h.symm⟩) hn.1
    · exact nd_of hn.2 e' hq h
theorem map_set_fst {α β : Type} : ∀ {L : List (α × β)} {i : Nat} {a : α} {o o' : β}, L[i]? = some (a, o) → (L.set i (a, o')).map (·.1) = L.map (·.1)
  | [], i, a, o, o', e => by simp at e
  | y :: L, 0, a, o, o', e => by
    have e' : y = (a, o) := Option.some.inj e
    subst e'
    rfl
  | y :: L, i + 1, a, o, o', e => by
    have e' : L[i]? = some (a, o) := e
    rw [List.set_cons_succ, List.map_cons, List.map_cons, map_set_fst e']
theorem Ow.any1 (W : Ow H0 M H L) (i : Nat) (e : L[i]? = some (a, o)) (k : Keep [a] H H') (h : H' a = some o') : Ow H0 M H' (L.set i (a, o')) where
  keep := fun b u eb hb => by
    have z := W.keep b u eb hb
    refine k b u z ?_
    intro hm
    have hm' : b = a := by simpa using hm
    subst hm'
    rcases W.fr _ (List.mem_of_getElem? e) with r | r
    · rw [show (b, o).1 = b from rfl, eb] at r; cases r
    · exact hb r
  has := fun q hq => by
    rcases List.mem_or_eq_of_mem_set hq with hq | rfl
    · by_cases ha : q.1 = a
      · have := nd_of (q := q) (by rw [map_set_fst (o' := o') e]; exact W.nd) (show (L.set i (a, o'))[i]? = some (a, o') by
          have hi : i < L.length := (List.getElem?_eq_some_iff.mp e).1
          rw [List.getElem?_set_self hi]) (by assumption) ha
        subst this
        exact h
      · exact k _ _ (W.has q hq) (by simpa using ha)
    · exact h
  nd := by rw [map_set_fst e]; exact W.nd
  fr := fun q hq => by
    rcases List.mem_or_eq_of_mem_set hq with hq | rfl
    · exact W.fr q hq
    · exact (W.fr (a, o) (List.mem_of_getElem? e) : H0 a = none ∨ a ∈ M)
theorem keep_upd {H : Hp} {a : Addr} {o : HO} : Keep [a] H (upd H a o) := fun b u e hb => by
  rw [upd_ne (by simpa using hb)]
  exact e
theorem Ow.set (W : Ow H0 M H L) (i : Nat) (e : L[i]? = some (a, o)) : Ow H0 M (upd H a o') (L.set i (a, o')) := W.any1 i e keep_upd upd_same
/-- a call that changed nothing -/
theorem Ow.call0 (W : Ow H0 M H L) (k : Keep [] H H') : Ow H0 M H' L where
  keep := fun b u e hb => k b u (W.keep b u e hb) (by simp)
  has := fun q hq => k _ _ (W.has q hq) (by simp)
  nd := W.nd
  fr := W.fr
/-- .. and handed back a new object -/
theorem Ow.res (W : Ow H0 M H L) (W' : Ow H0 M H' L) (hp : H p = none) (h : H' p = some o) : Ow H0 M H' ((p, o) :: L) where
  keep := W'.keep
  has := fun q hq => by
    rcases List.mem_cons.mp hq with rfl | hq
    · exact h
    · exact W'.has q hq
  nd := by
    rw [List.map_cons, List.nodup_cons]
    refine ⟨fun hm => ?_, W.nd⟩
    obtain ⟨q, hq, e⟩ := List.mem_map.mp hm
    have := W.has q hq
    rw [show q.1 = p from e, hp] at this
    cases this
  fr := fun q hq => by
    rcases List.mem_cons.mp hq with rfl | hq
    · by_cases hm : p ∈ M
      · exact .inr hm
      · cases e : H0 p with
        | none => exact .inl rfl
        | some u =>
          have := W.keep p u e hm
          rw [hp] at this
          cases this
    · exact W.fr q hq
theorem Ow.tail {q : Addr × HO} (W : Ow H0 M H (q :: L)) : Ow H0 M H L := ⟨W.keep, fun p hp => W.has p (List.mem_cons_of_mem _ hp), (List.nodup_cons.mp W.nd).2, fun p hp => W.fr p (List.mem_cons_of_mem _ hp)⟩
theorem Ow.drop (W : Ow H0 M H L) : Ow H0 M H [] := ⟨W.keep, fun _ h => by simp at h, by simp, fun _ h => by simp at h⟩
theorem Ow.seq (W : Ow H0 M H L) (h : SqL K H0 a xs) (ha : a ∉ M) : SqL K H a xs := by
  rcases h with (h | ⟨o, h⟩) | h
  · exact .inl (.inl (W.keep _ _ h ha))
  · exact .inl (.inr ⟨o, W.keep _ _ h ha⟩)
  · exact .inr h
theorem Ow.sq (W : Ow H0 M H L) (i : Nat) (e : L[i]? = some (a, .lst xs)) : SqL K H a xs := .inl (.inl (W.get i e))
theorem Ow.sqT (W : Ow H0 M H L) (i : Nat) (e : L[i]? = some (a, .tup xs)) : SqT K H a xs := .inl (.inl (W.get i e))
end
/-! ### objects that are made or changed: the heap behind is told by what it keeps -/
structure NewO (o : HO) (Q : VK) (H : Hp) : Prop where
  to : ∀ (p : Addr) (H' : Hp), H p = none → Keep [] H H' → H' p = some o → Q (.ref p) H'
structure MutO (a : Addr) (o : HO) (Q : Hp → Prop) (H : Hp) : Prop where
  to : ∀ H' : Hp, Keep [a] H H' → H' a = some o → Q H'
theorem keep_new {H : Hp} {p : Addr} {o : HO} (np : H p = none) : Keep [] H (upd H p o) := fun b u e _ => by
  rw [upd_ne (ne_of_none e np)]
  exact e
theorem NewO.all {o : HO} {Q : VK} {H : Hp} (h : NewO o Q H) : ∀ p, H p = none → Q (.ref p) (upd H p o) := fun p np => h.to p _ np (keep_new np) upd_same
theorem MutO.at {a : Addr} {o : HO} {Q : Hp → Prop} {H : Hp} (h : MutO a o Q H) : Q (upd H a o) := h.to _ keep_upd upd_same
section
variable {H0 H H' : Hp} {M : List Addr} {L : List (Addr × HO)} {a p : Addr} {o o' : HO} {G : Prop}
theorem with1 (i : Nat) (W : Ow H0 M H L) (e : L[i]? = some (a, o)) (k : Keep [a] H H') (h : H' a = some o') (g : Ow H0 M H' (L.set i (a, o')) → G) : G := g (W.any1 i e k h)
theorem withN (W : Ow H0 M H L) (np : H p = none) (k : Keep [] H H') (h : H' p = some o) (g : Ow H0 M H' ((p, o) :: L) → G) : G := g (W.res (W.call0 k) np h)
theorem with0 (W : Ow H0 M H L) (k : Keep [] H H') (g : Ow H0 M H' L → G) : G := g (W.call0 k)
end
section
variable {X : Cx} {e : Expr} {es : List Expr} {t t' : TE} {ta : TA} {pos : Pos} {K : PySem.W.Frag}
def mA (t : TA) : TA := fun σ H Q => ∃ Q0, t σ H Q0 ∧ ∀ xs H', Q0 xs H' → Q xs H'
theorem pa_m (h : PA X es ta) : PA X es (mA ta) := ⟨fun pos pins s σ H Q I hq => by
  obtain ⟨Q0, h0, hi⟩ := hq
  exact thn (h.run pos pins s σ H Q0 I h0) fun us s1 ⟨xs, H1, I1, r, q⟩ => ⟨xs, H1, I1, r, hi _ _ q⟩⟩
theorem pe_imp (h : PE X e t) (k : ∀ σ H Q, t' σ H Q → t σ H Q) : PE X e t' := ⟨fun pins s σ H Q I q => h.run pins s σ H Q I (k σ H Q q)⟩
def tLstN (t : TA) : TE := fun σ H Q => t σ H fun xs H1 => xs.length ≤ sizeLine ∧ NewO (.lst xs) Q H1
def tTupN (t : TA) : TE := fun σ H Q => t σ H fun xs H1 => xs.length ≤ sizeLine ∧ NewO (.tup xs) Q H1
theorem pe_lstN (h : PA X es ta) : PE X (.List es pos) (tLstN ta) := pe_imp (pe_lst (pa_m h)) fun σ H Q q => ⟨_, q, fun xs H1 z => ⟨z.1, z.2.all⟩⟩
theorem pe_tupN {x1} (h : PA X es ta) : PE X (.Tuple es x1 pos) (tTupN ta) := pe_imp (pe_tup (pa_m h)) fun σ H Q q => ⟨_, q, fun xs H1 z => ⟨z.1, z.2.all⟩⟩
theorem pe_dnewN : PE X (.Dict [] [] pos) (fun _ H Q => NewO (.dK []) Q H) := pe_imp pe_dnewK fun σ H Q q => q.all
def rSetN : V → V → V → Hp → (Hp → Prop) → Prop := fun o i v H Q => ∃ p xs k j, o = .ref p ∧ i = .int k ∧ H p = some (.lst xs) ∧ ixN xs.length k = some j ∧ MutO p (.lst (xs.set j v)) Q H
theorem set_listN : PSet X rSetN := fun pins s σ H o i v ov iv u Q I ro ri rv h => by
  obtain ⟨p, xs, k, j, e1, e2, hp, hj, q⟩ := h
  exact set_list pins s σ H o i v ov iv u Q I ro ri rv ⟨p, xs, k, j, e1, e2, hp, hj, q.at⟩
def rSlN (K : PySem.W.Frag) : V → Option Int → Option Int → Hp → VK → Prop := fun x lo hi H Q => ∃ a xs, x = .ref a ∧ SqL K H a xs ∧ NewO (.lst (cutV xs lo hi)) Q H
theorem sl_listN : SlR X (rSlN X.K) := fun pins s σ H x v vl vu lo hi sl Q I rx hs pl pu h => by
  obtain ⟨a, xs, e, hx, q⟩ := h
  exact sl_list pins s σ H x v vl vu lo hi sl Q I rx hs pl pu ⟨a, xs, e, hx, q.all⟩
def rCatN : R2 := fun x y H Q => ∃ l b xs zs, x = .ref l ∧ y = .ref b ∧ H l = some (.lst xs) ∧ H b = some (.lst zs) ∧ xs.length + zs.length ≤ sizeLine ∧ NewO (.lst (xs ++ zs)) Q H
theorem op_catN : OpR X (binaryOp .Add) rCatN := fun pins s σ H x y v u Q I rx ry h => by
  obtain ⟨l, b, xs, zs, e1, e2, hl, hb, hz, q⟩ := h
  exact op_cat pins s σ H x y v u Q I rx ry ⟨l, b, xs, zs, e1, e2, hl, hb, hz, q.all⟩
def rAppN : V → List V → Hp → VK → Prop := fun x vs H Q => ∃ l xs y, x = .ref l ∧ vs = [y] ∧ H l = some (.lst xs) ∧ xs.length < sizeLine ∧ MutO l (.lst (xs ++ [y])) (Q .non) H
theorem mt_appN : MtR X "list.append" rAppN := fun pins s σ H x xs v us Q I rx rv h => by
  obtain ⟨l, ys, y, e1, e2, hl, hz, q⟩ := h
  exact mt_append pins s σ H x xs v us Q I rx rv ⟨l, ys, y, e1, e2, hl, hz, q.at⟩
def rSplN : V → List V → Hp → VK → Prop := fun x xs H Q => ∃ a b, x = .str a ∧ xs = [.str b] ∧ (b.length == 0) = false ∧ a.length + 2 ≤ sizeLine ∧ NewO (.lst ((Txt.split a b).map V.str)) Q H
theorem mt_splN : MtR X "str.split" rSplN := fun pins s σ H x xs v us Q I rx rv h => by
  obtain ⟨a, b, e1, e2, h1, h2, q⟩ := h
  exact mt_split pins s σ H x xs v us Q I rx rv ⟨a, b, e1, e2, h1, h2, q.all⟩
def rLofN (K : PySem.W.Frag) : List V → Hp → VK → Prop := fun xs H Q => ∃ p ys, xs = [.ref p] ∧ (SqL K H p ys ∨ SqT K H p ys) ∧ NewO (.lst ys) Q H
theorem call_lofN : CallR X (.type "list") (rLofN X.K) := fun pins s σ H xs us Q I r h => by
  obtain ⟨p, ys, e, hs, q⟩ := h
  exact call_list_of pins s σ H xs us Q I r ⟨p, ys, e, hs, q.all⟩
end
/-! ### calls with keywords of a def without defaults by place -/
section
variable {K : PySem.W.Frag} {x qual : Str} {params : Arguments} {body : List Stmt} {scope : Scope} {kws : List (Str × V)} {f : Addr} {fd : FuncData} {ps : List Str}
theorem kb0 (F : FunD K x qual params body scope [] kws f fd) (n : Nat) (ks : List Str) (ms : List (Str × V)) (g : {α : Type} → List α → List α → List α → List α) (hk : kws ≠ []) (hms : ∀ q ∈ ms, q ∈ kws)
    (hrel : ∀ {vs mz zs : List V} {us mv ws : List Value}, Vals vs us → Vals mz mv → Vals zs ws → Vals (g vs mz zs) (g us mv ws))
    (h : ∀ (D : Addr) (doc pm : Value) (an : Option Addr) (cdv ct : Value) (us mv ws : List Value), us.length = n → mv.length = ms.length → ws.length = ks.length →
      KwChain D ((ms.map (·.1)).zip mv) (bindArgs (PySem.W.fnOf x qual params body scope .none (.ref D) doc pm an cdv ct) ⟨us, ks.zip ws⟩) (ps.zip (g us mv ws))) :
    ∃ mv : List Value, KBn K fd ps n ks (fun us ws => g us mv ws) (fun vs zs => g vs (ms.map (·.2)) zs) := by
  obtain ⟨oc, od, dV, kV, doc, pm, an, cdv, ct, osl, rfl, lk, hcd, hD, hK⟩ := F.ex
  rcases hD with ⟨_, rfl⟩ | ⟨e, _⟩
  · rcases hK with e | ⟨D, rfl, hq⟩
    · exact absurd e hk
    · obtain ⟨mv, hl, rk, hks⟩ := kwd_vals (ms := ms) fun q hm => hq q (hms q hm)
      exact ⟨mv, fun s us ws X l1 l2 => BindsTo.of_looks fun M => KwChain.looks X hks (h D doc pm an cdv ct us mv ws l1 hl l2), fun r1 r2 => hrel r1 rk r2⟩
  · exact absurd rfl e
end
section
variable {X : Cx} {CX : CXT} {k : Nat} {f : Addr} {fd : FuncData} {ps ks : List Str} {sp : Sp} {E : XK} {x : Str} {p pos : Pos} {kws : List Keyword} {tk : TA} {g : List Value → List Value → List Value} {gV : List V → List V → List V}
theorem pe_callN0 (F : FnOk X.prog X.w X.K X.mg X.base CX k f fd ps sp) (hr : Room k X.A) (hg : Gl X x) (hm : X.mg x = some (.ref f)) (hk : PySem.W.keepIn X.K (.ref f) = true) (hb : KBn X.K fd ps 0 ks g gV) (hx : Passes CX X E) (hkw : PK X kws tk)
    (hall : (backToKw pos (keywordEach kws X.env)).all (·.1.isSome) = true := by rfl) (hks : (backToKw pos (keywordEach kws X.env)).filterMap (·.1) = ks := by rfl) (hdb : (x == ("__debug__" : Str)) = false := by decide)
    (hpl : ((backTo pos (starEach [] X.env)).any (·.1) || (backToKw pos (keywordEach kws X.env)).any (·.1.isNone)) = false := by rfl) : PE X (.Call (.Name x p) [] kws pos) (tCallN 0 ks.length sp gV E tNil tk) := ⟨fun pins s σ H Q I h => by
  refine wpAny_Call_Name_kw (ld_glob I hg hm (PySem.W.callWith_KW0 (h₀ := X.base) I.ok.mod.kin hk hall ?_ hpl) hdb)
  refine thn (hkw.run pos pins s σ H _ I h) fun ws s2 hz => ?_
  obtain ⟨zs, H2, I2, rz, l1, l2, q2⟩ := hz
  refine ⟨I2.kIn, ?_⟩
  rw [hks]
  exact run_fnN (us := []) (vs := []) F hr hb hx I2 .nil rz rfl l2 q2⟩
end
/-! ### tests -/
section
variable {A B : Prop}
theorem ifT {b : Bool} (h : b = true) (a : A) : if b = true then A else B := by rw [if_pos h]; exact a
theorem ifF {b : Bool} (h : b = false) (a : B) : if b = true then A else B := by rw [h, if_neg Bool.false_ne_true]; exact a
theorem ifB {b : Bool} (h1 : b = true → A) (h2 : b = false → B) : if b = true then A else B := by
  cases b
  · exact ifF rfl (h2 rfl)
  · exact ifT rfl (h1 rfl)
theorem ifNB {b : Bool} (h1 : b = false → A) (h2 : b = true → B) : if (!b) = true then A else B := by
  cases b
  · exact ifT rfl (h1 rfl)
  · exact ifF rfl (h2 rfl)
theorem ifD {p : Prop} [Decidable p] (h1 : p → A) (h2 : ¬ p → B) : if decide p = true then A else B := by
  by_cases h : p
  · exact ifT (decide_eq_true h) (h1 h)
  · exact ifF (decide_eq_false h) (h2 h)
theorem ifN {p : Prop} [Decidable p] (h1 : ¬ p → A) (h2 : p → B) : if (!decide p) = true then A else B := by
  by_cases h : p
  · exact ifF (by rw [decide_eq_true h]; rfl) (h2 h)
  · exact ifT (by rw [decide_eq_false h]; rfl) (h1 h)
theorem ifQ {b : Bool} {p : Prop} [Decidable p] (h : b = decide p) (h1 : p → A) (h2 : ¬ p → B) : if b = true then A else B := by
  rw [h]
  exact ifD h1 h2
theorem ifVI {i j : Int} (h1 : i = j → A) (h2 : i ≠ j → B) : if decide (V.int i = V.int j) = true then A else B := ifD (fun h => h1 (V.int.inj h)) fun h => h2 fun e => h (by rw [e])
theorem ifVIn {i j : Int} (h1 : i ≠ j → A) (h2 : i = j → B) : if (!decide (V.int i = V.int j)) = true then A else B := ifN (fun h => h1 fun e => h (by rw [e])) fun h => h2 (V.int.inj h)
theorem ifVS {i j : Str} (h1 : i = j → A) (h2 : i ≠ j → B) : if decide (V.str i = V.str j) = true then A else B := ifD (fun h => h1 (V.str.inj h)) fun h => h2 fun e => h (by rw [e])
theorem ifVSn {i j : Str} (h1 : i ≠ j → A) (h2 : i = j → B) : if (!decide (V.str i = V.str j)) = true then A else B := ifN (fun h => h1 fun e => h (by rw [e])) fun h => h2 (V.str.inj h)
end
/-! ### isinstance -/
theorem isi {K : PySem.W.Frag} {H : Hp} {Q : VK} {x : V} {t c : String} {b : Bool} (ty : TyX K H x (.type t)) (k : kitB t c = some b) (q : Q (.bl b) H) : rIsi K [x, .ty c] H Q := ⟨x, .ty c, .type t, .type c, b, rfl, .ty c, ty, kit_ty k, q⟩
theorem ki_int_str : kitB "int" "str" = some false := by decide +kernel
theorem ki_int_int : kitB "int" "int" = some true := by decide +kernel
theorem ki_int_bool : kitB "int" "bool" = some false := by decide +kernel
theorem ki_int_list : kitB "int" "list" = some false := by decide +kernel
theorem ki_int_tuple : kitB "int" "tuple" = some false := by decide +kernel
theorem ki_int_dict : kitB "int" "dict" = some false := by decide +kernel
theorem ki_str_str : kitB "str" "str" = some true := by decide +kernel
theorem ki_str_int : kitB "str" "int" = some false := by decide +kernel
theorem ki_str_bool : kitB "str" "bool" = some false := by decide +kernel
theorem ki_str_list : kitB "str" "list" = some false := by decide +kernel
theorem ki_str_tuple : kitB "str" "tuple" = some false := by decide +kernel
theorem ki_str_dict : kitB "str" "dict" = some false := by decide +kernel
theorem ki_bl_str : kitB "bool" "str" = some false := by decide +kernel
theorem ki_bl_int : kitB "bool" "int" = some true := by decide +kernel
theorem ki_bl_bool : kitB "bool" "bool" = some true := by decide +kernel
theorem ki_bl_list : kitB "bool" "list" = some false := by decide +kernel
theorem ki_bl_tuple : kitB "bool" "tuple" = some false := by decide +kernel
theorem ki_bl_dict : kitB "bool" "dict" = some false := by decide +kernel
theorem ki_non_str : kitB "NoneType" "str" = some false := by decide +kernel
theorem ki_non_int : kitB "NoneType" "int" = some false := by decide +kernel
theorem ki_non_bool : kitB "NoneType" "bool" = some false := by decide +kernel
theorem ki_non_list : kitB "NoneType" "list" = some false := by decide +kernel
theorem ki_non_tuple : kitB "NoneType" "tuple" = some false := by decide +kernel
theorem ki_non_dict : kitB "NoneType" "dict" = some false := by decide +kernel
theorem ki_lst_str : kitB "list" "str" = some false := by decide +kernel
theorem ki_lst_int : kitB "list" "int" = some false := by decide +kernel
theorem ki_lst_bool : kitB "list" "bool" = some false := by decide +kernel
theorem ki_lst_list : kitB "list" "list" = some true := by decide +kernel
theorem ki_lst_tuple : kitB "list" "tuple" = some false := by decide +kernel
theorem ki_lst_dict : kitB "list" "dict" = some false := by decide +kernel
theorem ki_tup_str : kitB "tuple" "str" = some false := by decide +kernel
theorem ki_tup_int : kitB "tuple" "int" = some false := by decide +kernel
theorem ki_tup_bool : kitB "tuple" "bool" = some false := by decide +kernel
theorem ki_tup_list : kitB "tuple" "list" = some false := by decide +kernel
theorem ki_tup_tuple : kitB "tuple" "tuple" = some true := by decide +kernel
theorem ki_tup_dict : kitB "tuple" "dict" = some false := by decide +kernel
theorem ki_dK_str : kitB "dict" "str" = some false := by decide +kernel
theorem ki_dK_int : kitB "dict" "int" = some false := by decide +kernel
theorem ki_dK_bool : kitB "dict" "bool" = some false := by decide +kernel
theorem ki_dK_list : kitB "dict" "list" = some false := by decide +kernel
theorem ki_dK_tuple : kitB "dict" "tuple" = some false := by decide +kernel
theorem ki_dK_dict : kitB "dict" "dict" = some true := by decide +kernel
/-- the generator of a law's numbers: at b a list of three numbers, the last at most n -/
def bagO (x y z : Int) : HO := .lst [.int x, .int y, .int z]
structure BagOk (n : Nat) (x y z : Int) : Prop where
  x0 : 0 ≤ x
  y0 : 0 ≤ y
  y1 : y < 2147483648
  z0 : 0 ≤ z
  z1 : z ≤ (n : Int)
theorem BagOk.mono {n m : Nat} {x y z : Int} (h : BagOk n x y z) (e : n ≤ m) : BagOk m x y z := ⟨h.x0, h.y0, h.y1, h.z0, by have := h.z1; omega⟩
/-- take(bag, k): a number below k; the bag is changed, by one count at the most -/
def spTake : Sp := fun vs H Q _ => ∃ (b : Addr) (k : Int) (n : Nat) (x y z : Int), vs = [.ref b, .int k] ∧ H b = some (bagO x y z) ∧ BagOk n x y z ∧ n < 1000000 ∧ 0 < k ∧ k < 1073741824 ∧
  ∀ (d x' y' z' : Int) (H' : Hp), 0 ≤ d → d < k → BagOk (n + 1) x' y' z' → Keep [b] H H' → H' b = some (bagO x' y' z') → Q (.int d) H'
theorem atI_in {α : Type} {xs : List α} {d : Int} (h0 : 0 ≤ d) (h1 : d < (xs.length : Int)) : ∃ v, atI xs d = some v ∧ v ∈ xs := by
  obtain ⟨k, rfl⟩ := Int.eq_ofNat_of_zero_le h0
  have hk : k < xs.length := by omega
  exact ⟨xs[k], atI_nat (List.getElem?_eq_getElem hk), List.getElem_mem hk⟩
theorem size_ok {n : Nat} (h : n ≤ 1000000) : n < sizeLine := Nat.lt_of_le_of_lt h (by decide)
theorem size_le {n : Nat} (h : n ≤ 1000000) : n ≤ sizeLine := Nat.le_of_lt (size_ok h)
/-! ### texts by their codes -/
theorem len_app (x y : Str) : (x ++ y).length = x.length + y.length := by rw [len_tl, len_tl, len_tl, tl_append, List.length_append]
theorem joinL_nil : ∀ ps : List (List Nat), joinL [] ps = ps.flatten
  | [] => rfl
  | [p] => by simp [joinL]
  | p :: q :: r => by
    have ih := joinL_nil (q :: r)
    show p ++ ([] ++ joinL [] (q :: r)) = _
    rw [ih]
    simp
theorem tl_joinE (ss : List Str) : tl (Txt.join (Str.ofString "") ss) = (ss.map tl).flatten := by
  rw [join_eq, tl_join, show tl (Str.ofString "") = [] by decide +kernel, joinL_nil]
theorem sum_one : ∀ {ss : List Str}, (∀ s ∈ ss, s.length = 1) → (ss.map (·.length)).sum = ss.length
  | [], _ => rfl
  | s :: r, h => by
    rw [List.map_cons, List.sum_cons, sum_one fun t ht => h t (List.mem_cons_of_mem _ ht), h s List.mem_cons_self, List.length_cons]
    omega
theorem flat_one : ∀ {ss : List Str}, (∀ s ∈ ss, s.length = 1) → (ss.map tl).flatten.length = ss.length
  | [], _ => rfl
  | s :: r, h => by
    have h1 := h s List.mem_cons_self
    rw [len_tl] at h1
    rw [List.map_cons, List.flatten_cons, List.length_append, flat_one fun t ht => h t (List.mem_cons_of_mem _ ht), List.length_cons, h1]
    omega
theorem join_one {ss : List Str} (h : ∀ s ∈ ss, s.length = 1) : (Txt.join (Str.ofString "") ss).length = ss.length := by rw [len_tl, tl_joinE, flat_one h]
theorem tl_cutS (z : Str) (lo hi : Option Int) : tl (cutS z lo hi) = ((tl z).drop (HT.sIx z.length 0 lo)).take (HT.sIx z.length z.length hi - HT.sIx z.length 0 lo) := rfl
theorem cutS_len (z : Str) (lo hi : Option Int) : (cutS z lo hi).length ≤ z.length := by
  rw [len_tl, tl_cutS, List.length_take, List.length_drop, len_tl z]
  omega
theorem starts_one (x : Str) (c : Nat) : Txt.startswith x ⟨#[c]⟩ = true ↔ (tl x)[0]? = some c := by
  unfold Txt.startswith
  rw [Bool.and_eq_true, decide_eq_true_eq]
  exact PySem.StrLaws.subAt_one x c 0
/-! ### texts of plain signs -/
def Asc (s : Str) : Prop := ∀ c ∈ tl s, c < 128
theorem Asc.app {x y : Str} (a : Asc x) (b : Asc y) : Asc (x ++ y) := fun c hc => by
  rw [tl_append] at hc
  rcases List.mem_append.mp hc with h | h
  · exact a c h
  · exact b c h
theorem Asc.cut {x : Str} (a : Asc x) (lo hi : Option Int) : Asc (cutS x lo hi) := fun c hc => a c (List.mem_of_mem_drop (List.mem_of_mem_take (by rw [tl_cutS] at hc; exact hc)))
theorem Asc.one {c : Nat} (h : c < 128) : Asc ⟨#[c]⟩ := fun d hd => by
  have : d = c := by simpa using hd
  omega
theorem Asc.of {x : Str} (h : (tl x).all (fun c => decide (c < 128)) = true) : Asc x := fun c hc => by simpa using List.all_eq_true.mp h c hc
theorem Asc.joined {S : List Nat} : ∀ {ps : List (List Nat)}, (∀ c ∈ S, c < 128) → (∀ p ∈ ps, ∀ c ∈ p, c < 128) → ∀ c ∈ joinL S ps, c < 128
  | [], _, _, c, h => by simp [joinL] at h
  | [p], _, hp, c, h => hp p List.mem_cons_self c h
  | p :: q :: r, hS, hp, c, h => by
    rcases List.mem_append.mp (show c ∈ p ++ (S ++ joinL S (q :: r)) from h) with h | h
    · exact hp p List.mem_cons_self c h
    · rcases List.mem_append.mp h with h | h
      · exact hS c h
      · exact Asc.joined hS (fun t ht => hp t (List.mem_cons_of_mem _ ht)) c h
theorem Asc.join {y : Str} {ss : List Str} (a : Asc y) (h : ∀ s ∈ ss, Asc s) : Asc (Txt.join y ss) := by
  unfold Asc
  rw [join_eq, tl_join]
  refine Asc.joined a fun p hp => ?_
  obtain ⟨s, hs, rfl⟩ := List.mem_map.mp hp
  exact h s hs
theorem joinL_len (S : List Nat) : ∀ (ps : List (List Nat)), (joinL S ps).length ≤ (ps.map (·.length)).sum + ps.length * S.length
  | [] => by simp [joinL]
  | [p] => by simp [joinL]
  | p :: q :: r => by
    have ih := joinL_len S (q :: r)
    show (p ++ (S ++ joinL S (q :: r))).length ≤ _
    rw [List.length_append, List.length_append, List.map_cons, List.sum_cons, List.length_cons, Nat.add_one_mul]
    omega
theorem join_len (y : Str) (ss : List Str) : (Txt.join y ss).length ≤ (ss.map (·.length)).sum + ss.length * y.length := by
  have h := joinL_len (tl y) (ss.map tl)
  rw [join_eq, len_tl, tl_join, len_tl y]
  rw [List.length_map, List.map_map] at h
  rw [show ss.map (fun x => x.length) = ss.map ((fun x => x.length) ∘ tl) from List.map_congr_left fun s _ => len_tl s]
  exact h
theorem sum_le {ss : List Str} {k : Nat} (h : ∀ s ∈ ss, s.length ≤ k) : (ss.map (·.length)).sum ≤ ss.length * k := by
  induction ss with
  | nil => simp
  | cons s r ih =>
    rw [List.map_cons, List.sum_cons, List.length_cons, Nat.add_one_mul]
    have h1 := h s List.mem_cons_self
    have h2 := ih fun t ht => h t (List.mem_cons_of_mem _ ht)
    omega
theorem str_ok {s : Str} (a : Asc s) : PyData.strOk s = true := by
  unfold PyData.strOk
  rw [show s.cps.all (fun x => decide (x < 0x110000)) = (tl s).all (fun x => decide (x < 0x110000)) by simp]
  exact List.all_eq_true.mpr fun c hc => decide_eq_true (Nat.lt_trans (a c hc) (by decide))
def dStrs (ws : List Str) : PyData := .list (ws.map .str)
theorem lay_strs : ∀ {ws : List Str}, (∀ s ∈ ws, Asc s) → PyData.canLayAll0 (ws.map .str) = true
  | [], _ => rfl
  | s :: r, h => by
    rw [List.map_cons, PyData.canLayAll0, PyData.canLay0, str_ok (h s List.mem_cons_self), lay_strs fun t ht => h t (List.mem_cons_of_mem _ ht)]
    rfl
theorem depth_strs : ∀ ws : List Str, PyData.depthAll (ws.map .str) = 0
  | [] => rfl
  | s :: r => by rw [List.map_cons, PyData.depthAll, PyData.depth, depth_strs r]; rfl
theorem shaped_strs {ws : List Str} (h : ∀ s ∈ ws, Asc s) : SeqAt.shaped (dStrs ws) = true := by
  unfold SeqAt.shaped dStrs
  rw [PyData.canLay0, lay_strs h, PyData.depth, depth_strs]
  rfl
theorem dpAll_strs {K : PySem.W.Frag} {H : Hp} : ∀ ws : List Str, DpAll K H (ws.map V.str) (ws.map .str)
  | [] => .nil
  | s :: r => .cons (.str s) (dpAll_strs r)
theorem dp_strs {K : PySem.W.Frag} {H : Hp} {a : Addr} {ws : List Str} (h : SqL K H a (ws.map V.str)) : Dp K H (.ref a) (dStrs ws) := .lst h (dpAll_strs ws)
theorem eqv_strs : ∀ ws : List Str, PyData.eqvAll (ws.map .str) (ws.map .str) = true
  | [] => rfl
  | s :: r => by rw [List.map_cons, PyData.eqvAll, eqv_strs r, PyData.eqv]; simp
theorem eqv_dstrs (ws : List Str) : PyData.eqv (dStrs ws) (dStrs ws) = true := by
  unfold dStrs
  rw [PyData.eqv, eqv_strs]
theorem in_strs (x : Str) : ∀ ws : List Str, inV (.str x) (ws.map V.str) = decide (x ∈ ws)
  | [] => rfl
  | s :: r => by
    have ih := in_strs x r
    unfold inV at ih ⊢
    rw [List.map_cons, List.any_cons, ih]
    show ((s == x) || decide (x ∈ r)) = _
    by_cases h : s = x
    · subst h; simp
    · simp [h, Ne.symm h]
theorem flat_strs (ws : List Str) : (ws.map V.str).all flatV = true := by
  rw [List.all_map]
  exact List.all_eq_true.mpr fun _ _ => rfl
/-! ### signs as texts -/
def sg (l : List Nat) : List Str := l.map fun d => ⟨#[d]⟩
theorem sg_one {l : List Nat} : ∀ s ∈ sg l, s.length = 1 := fun s hs => by
  obtain ⟨d, _, rfl⟩ := List.mem_map.mp hs
  rfl
theorem sg_len (l : List Nat) : (sg l).length = l.length := List.length_map _
theorem sg_asc {l : List Nat} (h : ∀ c ∈ l, c < 128) : ∀ s ∈ sg l, Asc s := fun s hs => by
  obtain ⟨d, hd, rfl⟩ := List.mem_map.mp hs
  exact Asc.one (h d hd)
theorem tl_join_sg : ∀ l : List Nat, ((sg l).map tl).flatten = l
  | [] => rfl
  | c :: r => by
    have ih := tl_join_sg r
    show ([c] ++ ((sg r).map tl).flatten) = c :: r
    rw [ih]
    rfl
theorem sg_app (l : List Nat) (c : Nat) : (sg (l ++ [c])).map V.str = (sg l).map V.str ++ [.str ⟨#[c]⟩] := by
  unfold sg
  rw [List.map_append, List.map_append]
  rfl
theorem chr_inj {c d : Nat} (h : (⟨#[c]⟩ : Str) = ⟨#[d]⟩) : c = d := by
  have := congrArg tl h
  simpa using this
theorem ifC {A B : Prop} {c d : Nat} (h1 : c = d → A) (h2 : c ≠ d → B) : if decide (V.str ⟨#[c]⟩ = V.str ⟨#[d]⟩) = true then A else B := ifVS (fun h => h1 (chr_inj h)) fun h => h2 fun e => h (by rw [e])
theorem ifCn {A B : Prop} {c d : Nat} (h1 : c ≠ d → A) (h2 : c = d → B) : if (!decide (V.str ⟨#[c]⟩ = V.str ⟨#[d]⟩)) = true then A else B := ifVSn (fun h => h1 fun e => h (by rw [e])) fun h => h2 (chr_inj h)
theorem filt_in {pre : List Nat} {c d : Nat} (h : d ≠ c) : (pre ++ [d]).filter (fun x => decide (x ≠ c)) = pre.filter (fun x => decide (x ≠ c)) ++ [d] := by
  rw [List.filter_append, List.filter_cons, if_pos (by simpa using h)]
  rfl
theorem filt_out {pre : List Nat} {c d : Nat} (h : d = c) : (pre ++ [d]).filter (fun x => decide (x ≠ c)) = pre.filter (fun x => decide (x ≠ c)) := by
  rw [List.filter_append, List.filter_cons, if_neg (by simpa using h)]
  simp
theorem filt_asc {l : List Nat} {p : Nat → Bool} (h : ∀ c ∈ l, c < 128) : ∀ c ∈ l.filter p, c < 128 := fun c hc => h c (List.mem_filter.mp hc).1
theorem tl_joined_sg (l : List Nat) : tl (Txt.join (Str.ofString "") (sg l)) = l := by rw [tl_joinE, tl_join_sg]
/-! ### a text split at a sign -/
theorem split_tl (s : Str) {c : Nat} (h : c < 256) : (Txt.split s ⟨#[c]⟩).map tl = spl [c] 0 [] (tl s) := split_spl s ⟨#[c]⟩ (by simp) (kind_ok (by simpa using h))
theorem spl_asc : ∀ (l acc : List Nat) (c : Nat), (∀ d ∈ l, d < 128) → (∀ d ∈ acc, d < 128) → ∀ p ∈ spl [c] 0 acc l, ∀ d ∈ p, d < 128
  | [], acc, c, _, ha, p, hp, d, hd => by
    rw [spl_nil] at hp
    rw [List.mem_singleton.mp hp] at hd
    exact ha d hd
  | x :: r, acc, c, hl, ha, p, hp, d, hd => by
    have hr : ∀ d ∈ r, d < 128 := fun d h => hl d (List.mem_cons_of_mem _ h)
    by_cases e : pre [c] (x :: r) = true
    · rw [spl_hit e] at hp
      rcases List.mem_cons.mp hp with rfl | hp
      · exact ha d hd
      · exact spl_asc r [] c hr (fun _ h => by simp at h) p hp d hd
    · rw [spl_miss (by simpa using e)] at hp
      refine spl_asc r (acc ++ [x]) c hr (fun d h => ?_) p hp d hd
      rcases List.mem_append.mp h with h | h
      · exact ha d h
      · rw [List.mem_singleton.mp h]; exact hl x List.mem_cons_self
theorem split_asc {s : Str} {c : Nat} (h : c < 256) (a : Asc s) : ∀ w ∈ Txt.split s ⟨#[c]⟩, Asc w := fun w hw => by
  have : tl w ∈ (Txt.split s ⟨#[c]⟩).map tl := List.mem_map_of_mem hw
  rw [split_tl s h] at this
  exact spl_asc (tl s) [] c a (fun _ h => by simp at h) _ this
theorem spl_len : ∀ (l acc : List Nat) (c : Nat), (spl [c] 0 acc l).length ≤ l.length + 1
  | [], acc, c => by rw [spl_nil]; simp
  | x :: r, acc, c => by
    by_cases e : pre [c] (x :: r) = true
    · rw [spl_hit e, List.length_cons, List.length_cons]
      have := spl_len r [] c
      exact Nat.succ_le_succ this
    · rw [spl_miss (by simpa using e), List.length_cons]
      have := spl_len r (acc ++ [x]) c
      omega
theorem split_len {s : Str} {c : Nat} (h : c < 256) : (Txt.split s ⟨#[c]⟩).length ≤ s.length + 1 := by
  have := spl_len (tl s) [] c
  rw [← split_tl s h, List.length_map] at this
  rw [len_tl]
  exact this
theorem pre_one {c x : Nat} {r : List Nat} : pre [c] (x :: r) = decide (x = c) := by
  unfold pre
  by_cases h : x = c <;> simp [h]
/-! ### text * number -/
theorem op_mul_str {X : Cx} : OpR X (binaryOp .Mult) (fun x y H Q => ∃ i j, x = .str i ∧ y = .int j ∧ (0 ≤ j ∧ j ≤ 10000 ∧ i.length ≤ 1000) ∧ Q (.str (Txt.mul i j)) H) := fun pins s σ H x y v u Q I rx ry h => by
  obtain ⟨i, j, rfl, rfl, ⟨h0, h1, h2⟩, q⟩ := h
  obtain ⟨t, rfl⟩ := rx
  obtain ⟨t', rfl⟩ := ry
  refine SB.mul ⟨?_, fun h3 h4 => ?_, fun h3 h4 => ?_⟩ fun t' k => ⟨.str (Txt.mul i j), H, I.tok _, ⟨_, rfl⟩, q⟩
  · simp
    omega
  · have h5 : (i.length : Int) * j ≤ 1000 * 10000 := Int.mul_le_mul (by omega) h1 h0 (by decide)
    have h6 : (i.length : Int) ≤ (2 ^ 63 - 1) / j := Int.le_ediv_of_mul_le (by omega) (by omega)
    omega
  · have h5 : i.length * j.toNat ≤ 1000 * 10000 := Nat.mul_le_mul h2 (by omega)
    have h6 : i.length * j.toNat ≤ sizeLine := Nat.le_trans h5 (by decide)
    unfold Builtin.Str.tooLong
    exact decide_eq_false (by omega)
theorem fold_cps (a : Array Nat) : ∀ (k : Nat) (acc : Array Nat), ((List.replicate k a).foldl (fun x y => x ++ y) acc).toList = acc.toList ++ (List.replicate k a.toList).flatten
  | 0, acc => by simp
  | k + 1, acc => by
    rw [List.replicate_succ, List.foldl_cons, fold_cps a k, List.replicate_succ, List.flatten_cons, Array.toList_append, List.append_assoc]
theorem flat_nil : ∀ k : Nat, (List.replicate k ([] : List Nat)).flatten = []
  | 0 => rfl
  | k + 1 => by rw [List.replicate_succ, List.flatten_cons, flat_nil k]; rfl
theorem tl_mul (x : Str) (n : Int) : tl (Txt.mul x n) = (List.replicate n.toNat (tl x)).flatten := by
  unfold Txt.mul
  split
  · rename_i h
    rw [show n.toNat = 0 by omega]
    rfl
  · split
    · rename_i h1 h2
      rcases Bool.or_eq_true_iff.mp h2 with h | h
      · have : n = 1 := by simpa using h
        subst this
        simp
      · have h3 : x.length = 0 := by simpa using h
        rw [len_tl] at h3
        rw [List.length_eq_zero_iff.mp h3, flat_nil]
    · show ((List.replicate n.toNat x.cps).foldl (fun x y => x ++ y) #[]).toList = _
      rw [fold_cps]
      rfl
theorem mul_len (x : Str) (n : Int) : (Txt.mul x n).length = x.length * n.toNat := by
  rw [len_tl, tl_mul, List.length_flatten, List.map_replicate, List.sum_replicate_nat, len_tl, Nat.mul_comm]
theorem Asc.mul {x : Str} (a : Asc x) (n : Int) : Asc (Txt.mul x n) := fun c hc => by
  rw [tl_mul] at hc
  obtain ⟨l, hl, hc⟩ := List.mem_flatten.mp hc
  rw [List.eq_of_mem_replicate hl] at hc
  exact a c hc
/-! ### loops by what is behind -/
section
variable {g : TG} {tb : TS} {D : Ends} {σ : L2.St} {H : Hp}
theorem for_str {s : Str} (Pv : List Nat → L2.St → Hp → Prop) (h0 : Pv [] σ H)
    (hs : ∀ pre c post σ H, tl s = pre ++ c :: post → Pv pre σ H → g (.str ⟨#[c]⟩) σ H fun σ2 H2 => tb { D with nx := Pv (pre ++ [c]), ct := Pv (pre ++ [c]), bk := D.nx } σ2 H2) (hd : ∀ σ H, Pv (tl s) σ H → D.nx σ H) :
    ∃ W : Nat → Nat → L2.St → Hp → Prop, (∃ m, W 0 m σ H) ∧ ∀ i m σ H, W i m σ H →
      ((Its s).stop i H ∧ D.nx σ H) ∨ ((Its s).go i H ∧ ∃ N : L2.St → Hp → Prop, (∀ σ' H', N σ' H' → ∃ m', m' < m ∧ W (i + 1) m' σ' H') ∧ ∀ x H', (Its s).yld i H x H' → g x σ H' fun σ2 H2 => tb { D with nx := N, ct := N, bk := D.nx } σ2 H2) := by
  have hsz : s.cps.size = (tl s).length := by simp
  refine for_it walk_str (fun i σ H => Pv ((tl s).take i) σ H) (by simpa using h0) (fun _ _ _ _ _ => True.intro) ?_ (fun σ H p => hd σ H (by rw [hsz, List.take_length] at p; exact p))
  rintro i x σ H H' hi p ⟨rfl, c, hc, rfl⟩
  have hc' : (tl s)[i]? = some c := by simpa using hc
  have hl : i < (tl s).length := by omega
  have e : tl s = (tl s).take i ++ c :: (tl s).drop (i + 1) := by
    have h2 : (tl s)[i] = c := by rw [List.getElem?_eq_getElem hl] at hc'; exact Option.some.inj hc'
    rw [← h2, ← List.drop_eq_getElem_cons hl, List.take_append_drop]
  have e2 : (tl s).take (i + 1) = (tl s).take i ++ [c] := by rw [List.take_add_one, hc']; rfl
  rw [e2]
  exact hs _ c _ σ _ e p
theorem for_rg {lo : Int} {n : Nat} (Pv : Nat → L2.St → Hp → Prop) (h0 : Pv 0 σ H)
    (hs : ∀ i σ H, i < n → Pv i σ H → g (.int (lo + i)) σ H fun σ2 H2 => tb { D with nx := Pv (i + 1), ct := Pv (i + 1), bk := D.nx } σ2 H2) (hd : ∀ σ H, Pv n σ H → D.nx σ H) :
    ∃ W : Nat → Nat → L2.St → Hp → Prop, (∃ m, W 0 m σ H) ∧ ∀ i m σ H, W i m σ H →
      ((Itr lo n).stop i H ∧ D.nx σ H) ∨ ((Itr lo n).go i H ∧ ∃ N : L2.St → Hp → Prop, (∀ σ' H', N σ' H' → ∃ m', m' < m ∧ W (i + 1) m' σ' H') ∧ ∀ x H', (Itr lo n).yld i H x H' → g x σ H' fun σ2 H2 => tb { D with nx := N, ct := N, bk := D.nx } σ2 H2) := for_range Pv h0 hs hd
theorem for_li {K : PySem.W.Frag} {a : Addr} {xs : List V} (Pv : List V → L2.St → Hp → Prop) (h0 : Pv [] σ H) (hl : ∀ pre post σ H, xs = pre ++ post → Pv pre σ H → SqL K H a xs)
    (hs : ∀ pre x post σ H, xs = pre ++ x :: post → Pv pre σ H → g x σ H fun σ2 H2 => tb { D with nx := Pv (pre ++ [x]), ct := Pv (pre ++ [x]), bk := D.nx } σ2 H2) (hd : ∀ σ H, Pv xs σ H → D.nx σ H) :
    ∃ W : Nat → Nat → L2.St → Hp → Prop, (∃ m, W 0 m σ H) ∧ ∀ i m σ H, W i m σ H →
      ((Itl K a).stop i H ∧ D.nx σ H) ∨ ((Itl K a).go i H ∧ ∃ N : L2.St → Hp → Prop, (∀ σ' H', N σ' H' → ∃ m', m' < m ∧ W (i + 1) m' σ' H') ∧ ∀ x H', (Itl K a).yld i H x H' → g x σ H' fun σ2 H2 => tb { D with nx := N, ct := N, bk := D.nx } σ2 H2) := by
  refine for_it (walk_list (xs := xs)) (fun i σ H => Pv (xs.take i) σ H) (by simpa using h0) (fun i σ H _ p => hl (xs.take i) (xs.drop i) σ H (List.take_append_drop i xs).symm p) ?_ (fun σ H p => hd σ H (by rw [List.take_length] at p; exact p))
  rintro i x σ H H' hi p ⟨rfl, hc⟩
  have e : xs = xs.take i ++ x :: xs.drop (i + 1) := by
    have h2 : xs[i] = x := by rw [List.getElem?_eq_getElem hi] at hc; exact Option.some.inj hc
    rw [← h2, ← List.drop_eq_getElem_cons hi, List.take_append_drop]
  have e2 : xs.take (i + 1) = xs.take i ++ [x] := by rw [List.take_add_one, hc]; rfl
  rw [e2]
  exact hs _ x _ σ _ e p
end
section
variable {g : TG} {tt : TT} {te : TE} {vs : List Nat} {σ : L2.St} {H1 : Hp} {D : Addr} {Qd : Hp → Prop}
theorem lc_rg {lo : Int} {n : Nat} (Pv : Nat → Hp → Prop) (h0 : Pv 0 (upd H1 D (.lst [])))
    (hs : ∀ i H, i < n → Pv i H → g (.int (lo + i)) (wipe σ vs) H fun σ2 H2 => wipe σ2 vs = wipe σ vs ∧ tt σ2 H2 fun b H3 =>
      if b = true then te σ2 H3 fun y H4 => ∃ acc, H4 D = some (.lst acc) ∧ acc.length < sizeLine ∧ Pv (i + 1) (upd H4 D (.lst (acc ++ [y]))) else Pv (i + 1) H3) (hd : ∀ H, Pv n H → Qd H) :
    ∃ W : Nat → Nat → Hp → Prop, (∃ m, W 0 m (upd H1 D (.lst []))) ∧ ∀ i m H, W i m H →
      ((Itr lo n).stop i H ∧ Qd H) ∨ ((Itr lo n).go i H ∧ ∃ Nx : Hp → Prop, (∀ H', Nx H' → ∃ m', m' < m ∧ W (i + 1) m' H') ∧ ∀ x H', (Itr lo n).yld i H x H' → g x (wipe σ vs) H' fun σ2 H2 => wipe σ2 vs = wipe σ vs ∧ tt σ2 H2 fun b H3 =>
        if b = true then te σ2 H3 fun y H4 => ∃ acc, H4 D = some (.lst acc) ∧ acc.length < sizeLine ∧ Nx (upd H4 D (.lst (acc ++ [y]))) else Nx H3) := lc_range Pv h0 hs hd
theorem lc_str {s : Str} (Pv : List Nat → Hp → Prop) (h0 : Pv [] (upd H1 D (.lst [])))
    (hs : ∀ pre c post H, tl s = pre ++ c :: post → Pv pre H → g (.str ⟨#[c]⟩) (wipe σ vs) H fun σ2 H2 => wipe σ2 vs = wipe σ vs ∧ tt σ2 H2 fun b H3 =>
      if b = true then te σ2 H3 fun y H4 => ∃ acc, H4 D = some (.lst acc) ∧ acc.length < sizeLine ∧ Pv (pre ++ [c]) (upd H4 D (.lst (acc ++ [y]))) else Pv (pre ++ [c]) H3) (hd : ∀ H, Pv (tl s) H → Qd H) :
    ∃ W : Nat → Nat → Hp → Prop, (∃ m, W 0 m (upd H1 D (.lst []))) ∧ ∀ i m H, W i m H →
      ((Its s).stop i H ∧ Qd H) ∨ ((Its s).go i H ∧ ∃ Nx : Hp → Prop, (∀ H', Nx H' → ∃ m', m' < m ∧ W (i + 1) m' H') ∧ ∀ x H', (Its s).yld i H x H' → g x (wipe σ vs) H' fun σ2 H2 => wipe σ2 vs = wipe σ vs ∧ tt σ2 H2 fun b H3 =>
        if b = true then te σ2 H3 fun y H4 => ∃ acc, H4 D = some (.lst acc) ∧ acc.length < sizeLine ∧ Nx (upd H4 D (.lst (acc ++ [y]))) else Nx H3) := by
  have hsz : s.cps.size = (tl s).length := by simp
  refine lc_it walk_str (fun i H => Pv ((tl s).take i) H) (by simpa using h0) (fun _ _ _ _ => True.intro) ?_ (fun H p => hd H (by rw [hsz, List.take_length] at p; exact p))
  rintro i x H H' hi p ⟨rfl, c, hc, rfl⟩
  have hc' : (tl s)[i]? = some c := by simpa using hc
  have hl : i < (tl s).length := by omega
  have e : tl s = (tl s).take i ++ c :: (tl s).drop (i + 1) := by
    have h2 : (tl s)[i] = c := by rw [List.getElem?_eq_getElem hl] at hc'; exact Option.some.inj hc'
    rw [← h2, ← List.drop_eq_getElem_cons hl, List.take_append_drop]
  have e2 : (tl s).take (i + 1) = (tl s).take i ++ [c] := by rw [List.take_add_one, hc']; rfl
  rw [e2]
  exact hs _ c _ _ e p
theorem lc_li {K : PySem.W.Frag} {a : Addr} {xs : List V} (Pv : List V → Hp → Prop) (h0 : Pv [] (upd H1 D (.lst []))) (hl : ∀ pre post H, xs = pre ++ post → Pv pre H → SqL K H a xs)
    (hs : ∀ pre x post H, xs = pre ++ x :: post → Pv pre H → g x (wipe σ vs) H fun σ2 H2 => wipe σ2 vs = wipe σ vs ∧ tt σ2 H2 fun b H3 =>
      if b = true then te σ2 H3 fun y H4 => ∃ acc, H4 D = some (.lst acc) ∧ acc.length < sizeLine ∧ Pv (pre ++ [x]) (upd H4 D (.lst (acc ++ [y]))) else Pv (pre ++ [x]) H3) (hd : ∀ H, Pv xs H → Qd H) :
    ∃ W : Nat → Nat → Hp → Prop, (∃ m, W 0 m (upd H1 D (.lst []))) ∧ ∀ i m H, W i m H →
      ((Itl K a).stop i H ∧ Qd H) ∨ ((Itl K a).go i H ∧ ∃ Nx : Hp → Prop, (∀ H', Nx H' → ∃ m', m' < m ∧ W (i + 1) m' H') ∧ ∀ x H', (Itl K a).yld i H x H' → g x (wipe σ vs) H' fun σ2 H2 => wipe σ2 vs = wipe σ vs ∧ tt σ2 H2 fun b H3 =>
        if b = true then te σ2 H3 fun y H4 => ∃ acc, H4 D = some (.lst acc) ∧ acc.length < sizeLine ∧ Nx (upd H4 D (.lst (acc ++ [y]))) else Nx H3) := by
  refine lc_it (walk_list (xs := xs)) (fun i H => Pv (xs.take i) H) (by simpa using h0) (fun i H _ p => hl (xs.take i) (xs.drop i) H (List.take_append_drop i xs).symm p) ?_ (fun H p => hd H (by rw [List.take_length] at p; exact p))
  rintro i x H H' hi p ⟨rfl, hc⟩
  have e : xs = xs.take i ++ x :: xs.drop (i + 1) := by
    have h2 : xs[i] = x := by rw [List.getElem?_eq_getElem hi] at hc; exact Option.some.inj hc
    rw [← h2, ← List.drop_eq_getElem_cons hi, List.take_append_drop]
  have e2 : xs.take (i + 1) = xs.take i ++ [x] := by rw [List.take_add_one, hc]; rfl
  rw [e2]
  exact hs _ x _ _ e p
end
end FR
set_option Elab.async false
set_option linter.all false
set_option maxRecDepth 100000
set_option maxHeartbeats 8000000
local macro_rules | `(tactic| walk_at "sq") => `(tactic| first
  | (refine' FR.Ow.sq (i := 0) ?w ?e; (case w => assumption); (case e => rfl))
  | (refine' FR.Ow.sq (i := 1) ?w ?e; (case w => assumption); (case e => rfl))
  | (refine' FR.Ow.sq (i := 2) ?w ?e; (case w => assumption); (case e => rfl))
  | (refine' FR.Ow.sq (i := 3) ?w ?e; (case w => assumption); (case e => rfl))
  | (refine' FR.Ow.sq (i := 4) ?w ?e; (case w => assumption); (case e => rfl))
  | (refine' FR.Ow.sq (i := 5) ?w ?e; (case w => assumption); (case e => rfl))
  | (refine' FR.Ow.sq (i := 6) ?w ?e; (case w => assumption); (case e => rfl))
  | (refine' FR.Ow.sq (i := 7) ?w ?e; (case w => assumption); (case e => rfl))
  | (refine' FR.Ow.sq (i := 8) ?w ?e; (case w => assumption); (case e => rfl))
  | (refine' FR.Ow.sq (i := 9) ?w ?e; (case w => assumption); (case e => rfl))
  | (refine' FR.Ow.sq (i := 10) ?w ?e; (case w => assumption); (case e => rfl))
  | (refine' FR.Ow.sq (i := 11) ?w ?e; (case w => assumption); (case e => rfl))
  | (refine' FR.Ow.sq (i := 12) ?w ?e; (case w => assumption); (case e => rfl))
  | (refine' FR.Ow.sq (i := 13) ?w ?e; (case w => assumption); (case e => rfl))
  | assumption)
local macro_rules | `(tactic| walk_at "hp") => `(tactic| first
  | (refine' FR.Ow.get (i := 0) ?w ?e; (case w => assumption); (case e => rfl))
  | (refine' FR.Ow.get (i := 1) ?w ?e; (case w => assumption); (case e => rfl))
  | (refine' FR.Ow.get (i := 2) ?w ?e; (case w => assumption); (case e => rfl))
  | (refine' FR.Ow.get (i := 3) ?w ?e; (case w => assumption); (case e => rfl))
  | (refine' FR.Ow.get (i := 4) ?w ?e; (case w => assumption); (case e => rfl))
  | (refine' FR.Ow.get (i := 5) ?w ?e; (case w => assumption); (case e => rfl))
  | (refine' FR.Ow.get (i := 6) ?w ?e; (case w => assumption); (case e => rfl))
  | (refine' FR.Ow.get (i := 7) ?w ?e; (case w => assumption); (case e => rfl))
  | (refine' FR.Ow.get (i := 8) ?w ?e; (case w => assumption); (case e => rfl))
  | (refine' FR.Ow.get (i := 9) ?w ?e; (case w => assumption); (case e => rfl))
  | (refine' FR.Ow.get (i := 10) ?w ?e; (case w => assumption); (case e => rfl))
  | (refine' FR.Ow.get (i := 11) ?w ?e; (case w => assumption); (case e => rfl))
  | (refine' FR.Ow.get (i := 12) ?w ?e; (case w => assumption); (case e => rfl))
  | (refine' FR.Ow.get (i := 13) ?w ?e; (case w => assumption); (case e => rfl))
  | assumption)
local macro_rules | `(tactic| walk_at "ar") => `(tactic| first | assumption | omega | decide)
local macro_rules | `(tactic| walk_at "cd") => `(tactic| first
  | assumption | (with_reducible rfl) | exact (rfl : List.length _ = _) | (dsimp only; walk_at "ar") | walk_at "ar"
  | (refine And.intro (a := (_ : Int) < _) ?_ ?_ <;> walk_at "ar")
  | (refine And.intro (a := (0 : Int) ≤ _) ?_ (And.intro ?_ ?_) <;> walk_at "ar")
  | exact FR.size_le (by omega) | exact FR.size_ok (by omega)
  | (refine Or.inl (And.intro ?_ ?_) <;> walk_at "ar")
  | (refine Or.inr (And.intro ?_ ?_) <;> walk_at "ar"))
local macro_rules | `(tactic| walk_at "ty") => `(tactic| first
  | exact L2.TyOf.int _
  | exact L2.TyOf.str _
  | exact L2.TyOf.bl _
  | exact L2.TyOf.non
  | (refine' L2.TyOf.lst ?e; (case e => walk_at "hp"))
  | (refine' L2.TyOf.tup ?e; (case e => walk_at "hp"))
  | (refine' L2.TyOf.dK ?e; (case e => walk_at "hp")))
local macro_rules | `(tactic| walk_at "kit") => `(tactic| first
  | exact FR.ki_int_str
  | exact FR.ki_int_int
  | exact FR.ki_int_bool
  | exact FR.ki_int_list
  | exact FR.ki_int_tuple
  | exact FR.ki_int_dict
  | exact FR.ki_str_str
  | exact FR.ki_str_int
  | exact FR.ki_str_bool
  | exact FR.ki_str_list
  | exact FR.ki_str_tuple
  | exact FR.ki_str_dict
  | exact FR.ki_bl_str
  | exact FR.ki_bl_int
  | exact FR.ki_bl_bool
  | exact FR.ki_bl_list
  | exact FR.ki_bl_tuple
  | exact FR.ki_bl_dict
  | exact FR.ki_non_str
  | exact FR.ki_non_int
  | exact FR.ki_non_bool
  | exact FR.ki_non_list
  | exact FR.ki_non_tuple
  | exact FR.ki_non_dict
  | exact FR.ki_lst_str
  | exact FR.ki_lst_int
  | exact FR.ki_lst_bool
  | exact FR.ki_lst_list
  | exact FR.ki_lst_tuple
  | exact FR.ki_lst_dict
  | exact FR.ki_tup_str
  | exact FR.ki_tup_int
  | exact FR.ki_tup_bool
  | exact FR.ki_tup_list
  | exact FR.ki_tup_tuple
  | exact FR.ki_tup_dict
  | exact FR.ki_dK_str
  | exact FR.ki_dK_int
  | exact FR.ki_dK_bool
  | exact FR.ki_dK_list
  | exact FR.ki_dK_tuple
  | exact FR.ki_dK_dict)
local macro_rules | `(tactic| walk_at "isi") => `(tactic| (refine' ⟨_, _, _, _, _, rfl, L2.ClsV.ty _, L2.TyX.base ?k1, L2.kit_ty ?k2, ?k3⟩; (case k1 => walk_at "ty"); (case k2 => walk_at "kit")))
local macro_rules | `(tactic| walk_at "w1") => `(tactic| first
  | (refine' FR.with1 0 ?k1 ?k2 (by assumption) (by assumption) ?k3; (case k1 => assumption); (case k2 => rfl); intro W)
  | (refine' FR.with1 1 ?k1 ?k2 (by assumption) (by assumption) ?k3; (case k1 => assumption); (case k2 => rfl); intro W)
  | (refine' FR.with1 2 ?k1 ?k2 (by assumption) (by assumption) ?k3; (case k1 => assumption); (case k2 => rfl); intro W)
  | (refine' FR.with1 3 ?k1 ?k2 (by assumption) (by assumption) ?k3; (case k1 => assumption); (case k2 => rfl); intro W)
  | (refine' FR.with1 4 ?k1 ?k2 (by assumption) (by assumption) ?k3; (case k1 => assumption); (case k2 => rfl); intro W)
  | (refine' FR.with1 5 ?k1 ?k2 (by assumption) (by assumption) ?k3; (case k1 => assumption); (case k2 => rfl); intro W)
  | (refine' FR.with1 6 ?k1 ?k2 (by assumption) (by assumption) ?k3; (case k1 => assumption); (case k2 => rfl); intro W)
  | (refine' FR.with1 7 ?k1 ?k2 (by assumption) (by assumption) ?k3; (case k1 => assumption); (case k2 => rfl); intro W)
  | (refine' FR.with1 8 ?k1 ?k2 (by assumption) (by assumption) ?k3; (case k1 => assumption); (case k2 => rfl); intro W)
  | (refine' FR.with1 9 ?k1 ?k2 (by assumption) (by assumption) ?k3; (case k1 => assumption); (case k2 => rfl); intro W)
  | (refine' FR.with1 10 ?k1 ?k2 (by assumption) (by assumption) ?k3; (case k1 => assumption); (case k2 => rfl); intro W)
  | (refine' FR.with1 11 ?k1 ?k2 (by assumption) (by assumption) ?k3; (case k1 => assumption); (case k2 => rfl); intro W)
  | (refine' FR.with1 12 ?k1 ?k2 (by assumption) (by assumption) ?k3; (case k1 => assumption); (case k2 => rfl); intro W)
  | (refine' FR.with1 13 ?k1 ?k2 (by assumption) (by assumption) ?k3; (case k1 => assumption); (case k2 => rfl); intro W))
local macro_rules | `(tactic| walk_at "obj") => `(tactic| first
  | (refine FR.NewO.mk ?_; intro p H np kp hp; refine' FR.withN ?k1 np kp hp ?k2; (case k1 => assumption); intro W)
  | (refine FR.MutO.mk ?_; intro H kp hp; walk_at "w1"))
local macro_rules | `(tactic| walk_at "sz") => `(tactic| exact FR.size_ok (by (try simp only [List.length_map, List.length_append, List.length_cons, List.length_nil]); omega))
local macro_rules | `(tactic| walk_at "rd1") => `(tactic| first
  | (refine ⟨_, rfl, ?_⟩)
  | (refine ⟨_, _, rfl, rfl, ?_⟩)
  | (refine ⟨_, _, rfl, ?_⟩)
  | (refine' ⟨_, _, _, _, rfl, rfl, ?k1, ?k2, ?k3⟩; (case k1 => walk_at "hp"); (case k2 => rfl); walk_at "obj")
  | (refine' ⟨_, _, _, _, rfl, rfl, ?k1, ?k2, ?k3⟩; (case k1 => walk_at "sq"); (case k2 => rfl))
  | walk_at "obj"
  | (refine' ⟨_, _, _, rfl, rfl, ?k1, ?k2, ?k3⟩; (case k1 => walk_at "hp"); (case k2 => walk_at "sz"); walk_at "obj")
  | (refine And.intro (show List.length _ ≤ PySem.sizeLine from Nat.le_of_ble_eq_true rfl) ?_; walk_at "obj")
  | (refine' ⟨_, _, rfl, Or.inl ?k1, ?k2⟩; (case k1 => walk_at "sq"))
  | (refine FR.ifT rfl ?_) | (refine FR.ifF rfl ?_)
  | (refine And.intro (show L2.scal _ _ = true from rfl) ?_)
  | (refine And.intro (show L2.tyV _ "str" (L2.V.str _) _ from rfl) ?_)
  | (refine' And.intro (show L2.tyV _ "list" (L2.V.ref _) _ from Or.inl ⟨rfl, _, ?k1⟩) ?k2; (case k1 => walk_at "sq"))
  | (refine And.intro (Exists.intro _ rfl) ?_)
  | (refine And.intro (show L2.wipe _ _ = L2.wipe _ _ from rfl) ?_)
  | (refine And.intro (by walk_at "cd") ?_)
  | walk_at "isi")
local macro_rules | `(tactic| walk_at "rd") => `(tactic| repeat walk_at "rd1")
local macro_rules | `(tactic| walk_at "take") => `(tactic| (refine' ⟨_, _, _, _, _, _, rfl, ?k1, ?k2, ?k3, ?k4, ?k5, ?k6⟩; (case k1 => walk_at "hp"); (case k2 => assumption); (case k3 => omega); (case k4 => first | decide | omega); (case k5 => first | decide | omega); intro d x y z H d0 d1 ok kp hb; walk_at "w1"))
set_option Elab.async false
set_option linter.all false
set_option maxRecDepth 100000
namespace K06
open PySem PySem.Spec PyProof.Rows L2 FR
def top (i : Nat) : Stmt := PySem.Challenge.pw_filerights_k06_words_of_texts.main.body.getD i (.Pass ⟨0, 0, 0, 0⟩)
abbrev s_split_words : Stmt := top 1
abbrev N_split_words : List Str := ["text", "separator", "words"]
theorem sc_split_words : FnScope N_split_words ["text", "separator"] (defScope s_split_words) := ⟨rfl, rfl, rfl, by decide +kernel, rfl, by decide +kernel, by decide +kernel⟩
abbrev s_cell : Stmt := top 3
abbrev N_cell : List Str := ["_law_script", "_law_k"]
theorem sc_cell : FnScope N_cell ["_law_script", "_law_k"] (defScope s_cell) := ⟨rfl, rfl, rfl, by decide +kernel, rfl, by decide +kernel, by decide +kernel⟩
abbrev s_bag : Stmt := top 4
abbrev N_bag : List Str := ["_law_number"]
theorem sc_bag : FnScope N_bag ["_law_number"] (defScope s_bag) := ⟨rfl, rfl, rfl, by decide +kernel, rfl, by decide +kernel, by decide +kernel⟩
abbrev s_take : Stmt := top 5
abbrev N_take : List Str := ["_law_bag_here", "_law_count", "_law_digit", "_law_mixed"]
theorem sc_take : FnScope N_take ["_law_bag_here", "_law_count"] (defScope s_take) := ⟨rfl, rfl, rfl, by decide +kernel, rfl, by decide +kernel, by decide +kernel⟩
abbrev s_word : Stmt := top 6
abbrev N_word : List Str := ["_law_bag_here", "_law_parter", "_law_wide", "_law_signs", "_law_many", "_law_found", "_law_k", "_law_sign", "_law_name"]
theorem sc_word : FnScope N_word ["_law_bag_here", "_law_parter", "_law_wide"] (defScope s_word) := ⟨rfl, rfl, rfl, by decide +kernel, rfl, by decide +kernel, by decide +kernel⟩
abbrev s_parted : Stmt := top 7
abbrev N_parted : List Str := ["_law_text_one", "_law_parter", "_law_word_here", "_law_words", "_law_sign"]
theorem sc_parted : FnScope N_parted ["_law_text_one", "_law_parter"] (defScope s_parted) := ⟨rfl, rfl, rfl, by decide +kernel, rfl, by decide +kernel, by decide +kernel⟩
abbrev s_law : Stmt := top 8
abbrev N_law : List Str := ["_law_script", "_law_k", "_law_bag_here", "_law_parter", "_law_many", "_law_text_one", "_law_way", "_law_at", "_law_turn", "_law_found", "_law_thing"]
theorem sc_law : FnScope N_law ["_law_script"] (defScope s_law) := ⟨rfl, rfl, rfl, by decide +kernel, rfl, by decide +kernel, by decide +kernel⟩
structure Ads where
  f_split_words : Addr
  d_split_words : FuncData
  f_cell : Addr
  d_cell : FuncData
  f_bag : Addr
  d_bag : FuncData
  f_take : Addr
  d_take : FuncData
  f_word : Addr
  d_word : FuncData
  f_parted : Addr
  d_parted : FuncData
  f_law : Addr
  d_law : FuncData
structure Txt (K : PySem.W.Frag) (mg : Str → Option Value) (A : Ads) : Prop where
  F_split_words : FunD K "split_words" "split_words" (defArgs s_split_words) (defBody s_split_words) (defScope s_split_words) [] [("separator", .str " ")] A.f_split_words A.d_split_words
  g_split_words : mg "split_words" = some (.ref A.f_split_words)
  F_cell : Fun K "_law_cell" "_law_cell" s_cell A.f_cell A.d_cell
  B_cell : Binds K A.d_cell ["_law_script", "_law_k"] []
  g_cell : mg "_law_cell" = some (.ref A.f_cell)
  F_bag : Fun K "_law_bag" "_law_bag" s_bag A.f_bag A.d_bag
  B_bag : Binds K A.d_bag ["_law_number"] []
  g_bag : mg "_law_bag" = some (.ref A.f_bag)
  F_take : Fun K "_law_take" "_law_take" s_take A.f_take A.d_take
  B_take : Binds K A.d_take ["_law_bag_here", "_law_count"] []
  g_take : mg "_law_take" = some (.ref A.f_take)
  F_word : Fun K "_law_word" "_law_word" s_word A.f_word A.d_word
  B_word : Binds K A.d_word ["_law_bag_here", "_law_parter", "_law_wide"] []
  g_word : mg "_law_word" = some (.ref A.f_word)
  F_parted : Fun K "_law_parted" "_law_parted" s_parted A.f_parted A.d_parted
  B_parted : Binds K A.d_parted ["_law_text_one", "_law_parter"] []
  g_parted : mg "_law_parted" = some (.ref A.f_parted)
  F_law : Fun K "law" "law" s_law A.f_law A.d_law
  B_law : Binds K A.d_law ["_law_script"] []
  g_law : mg "law" = some (.ref A.f_law)
  b_int : mg "int" = none
  b_isinstance : mg "isinstance" = none
  b_len : mg "len" = none
  b_max : mg "max" = none
  b_min : mg "min" = none
  b_range : mg "range" = none
  b_str : mg "str" = none


end K06
namespace K06
open PySem PySem.Spec PyProof.Rows L2 FR
section
variable {P : Program} {w : World} {K : PySem.W.Frag} {mg : Str → Option Value} {base : Heap} {A : Ads}
set_option pp.maxSteps 120
theorem ok_take (T : Txt K mg A) : FnOk P w K mg base CX0 1 A.f_take A.d_take ["_law_bag_here", "_law_count"] spTake := by
  refine T.F_take.ok sc_take (fun vs H Q E h => ?_) (fun cdv A_ outer s H vs Q E hr h => ?_)
  · obtain ⟨b, k, n, x, y, z, rfl, _⟩ := h
    rfl
  · obtain ⟨b, k, n, x, y, z, rfl, hb, ok, hn, k0, k1, q⟩ := h
    have W := Ow.start1 hb
    have y0 := ok.y0; have y1 := ok.y1; have z0 := ok.z0; have z1 := ok.z1
    refine ⟨_, (pss_cons (ps_if (pt_cmpR op_gt (pe_ix ix_list (pv 0) pe_int (fun _ _ => rfl)) pe_int (nomark _)) (pss_cons (ps_set (i := 2) sc_take.nd rfl (.inl rfl) (pe_op op_mod (pe_ix ix_list (pv 0) pe_int (fun _ _ => rfl)) (pv 1)))
  (pss_cons (ps_asg (pe_op op_fdiv (pe_ix ix_list (pv 0) pe_int (fun _ _ => rfl)) (pv 1)) (pg_sub (pv 0) pe_int set_listN))
  (pss_one (ps_ret (pv 2))))) pss_nil)
  (pss_cons (ps_asg (pe_op op_add (pe_ix ix_list (pv 0) pe_int (fun _ _ => rfl)) pe_int) (pg_sub (pv 0) pe_int set_listN))
  (pss_cons (ps_set (i := 3) sc_take.nd rfl (.inl rfl) (pe_op op_mod (pe_op op_pow (pe_op op_add (pe_op op_add (pe_ix ix_list (pv 0) pe_int (fun _ _ => rfl)) (pe_op op_mul pe_int (pe_ix ix_list (pv 0) pe_int (fun _ _ => rfl)))) pe_int) pe_int) pe_int))
  (pss_cons (ps_set (i := 3) sc_take.nd rfl (.inl rfl) (pe_op op_mod (pe_op op_pow (pe_op op_add (pv 3) (pe_op op_mul pe_int (pe_ix ix_list (pv 0) pe_int (fun _ _ => rfl)))) pe_int) pe_int))
  (pss_one (ps_ret (pe_op op_mod (pe_op op_fdiv (pv 3) pe_int) (pv 1)))))))), ?_⟩
    walk_at "rd"
    refine ite2 (fun c => ?_) (fun c => ?_)
    · have c' : 0 < x := of_decide_eq_true c
      walk_at "rd"
      rename_i H1 kp hp W1
      exact q _ (x / k) y z H1 (Int.emod_nonneg _ (by omega)) (Int.emod_lt_of_pos _ k0) ⟨Int.ediv_nonneg ok.x0 (by omega), y0, y1, z0, by omega⟩ kp hp
    · walk_at "rd"
      rename_i H1 kp hp W1
      exact q _ x y (z + 1) H1 (Int.emod_nonneg _ (by omega)) (Int.emod_lt_of_pos _ k0) ⟨ok.x0, y0, y1, by omega, by omega⟩ kp hp
def spCell (K : PySem.W.Frag) : Sp := fun vs H Q _ => ∃ (a : Addr) (ns : List Int) (k : Int), vs = [.ref a, .int k] ∧ SqL K H a (ns.map V.int) ∧ 0 ≤ k ∧ k < 1000 ∧ ∀ n, Q (.int n) H
theorem ok_cell (T : Txt K mg A) : FnOk P w K mg base CX0 1 A.f_cell A.d_cell ["_law_script", "_law_k"] (spCell K) := by
  refine T.F_cell.ok sc_cell (fun vs H Q E h => ?_) (fun cdv A_ outer s H vs Q E hr h => ?_)
  · obtain ⟨a, ns, k, rfl, _⟩ := h
    rfl
  · obtain ⟨a, ns, k, rfl, hS, h0, hk, q⟩ := h
    obtain ⟨j, rfl⟩ := Int.eq_ofNat_of_zero_le h0
    refine ⟨_, (pss_cons (ps_if (pt_cmpR op_lt (pv 1) (pe_callB call_len_seq (by rfl) T.b_len PySem.boot_len (pa_cons (pv 0) pa_nil)) (nomark _)) (pss_one (ps_ret (pe_ix ix_list (pv 0) (pv 1) (fun _ _ => rfl)))) pss_nil)
  (pss_one (ps_ret (pe_op op_add (pe_op op_mul pe_int (pv 1)) pe_int)))), ?_⟩
    walk_at "rd"
    refine ifD (fun c => ?_) (fun c => ?_)
    · have c2 : j < ns.length := by rw [List.length_map] at c; omega
      refine ⟨_, rfl, _, rfl, _, _, _, .int ns[j], rfl, rfl, hS, atI_nat (by rw [List.getElem?_map, List.getElem?_eq_getElem c2]; rfl), q _⟩
    · walk_at "rd"
      exact q _
def spBag : Sp := fun vs H Q _ => ∃ n : Int, vs = [.int n] ∧ ∀ x y z, BagOk 0 x y z → NewO (bagO x y z) Q H
theorem ok_bag (T : Txt K mg A) : FnOk P w K mg base CX0 1 A.f_bag A.d_bag ["_law_number"] spBag := by
  refine T.F_bag.ok sc_bag (fun vs H Q E h => ?_) (fun cdv A_ outer s H vs Q E hr h => ?_)
  · obtain ⟨n, rfl, _⟩ := h
    rfl
  · obtain ⟨n, rfl, q⟩ := h
    have W : Ow H [] H [] := Ow.start0
    refine ⟨_, (pss_one (ps_ret (pe_lstN (pa_cons (pe_callB (call_max2 rfl) (by rfl) T.b_max (by decide +kernel) (pa_cons pe_int (pa_cons (pe_op op_sub (pv 0) (pe_op op_pow pe_int pe_int)) pa_nil))) (pa_cons (pe_op op_mod (pv 0) pe_int) (pa_cons pe_int pa_nil)))))), ?_⟩
    have q' := q (if n - 10 ^ 18 > 0 then n - 10 ^ 18 else 0) (n % 2147483629) 0 ⟨by split <;> omega, Int.emod_nonneg _ (by decide), Int.lt_trans (Int.emod_lt_of_pos _ (by decide)) (by decide), by omega, by omega⟩
    walk_at "rd"
    rename_i p H1 np kp hp W1
    exact q'.to p H1 np kp hp
end
end K06
namespace K06
open PySem PySem.Spec PyProof.Rows L2 FR TL
open C8 (pss_cut pe_gc)
section
variable {P : Program} {w : World} {K : PySem.W.Frag} {mg : Str → Option Value} {base : Heap} {A : Ads}
set_option pp.maxSteps 120
def signs : Str := Str.ofString " !\"#$&'()*+,-./09:;<=>?@AZ[\\]^_`az{|}~"
def spWord : Sp := fun vs H Q _ => ∃ (b : Addr) (n c : Nat) (wide : Bool) (x y z : Int), vs = [.ref b, .str ⟨#[c]⟩, .bl wide] ∧ H b = some (bagO x y z) ∧ BagOk n x y z ∧ n < 900000 ∧ c < 128 ∧
  ∀ (s : Str) (x' y' z' : Int) (H' : Hp), s.length ≤ 400 → Asc s → BagOk (n + 20) x' y' z' → Keep [b] H H' → H' b = some (bagO x' y' z') → Q (.str s) H'
theorem ok_word (T : Txt K mg A) : FnOk P w K mg base CX0 2 A.f_word A.d_word ["_law_bag_here", "_law_parter", "_law_wide"] spWord := by
  refine T.F_word.ok sc_word (fun vs H Q E h => ?_) (fun cdv A_ outer s_ H vs Q E hr h => ?_)
  · obtain ⟨b, n, c, wide, x, y, z, rfl, _⟩ := h
    rfl
  · obtain ⟨b, n, c, wide, x, y, z, rfl, hb, ok, hn, hc, q⟩ := h
    have W := Ow.start1 hb
    refine ⟨_, (pss_cons (ps_set (i := 3) sc_word.nd rfl (.inr rfl) pe_str)
  (pss_cons (ps_set (i := 4) sc_word.nd rfl (.inl rfl) (pe_op op_add pe_int (pe_call (ok_take T) hr (by rfl) T.g_take T.F_take.kp T.B_take .nil pass0 (pa_cons (pv 0) (pa_cons pe_int pa_nil)))))
  (pss_cut (ps_if (PW.pt (pw_and (pt_val (pv 2)) (pw_and1 (pt_cmpR op_eq (pe_call (ok_take T) hr (by rfl) T.g_take T.F_take.kp T.B_take .nil pass0 (pa_cons (pv 0) (pa_cons pe_int pa_nil))) pe_int (nomark _))))) (pss_one (ps_set (i := 4) sc_word.nd rfl (.inl rfl) pe_int)) pss_nil)
  (pss_cons (ps_set (i := 5) sc_word.nd rfl (.inl rfl) (pe_op op_mul_str (pe_join pe_str (pe_lc (own := [("_law_k", 6)]) (g := gName 6) rfl sc_word.nd (pi_range1 (by rfl) T.b_range (pa_cons (pe_callB (call_min2 rfl) (by rfl) T.b_min (by decide +kernel) (pa_cons (pv 4) (pa_cons pe_int pa_nil))) pa_nil)) (blkOk_by (own := [("_law_k", 6)]) (N := N_word) (sc := defScope s_word) (by decide +kernel)) (fun _ _ _ _ _ => pg_name (i := 6) sc_word.nd rfl (Or.inl rfl)) (fun _ _ _ _ _ => pts_nil) (fun _ _ _ _ _ => (pe_ix ix_str (pv 3) (pe_call (ok_take T) hr (by rfl) T.g_take T.F_take.kp T.B_take .nil pass0 (pa_cons (pv 0) (pa_cons (pe_callB call_len_str (by rfl) T.b_len PySem.boot_len (pa_cons (pv 3) pa_nil)) pa_nil))) (fun _ _ => rfl))))) (pe_op op_add pe_int (pe_op op_fdiv (pv 4) pe_int))))
  (pss_one (ps_ret (pe_orT (pe_join pe_str (pe_lc (own := [("_law_sign", 7)]) (g := gName 7) rfl sc_word.nd (pi_str (pv 5)) (blkOk_by (own := [("_law_sign", 7)]) (N := N_word) (sc := defScope s_word) (by decide +kernel)) (fun _ _ _ _ _ => pg_name (i := 7) sc_word.nd rfl (Or.inl rfl)) (fun _ _ _ _ _ => (pts_one (pt_cmpR op_ne (pv 7) (pv 1) (nomark _)))) (fun _ _ _ _ _ => (pv 7)))) (pe_one (pe_ix ix_list (pe_lc (own := [("_law_name", 8)]) (g := gName 8) rfl sc_word.nd (pi_str pe_str) (blkOk_by (own := [("_law_name", 8)]) (N := N_word) (sc := defScope s_word) (by decide +kernel)) (fun _ _ _ _ _ => pg_name (i := 8) sc_word.nd rfl (Or.inl rfl)) (fun _ _ _ _ _ => (pts_one (pt_cmpR op_ne (pv 8) (pv 1) (nomark _)))) (fun _ _ _ _ _ => (pv 8))) pe_int (fun _ _ => rfl)))))))))), ?_⟩
    walk_at "rd"
    walk_at "take"
    rename_i d1 x1 y1 z1 H1 d10 d11 ok1 kp1 hb1 W1
    walk_at "rd"
    refine ⟨fun σ' H' => ∃ (m x y z : Int), σ' = [some (.ref b), some (.str ⟨#[c]⟩), some (.bl wide), some (.str signs), some (.int m), none, none, none, none] ∧ 1 ≤ m ∧ m ≤ 400 ∧ BagOk (n + 2) x y z ∧ Ow H [b] H' [(b, bagO x y z)], ?_, fun σ' H' h => ?_⟩
    · walk_at "rd"
      refine ifB (fun cw => ?_) (fun cw => ?_)
      · walk_at "rd"
        walk_at "take"
        rename_i d2 x2 y2 z2 H2 d20 d21 ok2 kp2 hb2 W2
        walk_at "rd"
        refine ifVI (fun c2 => ?_) (fun c2 => ?_)
        · walk_at "rd"
          exact ⟨_, _, _, _, rfl, by decide, by decide, ok2, W2⟩
        · walk_at "rd"
          exact ⟨_, _, _, _, rfl, by omega, by omega, ok2, W2⟩
      · walk_at "rd"
        exact ⟨_, _, _, _, rfl, by omega, by omega, ok1.mono (by omega), W1⟩
    · obtain ⟨m, x3, y3, z3, rfl, m0, m1, ok3, W3⟩ := h
      walk_at "rd"
      intro D hD
      refine lc_rg (fun i H' => ∃ (l : List Nat) (x y z : Int), l.length = i ∧ (∀ c ∈ l, c < 128) ∧ BagOk (n + 2 + i) x y z ∧ Ow H [b] H' [(D, .lst ((sg l).map V.str)), (b, bagO x y z)]) ?_ ?_ ?_
      · exact ⟨[], _, _, _, rfl, by simp, ok3, W3.new hD⟩
      · rintro i H5 hi ⟨l, x5, y5, z5, hl, hl2, ok5, W5⟩
        have hi' : i < 6 := Nat.lt_of_lt_of_le hi (by split <;> omega)
        have hsz : signs.length ≤ sizeLine := size_le (by decide +kernel)
        have hsl : signs.length = 38 := by decide +kernel
        walk_at "rd"
        walk_at "take"
        rename_i d6 x6 y6 z6 H6 d60 d61 ok6 kp6 hb6 W6
        obtain ⟨e, he, hm⟩ := atI_in (xs := signs.cps.toList) d60 (by rw [show (signs.cps.toList.length : Int) = (signs.length : Int) by rw [len_tl]]; exact d61)
        have he' : e < 128 := (Asc.of (x := signs) (by decide +kernel)) e hm
        refine ⟨_, _, _, rfl, rfl, hsz, he, ?_⟩
        refine ⟨_, W6.get 0 rfl, size_ok (by rw [List.length_map, sg_len]; omega), l ++ [e], x6, y6, z6, by rw [List.length_append, hl]; rfl, ?_, ok6.mono (by omega), ?_⟩
        · intro d hd
          rcases List.mem_append.mp hd with h | h
          · exact hl2 d h
          · rw [List.mem_singleton.mp h]; exact he'
        · rw [sg_app]
          exact W6.set 0 rfl
      · rintro H7 ⟨l, x7, y7, z7, hl, hl2, ok7, W7⟩
        have hl6 : l.length ≤ 6 := by rw [hl]; split <;> omega
        walk_at "rd"
        refine ⟨_, _, sg l, rfl, rfl, .inl (W7.sq 0 rfl), by rw [sum_one sg_one, sg_len, show (Str.ofString "").length = 0 by decide +kernel]; omega, ?_⟩
        have hs : (Txt.join (Str.ofString "") (sg l)).length = l.length := by rw [len_tl, tl_joined_sg]
        have ha : Asc (Txt.join (Str.ofString "") (sg l)) := by unfold Asc; rw [tl_joined_sg]; exact hl2
        generalize Txt.join (Str.ofString "") (sg l) = s at hs ha
        have hm7 : m / 7 ≤ 57 ∧ 0 ≤ m / 7 := by omega
        walk_at "rd"
        have hl8 : (Txt.mul s (1 + m / 7)).length ≤ 400 := by
          rw [mul_len, hs]
          by_cases c : m ≤ 6
          · rw [show (1 + m / 7).toNat = 1 by omega]; omega
          · exact Nat.le_trans (Nat.mul_le_mul hl6 (show (1 + m / 7).toNat ≤ 58 by omega)) (by decide)
        have ha8 := ha.mul (1 + m / 7)
        generalize Txt.mul s (1 + m / 7) = f at hl8 ha8 ⊢
        intro D2 hD2
        refine lc_str (s := f) (fun pre H' => Ow H [b] H' [(D2, .lst ((sg (pre.filter (fun d => decide (d ≠ c)))).map V.str)), (D, .lst ((sg l).map V.str)), (b, bagO x7 y7 z7)]) (W7.new hD2) ?_ ?_
        · rintro pre d post H8 e8 W8
          have hpre : (pre.filter (fun d => decide (d ≠ c))).length ≤ 400 := by
            have h1 := List.length_filter_le (fun d => decide (d ≠ c)) pre
            have h2 : pre.length ≤ (tl f).length := by rw [e8, List.length_append]; omega
            have h3 := len_tl f
            omega
          walk_at "rd"
          refine ifCn (fun c9 => ?_) (fun c9 => ?_)
          · walk_at "rd"
            refine ⟨_, W8.get 0 rfl, size_ok (by rw [List.length_map, sg_len]; omega), ?_⟩
            rw [filt_in c9, sg_app]
            exact W8.set 0 rfl
          · rw [filt_out c9]
            exact W8
        · intro H9 W9
          have hf := List.length_filter_le (fun d => decide (d ≠ c)) (tl f)
          have hft := len_tl f
          have hfa := filt_asc (p := fun d => decide (d ≠ c)) ha8
          generalize (tl f).filter (fun d => decide (d ≠ c)) = g at W9 hf hfa
          have hgl : (Txt.join (Str.ofString "") (sg g)).length = g.length := by rw [len_tl, tl_joined_sg]
          have hga : Asc (Txt.join (Str.ofString "") (sg g)) := by unfold Asc; rw [tl_joined_sg]; exact hfa
          walk_at "rd"
          refine ⟨_, _, sg g, rfl, rfl, .inl (W9.sq 0 rfl), by rw [sum_one sg_one, sg_len, show (Str.ofString "").length = 0 by decide +kernel]; omega, ?_⟩
          refine ⟨_, ⟨size_le (by omega), rfl⟩, ?_⟩
          refine ifB (fun c9 => ?_) (fun c9 => ?_)
          · walk_at "rd"
            exact q _ x7 y7 z7 _ (by omega) hga (ok7.mono (by rw [← hl]; omega)) W9.keep (W9.get 2 rfl)
          · walk_at "rd"
            intro D3 hD3
            refine lc_str (s := Str.ofString "qz") (fun pre H' => Ow H [b] H' [(D3, .lst ((sg (pre.filter (fun d => decide (d ≠ c)))).map V.str)), (D2, .lst ((sg g).map V.str)), (D, .lst ((sg l).map V.str)), (b, bagO x7 y7 z7)]) (W9.new hD3) ?_ ?_
            · rintro pre d post H10 e10 W10
              have hpre : (pre.filter (fun d => decide (d ≠ c))).length ≤ 400 := by
                have h1 := List.length_filter_le (fun d => decide (d ≠ c)) pre
                have h2 : pre.length ≤ (tl (Str.ofString "qz")).length := by rw [e10, List.length_append]; omega
                have h3 : (tl (Str.ofString "qz")).length = 2 := by decide +kernel
                omega
              walk_at "rd"
              refine ifCn (fun c9 => ?_) (fun c9 => ?_)
              · walk_at "rd"
                refine ⟨_, W10.get 0 rfl, size_ok (by rw [List.length_map, sg_len]; omega), ?_⟩
                rw [filt_in c9, sg_app]
                exact W10.set 0 rfl
              · rw [filt_out c9]
                exact W10
            · intro H11 W11
              rw [show tl (Str.ofString "qz") = [113, 122] by decide +kernel] at W11
              obtain ⟨e, r, he, he2⟩ : ∃ e r, [113, 122].filter (fun d => decide (d ≠ c)) = e :: r ∧ e < 128 := by
                by_cases c1 : (113 : Nat) = c
                · subst c1
                  exact ⟨122, [], by decide, by decide⟩
                · exact ⟨113, _, by rw [List.filter_cons, if_pos (by simpa using c1)], by decide⟩
              rw [he] at W11
              walk_at "rd"
              refine ⟨_, _, _, .str ⟨#[e]⟩, rfl, rfl, W11.sq 0 rfl, atI_nat (j := 0) rfl, ?_⟩
              exact q _ x7 y7 z7 _ (by show 1 ≤ 400; decide) (Asc.one he2) (ok7.mono (by rw [← hl]; omega)) W11.keep (W11.get 3 rfl)
end
end K06
namespace K06
open PySem PySem.Spec PyProof.Rows L2 FR TL
open C8 (pss_cut pe_gc)
/-- the words of a text between signs c, or nothing -/
def res (s : Str) (c : Nat) : Option (List Str) := if Str.ofString "" ∈ Txt.split s ⟨#[c]⟩ ∨ 10 ∈ tl s then none else some (Txt.split s ⟨#[c]⟩)
structure Res (s : Str) (c : Nat) (Q : VK) (H : Hp) : Prop where
  no : res s c = none → ∀ H', Keep [] H H' → Q .non H'
  yes : ∀ ws, res s c = some ws → NewO (.lst (ws.map V.str)) Q H
def Val (s : Str) (c : Nat) (H : Hp) (v : V) (H' : Hp) : Prop := Keep [] H H' ∧ ((res s c = none ∧ v = .non) ∨ ∃ ws p, res s c = some ws ∧ v = .ref p ∧ H p = none ∧ H' p = some (.lst (ws.map V.str)))
theorem Res.use {s : Str} {c : Nat} {Q : VK} {H : Hp} (h : ∀ v H', Val s c H v H' → Q v H') : Res s c Q H :=
  ⟨fun e H' k => h _ _ ⟨k, .inl ⟨e, rfl⟩⟩, fun ws e => ⟨fun p H' np k hp => h _ _ ⟨k, .inr ⟨ws, p, e, rfl, np, hp⟩⟩⟩⟩
def dat (s : Str) (c : Nat) : PyData := match res s c with
  | none => .none
  | some ws => dStrs ws
theorem Val.dp {K : PySem.W.Frag} {s : Str} {c : Nat} {H H1 H2 : Hp} {v : V} (h : Val s c H v H1) (k : Keep [] H1 H2) : Dp K H2 v (dat s c) := by
  unfold dat
  rcases h with ⟨_, ⟨e, rfl⟩ | ⟨ws, p, e, rfl, _, hp⟩⟩
  · rw [e]; exact .non
  · rw [e]; exact dp_strs (.inl (.inl (k _ _ hp (by simp))))
theorem dat_ok {s : Str} {c : Nat} (a : Asc s) (hc : c < 256) : SeqAt.shaped (dat s c) = true := by
  unfold dat res
  by_cases h : Str.ofString "" ∈ Txt.split s ⟨#[c]⟩ ∨ 10 ∈ tl s
  · rw [if_pos h]; rfl
  · rw [if_neg h]; exact shaped_strs (split_asc hc a)
theorem dat_eq (s : Str) (c : Nat) : PyData.eqv (dat s c) (dat s c) = true := by
  unfold dat
  cases res s c with
  | none => rfl
  | some ws => exact eqv_dstrs ws
section
variable {P : Program} {w : World} {K : PySem.W.Frag} {mg : Str → Option Value} {base : Heap} {A : Ads}
set_option pp.maxSteps 120
def spParted : Sp := fun vs H Q _ => ∃ (s : Str) (c : Nat), vs = [.str s, .str ⟨#[c]⟩] ∧ s.length ≤ 100000 ∧ c < 128 ∧ Res s c Q H
theorem ok_parted (T : Txt K mg A) : FnOk P w K mg base CX0 1 A.f_parted A.d_parted ["_law_text_one", "_law_parter"] spParted := by
  refine T.F_parted.ok sc_parted (fun vs H Q E h => ?_) (fun cdv A_ outer s_ H vs Q E hr h => ?_)
  · obtain ⟨s, c, rfl, _⟩ := h
    rfl
  · obtain ⟨s, c, rfl, hl, hc, q⟩ := h
    have W : Ow H [] H [] := Ow.start0
    have hz : s.length ≤ sizeLine := size_le (by omega)
    have hlen := len_tl s
    refine ⟨_, (pss_cons (ps_par (i := 2) (j := 3) (by rfl) sc_parted.nd rfl rfl (by decide) rfl rfl (pa_cons pe_str (pa_cons (pe_lstN pa_nil) pa_nil)) (by rfl))
  (pss_cons (ps_for PassesOwn.never rfl (pi_str (pv 0)) (pg_name (i := 4) sc_parted.nd rfl (.inl rfl)) (pss_one (ps_if (pt_cmpR op_eq (pv 4) (pv 1) (nomark _)) (pss_cons (ps_expr (pe_bm PySem.F.plainAttrs_list PySem.F.slot_list_append PySem.F.type_list_append mt_appN (pv 3) (pa_cons (pv 2) pa_nil)))
  (pss_one (ps_set (i := 2) sc_parted.nd rfl (.inl rfl) pe_str))) (pss_one (ps_set (i := 2) sc_parted.nd rfl (.inl rfl) (pe_op op_add_str (pv 2) (pv 4)))))))
  (pss_cons (ps_expr (pe_bm PySem.F.plainAttrs_list PySem.F.slot_list_append PySem.F.type_list_append mt_appN (pv 3) (pa_cons (pv 2) pa_nil)))
  (pss_one (ps_ret (pe_ifExp (PW.pt (pw_or (pt_cmpR op_in_seq pe_str (pv 3) rfl) (pw_or1 (pt_cmpR op_in_sign pe_str (pv 0) rfl)))) pe_non (pv 3))))))), ?_⟩
    walk_at "rd"
    rename_i p H1 np kp hp W1
    refine for_str (s := s) (fun pre σ H' => ∃ (u : Str) (ws : List Str) (y : Option V), σ = [some (.str s), some (.str ⟨#[c]⟩), some (.str u), some (.ref p), y] ∧ u.length ≤ pre.length ∧ ws.length ≤ pre.length ∧
      (∀ post, tl s = pre ++ post → spl [c] 0 [] (tl s) = ws.map tl ++ spl [c] 0 (tl u) post) ∧ Keep [p] H1 H' ∧ H' p = some (.lst (ws.map V.str)) ∧ Ow H [] H' [(p, .lst (ws.map V.str))]) ?_ ?_ ?_
    · exact ⟨Str.ofString "", [], none, rfl, by decide +kernel, by simp, fun post e => by rw [e]; rfl, Keep.refl, hp, W1⟩
    · rintro pre d post σ H2 e ⟨u, ws, y, rfl, hu, hws, hv, kp2, hp2, W2⟩
      have hv' := hv _ e
      have hpre : pre.length ≤ (tl s).length := by rw [e, List.length_append]; omega
      walk_at "rd"
      refine ifC (fun e1 => ?_) (fun e1 => ?_)
      · subst e1
        walk_at "rd"
        rename_i H3 kp3 hp3 W3
        refine ⟨Str.ofString "", ws ++ [u], _, rfl, by rw [show (Str.ofString "").length = 0 by decide +kernel]; exact Nat.zero_le _, by rw [List.length_append, List.length_append]; exact Nat.add_le_add_right hws 1, fun post' e' => ?_, fun b o h1 h2 => kp3 b o (kp2 b o h1 h2) h2, ?_, ?_⟩
        · have : post' = post := by
            rw [e, List.append_assoc] at e'
            exact (List.cons.inj (List.append_cancel_left e')).2.symm
          rw [this, hv', spl_hit (by rw [pre_one]; exact decide_eq_true rfl), List.map_append, List.append_assoc]
          rfl
        · rw [List.map_append]; exact hp3
        · rw [List.map_append]; exact W3
      · walk_at "rd"
        refine ⟨u ++ ⟨#[d]⟩, ws, _, rfl, by rw [len_app, List.length_append]; exact Nat.add_le_add_right hu 1, by rw [List.length_append]; omega, fun post' e' => ?_, kp2, hp2, W2⟩
        have : post' = post := by
          rw [e, List.append_assoc] at e'
          exact (List.cons.inj (List.append_cancel_left e')).2.symm
        rw [this, hv', spl_miss (by rw [pre_one]; exact decide_eq_false e1), tl_append]
    · rintro σ H2 ⟨u, ws, y, rfl, hu, hws, hv, kp2, hp2, W2⟩
      have hv' := hv [] (by simp)
      rw [spl_nil, show [tl u] = [u].map tl from rfl, ← List.map_append, ← split_tl s (by omega : c < 256)] at hv'
      have hw := map_tl_inj hv'
      walk_at "rd"
      rename_i H3 kp3 hp3 W3
      have hxs : ws.map V.str ++ [V.str u] = (Txt.split s ⟨#[c]⟩).map V.str := by rw [hw, List.map_append]; rfl
      rw [hxs] at W3 ⊢
      refine ⟨flat_strs _, ?_⟩
      refine ⟨_, rfl, ?_⟩
      refine ifQ (p := Str.ofString "" ∈ Txt.split s ⟨#[c]⟩) (in_strs _ _) (fun c1 => ?_) (fun c1 => ?_)
      · walk_at "rd"
        exact q.no (by unfold res; rw [if_pos (.inl c1)]) H3 W3.keep
      · walk_at "rd"
        refine ifQ (p := 10 ∈ tl s) rfl (fun c2 => ?_) (fun c2 => ?_)
        · walk_at "rd"
          exact q.no (by unfold res; rw [if_pos (.inr c2)]) H3 W3.keep
        · walk_at "rd"
          exact (q.yes _ (by unfold res; rw [if_neg (fun z => z.elim c1 c2)])).to p H3 np W3.keep (W3.get 0 rfl)
def spSplit (K : PySem.W.Frag) : Sp := fun vs H Q _ => ∃ (v : V) (c : Nat), vs = [v, .str ⟨#[c]⟩] ∧ c < 128 ∧ ((∃ s, v = .str s ∧ s.length ≤ 100000 ∧ Res s c Q H) ∨ ((∃ t, TyX K H v (.type t) ∧ kitB t "str" = some false) ∧ Q .non H))
theorem ok_split_words (T : Txt K mg A) : FnOk P w K mg base CX0 1 A.f_split_words A.d_split_words ["text", "separator"] (spSplit K) := by
  refine T.F_split_words.ok sc_split_words (fun vs H Q E h => ?_) (fun cdv A_ outer s_ H vs Q E hr h => ?_)
  · obtain ⟨v, c, rfl, _⟩ := h
    rfl
  · obtain ⟨v, c, rfl, hc, q⟩ := h
    have W : Ow H [] H [] := Ow.start0
    refine ⟨_, (pss_cons (ps_if (PW.pt (pw_or (pt_not (pt_val (pe_callB call_isi (by rfl) T.b_isinstance (by decide +kernel) (pa_cons (pv 0) (pa_cons (pe_bltn (v := .ty "str") rfl T.b_str (by decide +kernel) rfl) pa_nil))))) (pw_or1 (pt_cmpR op_in_sign pe_str (pv 0) rfl)))) (pss_one (ps_ret pe_non)) pss_nil)
  (pss_cons (ps_set (i := 2) sc_split_words.nd rfl (.inl rfl) (pe_m1 PySem.F.slot_str_split PySem.F.type_str_split mt_splN (pv 0) (pv 1)))
  (pss_one (ps_ret (pe_ifExp (pt_cmpR op_in_seq pe_str (pv 2) rfl) pe_non (pv 2)))))), ?_⟩
    rcases q with ⟨s, rfl, hl, q⟩ | ⟨⟨t, ty, kt⟩, q⟩
    · have hz : s.length ≤ sizeLine := size_le (by omega)
      have hlen := len_tl s
      walk_at "rd"
      refine ifQ (p := 10 ∈ tl s) rfl (fun c2 => ?_) (fun c2 => ?_)
      · walk_at "rd"
        exact q.no (by unfold res; rw [if_pos (.inr c2)]) H Keep.refl
      walk_at "rd"
      refine ⟨rfl, size_le (by omega), ?_⟩
      walk_at "rd"
      rename_i p H1 np kp hp W1
      refine ⟨flat_strs _, ?_⟩
      refine ⟨_, rfl, ?_⟩
      refine ifQ (p := Str.ofString "" ∈ Txt.split s ⟨#[c]⟩) (in_strs _ _) (fun c1 => ?_) (fun c1 => ?_)
      · walk_at "rd"
        exact q.no (by unfold res; rw [if_pos (.inl c1)]) H1 W1.keep
      · walk_at "rd"
        exact (q.yes _ (by unfold res; rw [if_neg (fun z => z.elim c1 c2)])).to p H1 np W1.keep (W1.get 0 rfl)
    · walk_at "rd"
      refine ⟨_, _, _, _, _, rfl, .ty _, ty, kit_ty kt, ?_⟩
      walk_at "rd"
      exact q
end
end K06
namespace K06
open PySem PySem.Spec PyProof.Rows L2 FR TL
open C8 (pss_cut pe_gc)
theorem vrev : ∀ {xs : List V} {us : List Value}, Vals xs us → Vals xs.reverse us.reverse
  | _, _, .nil => .nil
  | x :: xs, u :: us, .cons r t => by rw [List.reverse_cons, List.reverse_cons]; exact (vrev t).append (.cons r .nil)
section
variable {P : Program} {w : World} {K : PySem.W.Frag} {mg : Str → Option Value} {base : Heap} {A : Ads}
set_option pp.maxSteps 120
theorem bd1 (T : Txt K mg A) : ∃ ds, Vals [.str " "] ds ∧ Binds K A.d_split_words ["text", "separator"] ds :=
  T.F_split_words.binds0 1 (by simp) rfl fun D doc pm an cdv ct us its h1 h2 => match us, its, h1, h2 with
    | [_], [_], _, _ => ⟨_, _, _, _, _, _, rfl, rfl, rfl⟩
theorem kb0st (T : Txt K mg A) : ∃ mv : List Value, KBn K A.d_split_words ["text", "separator"] 0 ["separator", "text"] (fun us ws => ws.reverse) (fun vs zs => zs.reverse) := by
  obtain ⟨mv, h⟩ := FR.kb0 (ps := ["text", "separator"]) T.F_split_words 0 ["separator", "text"] [] (fun us mv ws => ws.reverse) (by simp) (by simp) (fun a b c => vrev c) fun D doc pm an cdv ct us mv ws h1 h2 h3 => match us, mv, ws, h1, h2, h3 with
    | [], [], [v, w], _, _, _ => (show bindArgs _ _ = pure _ from rfl)
  exact ⟨mv, h⟩
theorem kb1s (T : Txt K mg A) : ∃ mv : List Value, KBn K A.d_split_words ["text", "separator"] 1 ["separator"] (fun us ws => us ++ ws) (fun vs zs => vs ++ zs) := by
  obtain ⟨mv, h⟩ := FR.kb0 (ps := ["text", "separator"]) T.F_split_words 1 ["separator"] [] (fun us mv ws => us ++ ws) (by simp) (by simp) (fun a b c => a.append c) fun D doc pm an cdv ct us mv ws h1 h2 h3 => match us, mv, ws, h1, h2, h3 with
    | [u], [], [v], _, _, _ => (show bindArgs _ _ = pure _ from rfl)
  exact ⟨mv, h⟩
def spLaw (K : PySem.W.Frag) : Sp := fun vs H Q _ => ∃ (a : Addr) (ns : List Int), vs = [.ref a] ∧ SqL K H a (ns.map V.int) ∧ ns.length ≤ 63 ∧ ∀ H', Q (.bl true) H'
def Mid (H : Hp) (a b : Addr) (i c kk : Nat) (m dw da : Int) (y8 y9 y10 : Option V) (lim : Nat) (σ' : L2.St) (H' : Hp) : Prop :=
  ∃ (s : Str) (x y z : Int), σ' = [some (.ref a), some (.int (0 + i)), some (.ref b), some (.str ⟨#[c]⟩), some (.int m), some (.str s), some (.int dw), some (.int da), y8, y9, y10] ∧ s.length ≤ lim ∧ Asc s ∧ BagOk kk x y z ∧ Ow H [] H' [(b, bagO x y z)]
theorem ok_law (T : Txt K mg A) : FnOk P w K mg base CX0 3 A.f_law A.d_law ["_law_script"] (spLaw K) := by
  refine T.F_law.ok sc_law (fun vs H Q E h => ?_) (fun cdv A_ outer s_ H vs Q E hr h => ?_)
  · obtain ⟨a, ns, rfl, _⟩ := h
    rfl
  · obtain ⟨a, ns, rfl, hS, hlen, q⟩ := h
    have W0 : Ow H [] H [] := Ow.start0
    obtain ⟨ds1, rd_split_words_1, bd_split_words_1⟩ := bd1 T
    obtain ⟨mv0, kb_split_words_0_separator_text⟩ := kb0st T
    obtain ⟨mv1, kb_split_words_1_separator⟩ := kb1s T
    refine ⟨_, (pss_cons (ps_for PassesOwn.never rfl (pi_range1 (by rfl) T.b_range (pa_cons (pe_callB (call_max2 rfl) (by rfl) T.b_max (by decide +kernel) (pa_cons pe_int (pa_cons (pe_callB (call_min2 rfl) (by rfl) T.b_min (by decide +kernel) (pa_cons pe_int (pa_cons (pe_callB call_len_seq (by rfl) T.b_len PySem.boot_len (pa_cons (pv 0) pa_nil)) pa_nil))) pa_nil))) pa_nil)) (pg_name (i := 1) sc_law.nd rfl (.inl rfl)) (pss_cons (ps_set (i := 2) sc_law.nd rfl (.inr rfl) (pe_call (ok_bag T) (hr.mono (by decide)) (by rfl) T.g_bag T.F_bag.kp T.B_bag .nil pass0 (pa_cons (pe_call (ok_cell T) (hr.mono (by decide)) (by rfl) T.g_cell T.F_cell.kp T.B_cell .nil pass0 (pa_cons (pv 0) (pa_cons (pv 1) pa_nil))) pa_nil)))
  (pss_cons (ps_set (i := 3) sc_law.nd rfl (.inr rfl) (pe_ix ix_str pe_str (pe_call (ok_take T) (hr.mono (by decide)) (by rfl) T.g_take T.F_take.kp T.B_take .nil pass0 (pa_cons (pv 2) (pa_cons pe_int pa_nil))) (fun _ _ => rfl)))
  (pss_cut (ps_set (i := 4) sc_law.nd rfl (.inr rfl) (pe_ix ix_list (pe_lstN (pa_cons (pe_op op_add pe_int (pe_call (ok_take T) (hr.mono (by decide)) (by rfl) T.g_take T.F_take.kp T.B_take .nil pass0 (pa_cons (pv 2) (pa_cons pe_int pa_nil)))) (pa_cons pe_int pa_nil))) (pe_callTy call_int1 (by rfl) T.b_int (by decide +kernel) (pa_cons (pe_cmpR op_eq (pe_call (ok_take T) (hr.mono (by decide)) (by rfl) T.g_take T.F_take.kp T.B_take .nil pass0 (pa_cons (pv 2) (pa_cons pe_int pa_nil))) pe_int (nomark _)) pa_nil)) (fun _ _ => rfl)))
  (pss_cons (ps_set (i := 5) sc_law.nd rfl (.inl rfl) (pe_join (pv 3) (pe_lc (own := [("_law_turn", 8)]) (g := gName 8) rfl sc_law.nd (pi_range1 (by rfl) T.b_range (pa_cons (pv 4) pa_nil)) (blkOk_by (own := [("_law_turn", 8)]) (N := N_law) (sc := defScope s_law) (by decide +kernel)) (fun _ _ _ _ _ => pg_name (i := 8) sc_law.nd rfl (Or.inl rfl)) (fun _ _ _ _ _ => pts_nil) (fun _ _ _ _ _ => (pe_call (ok_word T) hr (by rfl) T.g_word T.F_word.kp T.B_word .nil pass0 (pa_cons (pv 2) (pa_cons (pv 3) (pa_cons (pe_cmpR op_lt (pv 4) pe_int (nomark _)) pa_nil))))))))
  (pss_cons (ps_par (i := 6) (j := 7) (by rfl) sc_law.nd rfl rfl (by decide) rfl rfl (pa_cons (pe_call (ok_take T) (hr.mono (by decide)) (by rfl) T.g_take T.F_take.kp T.B_take .nil pass0 (pa_cons (pv 2) (pa_cons pe_int pa_nil))) (pa_cons (pe_call (ok_take T) (hr.mono (by decide)) (by rfl) T.g_take T.F_take.kp T.B_take .nil pass0 (pa_cons (pv 2) (pa_cons (pe_op op_add (pe_callB call_len_str (by rfl) T.b_len PySem.boot_len (pa_cons (pv 5) pa_nil)) pe_int) pa_nil))) pa_nil)) (by rfl))
  (pss_cut (ps_if (pt_cmpR op_eq (pv 6) pe_int (nomark _)) (pss_one (ps_set (i := 5) sc_law.nd rfl (.inl rfl) (pe_op op_add_str (pe_op op_add_str (pe_slice sl_str (pv 5) po_none (po_some (pv 7))) (pv 3)) (pe_slice sl_str (pv 5) (po_some (pv 7)) po_none)))) pss_nil)
  (pss_cut (ps_if (pt_cmpR op_eq (pv 6) pe_int (nomark _)) (pss_one (ps_set (i := 5) sc_law.nd rfl (.inl rfl) (pe_op op_add_str (pe_op op_add_str (pe_slice sl_str (pv 5) po_none (po_some (pv 7))) pe_str) (pe_slice sl_str (pv 5) (po_some (pv 7)) po_none)))) pss_nil)
  (pss_cut (ps_if (pt_cmpR op_eq (pv 6) pe_int (nomark _)) (pss_one (ps_set (i := 5) sc_law.nd rfl (.inl rfl) (pe_ix ix_list (pe_lstN (pa_cons (pe_op op_add_str (pv 3) (pv 5)) (pa_cons (pe_op op_add_str (pv 5) (pv 3)) (pa_cons (pv 3) (pa_cons pe_str pa_nil))))) (pe_call (ok_take T) (hr.mono (by decide)) (by rfl) T.g_take T.F_take.kp T.B_take .nil pass0 (pa_cons (pv 2) (pa_cons pe_int pa_nil))) (fun _ _ => rfl)))) pss_nil)
  (pss_cons (ps_for PassesOwn.never rfl (pi_range1 (by rfl) T.b_range (pa_cons pe_int pa_nil)) (pg_name (i := 8) sc_law.nd rfl (.inl rfl)) (pss_cons (ps_set (i := 9) sc_law.nd rfl (.inl rfl) (pe_callN0 (ok_split_words T) (hr.mono (by decide)) (by rfl) T.g_split_words T.F_split_words.kp kb_split_words_0_separator_text pass0 (pk_cons (pv 3) (pk_cons (pv 5) pk_nil))))
  (pss_cons (ps_if (PW.pt (pw_or (pt_cmpR (op_neD hr.units) (pv 9) (pe_call (ok_parted T) (hr.mono (by decide)) (by rfl) T.g_parted T.F_parted.kp T.B_parted .nil pass0 (pa_cons (pv 5) (pa_cons (pv 3) pa_nil))) (nomark _)) (pw_or1 (pt_cmpR (op_neD hr.units) (pe_call (ok_split_words T) (hr.mono (by decide)) (by rfl) T.g_split_words T.F_split_words.kp bd_split_words_1 rd_split_words_1 pass0 (pa_cons (pv 5) pa_nil)) (pe_call (ok_parted T) (hr.mono (by decide)) (by rfl) T.g_parted T.F_parted.kp T.B_parted .nil pass0 (pa_cons (pv 5) (pa_cons pe_str pa_nil))) (nomark _))))) (pss_one (ps_ret pe_bl)) pss_nil)
  (pss_one (ps_if (pt_cmpR op_notN (pv 9) pe_non (nomark _)) (pss_one (ps_expr (pe_bm PySem.F.plainAttrs_list PySem.F.slot_list_append PySem.F.type_list_append mt_appN (pv 9) (pa_cons pe_str pa_nil)))) pss_nil)))))
  (pss_cons (ps_set (i := 10) sc_law.nd rfl (.inl rfl) (pe_ix ix_list (pe_lstN (pa_cons pe_non (pa_cons pe_int (pa_cons pe_bl (pa_cons (pe_lstN (pa_cons (pe_slice sl_str (pv 5) po_none (po_some pe_int)) pa_nil)) (pa_cons (pe_tupN pa_nil) (pa_cons pe_dnewN (pa_cons pe_bl pa_nil)))))))) (pe_call (ok_take T) (hr.mono (by decide)) (by rfl) T.g_take T.F_take.kp T.B_take .nil pass0 (pa_cons (pv 2) (pa_cons pe_int pa_nil))) (fun _ _ => rfl)))
  (pss_one (ps_if (PW.pt (pw_or (pt_cmpR op_notN (pe_call (ok_split_words T) (hr.mono (by decide)) (by rfl) T.g_split_words T.F_split_words.kp bd_split_words_1 rd_split_words_1 pass0 (pa_cons (pv 10) pa_nil)) pe_non (nomark _)) (pw_or1 (pt_cmpR op_notN (pe_callN (ok_split_words T) (hr.mono (by decide)) (by rfl) T.g_split_words T.F_split_words.kp kb_split_words_1_separator pass0 (pa_cons (pv 10) pa_nil) (pk_cons pe_str pk_nil)) pe_non (nomark _))))) (pss_one (ps_ret pe_bl)) pss_nil)))))))))))))
  (pss_one (ps_ret (pe_and (pe_cmpR (op_eqD hr.units) (pe_call (ok_split_words T) (hr.mono (by decide)) (by rfl) T.g_split_words T.F_split_words.kp bd_split_words_1 rd_split_words_1 pass0 (pa_cons pe_str pa_nil)) (pe_lstN (pa_cons pe_str pa_nil)) (nomark _)) (pe_and (pe_cmpR op_isN (pe_call (ok_split_words T) (hr.mono (by decide)) (by rfl) T.g_split_words T.F_split_words.kp bd_split_words_1 rd_split_words_1 pass0 (pa_cons pe_str pa_nil)) pe_non (nomark _)) (pe_one (pe_cmpR op_isN (pe_call (ok_split_words T) (hr.mono (by decide)) (by rfl) T.g_split_words T.F_split_words.kp bd_split_words_1 rd_split_words_1 pass0 (pa_cons pe_str pa_nil)) pe_non (nomark _)))))))), ?_⟩
    walk_at "rd"
    refine for_rg (fun i σ H' => (∃ y1 y2 y3 y4 y5 y6 y7 y8 y9 y10, σ = [some (.ref a), y1, y2, y3, y4, y5, y6, y7, y8, y9, y10]) ∧ Ow H [] H' []) ⟨⟨none, none, none, none, none, none, none, none, none, none, rfl⟩, W0⟩ ?_ ?_
    · rintro i σ H1 hi ⟨⟨y1, y2, y3, y4, y5, y6, y7, y8, y9, y10, rfl⟩, W1⟩
      have hi' : i < 63 := by
        refine Nat.lt_of_lt_of_le hi ?_
        rw [List.length_map]
        omega
      walk_at "rd"
      refine ⟨a, ns, _, rfl, W1.seq hS (by simp), by omega, by omega, fun n => ?_⟩
      walk_at "rd"
      intro x y z ok
      walk_at "rd"
      rename_i b H2 np2 kp2 hp2 W2
      walk_at "take"
      rename_i d3 x3 y3 z3 H3 d30 d31 ok3 kp3 hb3 W3
      have hpl : (Str.ofString " ,;:+a/~.").cps.toList.length = 9 := by decide +kernel
      obtain ⟨c, hc, hcm⟩ := atI_in (xs := (Str.ofString " ,;:+a/~.").cps.toList) d30 (by rw [hpl]; exact d31)
      have hc' : c < 128 := (Asc.of (x := Str.ofString " ,;:+a/~.") (by decide +kernel)) c hcm
      refine ⟨_, _, _, rfl, rfl, size_le (by decide +kernel), hc, ?_⟩
      walk_at "rd"
      refine ⟨fun σ' H' => ∃ (m x y z : Int), σ' = [some (.ref a), some (.int (0 + i)), some (.ref b), some (.str ⟨#[c]⟩), some (.int m), y5, y6, y7, y8, y9, y10] ∧ 1 ≤ m ∧ m ≤ 40 ∧ BagOk 3 x y z ∧ Ow H [] H' [(b, bagO x y z)], ?_, fun σ' H' h => ?_⟩
      · walk_at "rd"
        walk_at "take"
        rename_i d4 x4 y4_ z4 H4 d40 d41 ok4 kp4 hb4 W4
        walk_at "rd"
        rename_i p5 H5 np5 kp5 hp5 W5
        walk_at "take"
        rename_i d6 x6 y6_ z6 H6 d60 d61 ok6 kp6 hb6 W6
        walk_at "rd"
        refine .inr ⟨_, rfl, ?_⟩
        obtain ⟨m, hm, m0, m1⟩ : ∃ m : Int, atI [V.int (1 + d4), V.int 40] (if decide (V.int d6 = V.int 0) = true then 1 else 0) = some (.int m) ∧ 1 ≤ m ∧ m ≤ 40 := by
          split
          · exact ⟨40, rfl, by decide, by decide⟩
          · exact ⟨1 + d4, rfl, by omega, by omega⟩
        refine ⟨_, _, _, _, rfl, rfl, W6.sq 0 rfl, hm, ?_⟩
        exact ⟨m, _, _, _, rfl, m0, m1, ok6, W6.tail⟩
      · obtain ⟨m, x7, y7_, z7, rfl, m0, m1, ok7, W7⟩ := h
        walk_at "rd"
        intro D hD
        refine lc_rg (fun i H' => ∃ (ws : List Str) (x y z : Int), ws.length = i ∧ (∀ t ∈ ws, t.length ≤ 400 ∧ Asc t) ∧ BagOk (3 + 20 * i) x y z ∧ Ow H [] H' [(D, .lst (ws.map V.str)), (b, bagO x y z)]) ?_ ?_ ?_
        · exact ⟨[], _, _, _, rfl, by simp, ok7, W7.new hD⟩
        · rintro j H8 hj ⟨ws, x8, y8_, z8, hl, hws, ok8, W8⟩
          have hj' : j < 40 := by omega
          walk_at "rd"
          refine ⟨b, _, c, _, _, _, _, rfl, W8.get 1 rfl, ok8, by omega, hc', fun t x10 y10_ z10 H10 ht hta ok10 kp10 hp10 => ?_⟩
          have W10 := W8.any1 1 rfl kp10 hp10
          refine ⟨_, W10.get 0 rfl, size_ok (by rw [List.length_map]; omega), ws ++ [t], x10, y10_, z10, by rw [List.length_append, hl]; rfl, fun u hu => ?_, ok10.mono (by omega), ?_⟩
          · rcases List.mem_append.mp hu with h | h
            · exact hws u h
            · rw [List.mem_singleton.mp h]; exact ⟨ht, hta⟩
          · rw [List.map_append]
            exact W10.set 0 rfl
        · rintro H9 ⟨ws, x9, y9_, z9, hl, hws, ok9, W9⟩
          have hwl : ws.length ≤ 40 := by omega
          have hsum : (ws.map (·.length)).sum ≤ 40 * 400 := Nat.le_trans (sum_le fun t ht => (hws t ht).1) (Nat.mul_le_mul_right 400 hwl)
          have h1 : (⟨#[c]⟩ : Str).length = 1 := rfl
          have hjl := join_len ⟨#[c]⟩ ws
          have hja : Asc (Txt.join ⟨#[c]⟩ ws) := Asc.join (Asc.one hc') fun t ht => (hws t ht).2
          rw [h1] at hjl
          walk_at "rd"
          refine ⟨_, _, ws, rfl, rfl, .inl (W9.sq 0 rfl), by rw [h1]; omega, ?_⟩
          generalize Txt.join ⟨#[c]⟩ ws = s at hjl hja
          have hsl : s.length ≤ 17000 := by omega
          have hsz : s.length ≤ sizeLine := size_le (by omega)
          walk_at "rd"
          walk_at "take"
          rename_i d11 x11 y11_ z11 H11 d110 d111 ok11 kp11 hb11 W11
          walk_at "rd"
          walk_at "take"
          rename_i d12 x12 y12_ z12 H12 d120 d121 ok12 kp12 hb12 W12
          walk_at "rd"
          have h10 : (Str.ofString "\n").length = 1 := by decide +kernel
          have h10a : Asc (Str.ofString "\n") := Asc.of (by decide +kernel)
          refine ⟨Mid H a b i c 1000 m d11 d12 y8 y9 y10 40000, ?_, fun σ' H' h => ?_⟩
          · walk_at "rd"
            refine ifVI (fun e => ?_) (fun e => ?_)
            · have l1 := cutS_len s none (some d12)
              have l2 := cutS_len s (some d12) none
              have l3 : (cutS s none (some d12) ++ ⟨#[c]⟩).length = (cutS s none (some d12)).length + 1 := by rw [len_app, h1]
              walk_at "rd"
              exact ⟨_, _, _, _, rfl, by rw [len_app]; omega, ((hja.cut _ _).app (Asc.one hc')).app (hja.cut _ _), ok12.mono (by omega), W12.tail⟩
            · walk_at "rd"
              exact ⟨_, _, _, _, rfl, by omega, hja, ok12.mono (by omega), W12.tail⟩
          obtain ⟨s, x13, y13_, z13, rfl, hsl, hja, ok13, W13⟩ := h
          have hsz : s.length ≤ sizeLine := size_le (by omega)
          walk_at "rd"
          refine ⟨Mid H a b i c 1001 m d11 d12 y8 y9 y10 81000, ?_, fun σ' H' h => ?_⟩
          · walk_at "rd"
            refine ifVI (fun e => ?_) (fun e => ?_)
            · have l1 := cutS_len s none (some d12)
              have l2 := cutS_len s (some d12) none
              have l3 : (cutS s none (some d12) ++ Str.ofString "\n").length = (cutS s none (some d12)).length + 1 := by rw [len_app, h10]
              walk_at "rd"
              exact ⟨_, _, _, _, rfl, by rw [len_app]; omega, ((hja.cut _ _).app h10a).app (hja.cut _ _), ok13.mono (by omega), W13⟩
            · walk_at "rd"
              exact ⟨_, _, _, _, rfl, by omega, hja, ok13.mono (by omega), W13⟩
          obtain ⟨s, x14, y14_, z14, rfl, hsl, hja, ok14, W14⟩ := h
          have hsz : s.length ≤ sizeLine := size_le (by omega)
          walk_at "rd"
          have h00 : (Str.ofString "").length = 0 := by decide +kernel
          refine ⟨Mid H a b i c 1010 m d11 d12 y8 y9 y10 82000, ?_, fun σ' H' h => ?_⟩
          · walk_at "rd"
            refine ifVI (fun e => ?_) (fun e => ?_)
            · walk_at "rd"
              rename_i p15 H15 np15 kp15 hp15 W15
              walk_at "take"
              rename_i d16 x16 y16_ z16 H16 d160 d161 ok16 kp16 hb16 W16
              obtain ⟨v, hv, hm⟩ := atI_in (xs := [V.str (⟨#[c]⟩ ++ s), V.str (s ++ ⟨#[c]⟩), V.str ⟨#[c]⟩, V.str (Str.ofString "")]) d160 d161
              obtain ⟨t, rfl, ht, hta⟩ : ∃ t, v = .str t ∧ t.length ≤ 82000 ∧ Asc t := by
                simp at hm
                rcases hm with rfl | rfl | rfl | rfl
                · exact ⟨_, rfl, by rw [len_app, h1]; omega, (Asc.one hc').app hja⟩
                · exact ⟨_, rfl, by rw [len_app, h1]; omega, hja.app (Asc.one hc')⟩
                · exact ⟨_, rfl, by rw [h1]; omega, Asc.one hc'⟩
                · exact ⟨_, rfl, by rw [h00]; omega, Asc.of (by decide +kernel)⟩
              refine ⟨_, _, _, _, rfl, rfl, W16.sq 0 rfl, hv, ?_⟩
              exact ⟨_, _, _, _, rfl, ht, hta, ok16.mono (by omega), W16.tail⟩
            · walk_at "rd"
              exact ⟨_, _, _, _, rfl, by omega, hja, ok14.mono (by omega), W14⟩
          obtain ⟨s, x17, y17_, z17, rfl, hsl, hja, ok17, W17⟩ := h
          have hsz : s.length ≤ sizeLine := size_le (by omega)
          walk_at "rd"
          have h20 : Str.ofString " " = ⟨#[32]⟩ := by decide +kernel
          refine for_rg (fun j σ H' => (∃ y8 y9 y10, σ = [some (.ref a), some (.int (0 + i)), some (.ref b), some (.str ⟨#[c]⟩), some (.int m), some (.str s), some (.int d11), some (.int d12), y8, y9, y10]) ∧ Ow H [] H' [(b, bagO x17 y17_ z17)]) ⟨⟨_, _, _, rfl⟩, W17⟩ ?_ ?_
          · rintro j σ H18 hj ⟨⟨y8, y9, y10, rfl⟩, W18⟩
            walk_at "rd"
            refine .inl ⟨s, rfl, by omega, Res.use fun v1 G1 hv1 => ?_⟩
            have U1 := W18.call0 hv1.1
            walk_at "rd"
            refine Res.use fun v2 G2 hv2 => ?_
            have U2 := U1.call0 hv2.1
            refine ⟨dat s c, dat s c, hv1.dp hv2.1, hv2.dp Keep.refl, dat_ok hja (by omega), dat_ok hja (by omega), ?_⟩
            walk_at "rd"
            refine ifF (by rw [dat_eq]; rfl) ?_
            walk_at "rd"
            refine .inl ⟨s, rfl, by omega, Res.use (c := 32) fun v3 G3 hv3 => ?_⟩
            have U3 := U2.call0 hv3.1
            walk_at "rd"
            refine Res.use (c := 32) fun v4 G4 hv4 => ?_
            have U4 := U3.call0 hv4.1
            refine ⟨dat s 32, dat s 32, hv3.dp hv4.1, hv4.dp Keep.refl, dat_ok hja (by decide), dat_ok hja (by decide), ?_⟩
            walk_at "rd"
            refine ifF (by rw [dat_eq]; rfl) ?_
            walk_at "rd"
            rcases hv1.2 with ⟨e1, rfl⟩ | ⟨ws, p, e1, rfl, np, hp⟩
            · refine ifF rfl ?_
              walk_at "rd"
              exact ⟨⟨_, _, _, rfl⟩, U4⟩
            · have U5 := W18.res U4 np (hv4.1 _ _ (hv3.1 _ _ (hv2.1 _ _ hp (by simp)) (by simp)) (by simp))
              have hwl : ws.length ≤ s.length + 1 := by
                unfold res at e1
                split at e1
                · cases e1
                · rw [← Option.some.inj e1]; exact split_len (by omega)
              refine ifT rfl ?_
              walk_at "rd"
              rename_i H6 kp6 hp6 W6
              exact ⟨⟨_, _, _, rfl⟩, W6.tail⟩
          · rintro σ H18 ⟨⟨y8, y9, y10, rfl⟩, W18⟩
            walk_at "rd"
            rename_i pl Hl npl kpl hpl Wl pt Ht npt kpt hpt Wt pd Hd npd kpd hpd Wd pa Ha npa kpa hpa Wa
            walk_at "take"
            rename_i d19 x19 y19 z19 H19 d190 d191 ok19 kp19 hb19 W19
            obtain ⟨v, hv, hm⟩ := atI_in (xs := [V.non, V.int 7, V.bl true, V.ref pl, V.ref pt, V.ref pd, V.bl false]) d190 d191
            refine ⟨_, _, _, _, rfl, rfl, W19.sq 0 rfl, hv, ?_⟩
            have any : ∃ t, TyX K H19 v (.type t) ∧ kitB t "str" = some false := by
              simp at hm
              rcases hm with rfl | rfl | rfl | rfl | rfl | rfl | rfl
              · exact ⟨_, .base .non, ki_non_str⟩
              · exact ⟨_, .base (.int _), ki_int_str⟩
              · exact ⟨_, .base (.bl _), ki_bl_str⟩
              · exact ⟨_, .base (.lst (W19.get 3 rfl)), ki_lst_str⟩
              · exact ⟨_, .base (.tup (W19.get 2 rfl)), ki_tup_str⟩
              · exact ⟨_, .base (.dK (W19.get 1 rfl)), ki_dK_str⟩
              · exact ⟨_, .base (.bl _), ki_bl_str⟩
            walk_at "rd"
            refine .inr ⟨any, ?_⟩
            walk_at "rd"
            refine .inr ⟨any, ?_⟩
            walk_at "rd"
            exact ⟨⟨_, _, _, _, _, _, _, _, _, _, rfl⟩, W19.drop⟩
    · rintro σ H1 ⟨⟨y1, y2, y3, y4, y5, y6, y7, y8, y9, y10, rfl⟩, W1⟩
      walk_at "rd"
      refine .inl ⟨_, rfl, by decide +kernel, Res.use (c := 32) fun v1 G1 hv1 => ?_⟩
      have e1 : res (Str.ofString "a") 32 = some [Str.ofString "a"] := by decide +kernel
      have e2 : res (Str.ofString "") 32 = none := by decide +kernel
      have e3 : res (Str.ofString " ") 32 = none := by decide +kernel
      have U1 := W1.call0 hv1.1
      walk_at "rd"
      rename_i p2 H2 np2 kp2 hp2 W2
      refine ⟨dat (Str.ofString "a") 32, dStrs [Str.ofString "a"], hv1.dp kp2, dp_strs (ws := [Str.ofString "a"]) (show SqL K H2 p2 ([Str.ofString "a"].map V.str) from W2.sq (xs := [V.str (Str.ofString "a")]) 0 rfl), dat_ok (Asc.of (by decide +kernel)) (by decide), by decide +kernel, ?_⟩
      refine ⟨_, rfl, ?_⟩
      refine ifT (by unfold dat; rw [e1]; exact eqv_dstrs _) ?_
      walk_at "rd"
      refine .inl ⟨_, rfl, by decide +kernel, Res.use (c := 32) fun v3 G3 hv3 => ?_⟩
      obtain ⟨_, ⟨_, rfl⟩ | ⟨ws3, p3, e, _⟩⟩ := hv3
      rotate_left
      · rw [e2] at e; cases e
      walk_at "rd"
      refine .inl ⟨_, rfl, by decide +kernel, Res.use (c := 32) fun v4 G4 hv4 => ?_⟩
      obtain ⟨_, ⟨_, rfl⟩ | ⟨ws4, p4, e, _⟩⟩ := hv4
      rotate_left
      · rw [e3] at e; cases e
      walk_at "rd"
      exact q _
end
end K06
namespace K06
open PySem PySem.Spec PyProof.Rows L2 FR TL
theorem all_mk {P : Program} {w : World} {K : PySem.W.Frag} {h : Heap} {mg : Str → Option Value} {fa : Addr} (X : K.In h) (G : h.Ns mainGlobals mg) (hfa : mg "law" = some (.ref fa))
    {f0 : Addr} {od0 an0 : Option Addr} {sl0 : Array (Option Value)} {oc0 dc0 pm0 cd0 ct0 : Value}
    {D0 : Addr} {t0_0 : Tok}
    {f1 : Addr} {od1 an1 : Option Addr} {sl1 : Array (Option Value)} {oc1 kV1 dc1 pm1 cd1 ct1 : Value}
    {f2 : Addr} {od2 an2 : Option Addr} {sl2 : Array (Option Value)} {oc2 kV2 dc2 pm2 cd2 ct2 : Value}
    {f3 : Addr} {od3 an3 : Option Addr} {sl3 : Array (Option Value)} {oc3 kV3 dc3 pm3 cd3 ct3 : Value}
    {f4 : Addr} {od4 an4 : Option Addr} {sl4 : Array (Option Value)} {oc4 kV4 dc4 pm4 cd4 ct4 : Value}
    {f5 : Addr} {od5 an5 : Option Addr} {sl5 : Array (Option Value)} {oc5 kV5 dc5 pm5 cd5 ct5 : Value}
    {f6 : Addr} {od6 an6 : Option Addr} {sl6 : Array (Option Value)} {oc6 kV6 dc6 pm6 cd6 ct6 : Value}
    (a0 : PySem.W.nsIn K mainGlobals "split_words" = some (some (.ref f0)))
    (l0 : K.lookup f0 = some ⟨oc0, od0, .func (PySem.W.fnOf "split_words" "split_words" (defArgs s_split_words) (defBody s_split_words) (defScope s_split_words) .none (.ref D0) dc0 pm0 an0 cd0 ct0), sl0⟩)
    (c0 : PySem.W.codeIn K cd0 "split_words" = true) (k0 : PySem.W.keepIn K (.ref f0) = true)
    (w0_0 : PySem.W.nsIn K D0 "separator" = some (some (.str " " t0_0)))
    (a1 : PySem.W.nsIn K mainGlobals "_law_cell" = some (some (.ref f1)))
    (l1 : K.lookup f1 = some ⟨oc1, od1, .func (PySem.W.fnOf "_law_cell" "_law_cell" (defArgs s_cell) (defBody s_cell) (defScope s_cell) .none kV1 dc1 pm1 an1 cd1 ct1), sl1⟩)
    (c1 : PySem.W.codeIn K cd1 "_law_cell" = true) (k1 : PySem.W.keepIn K (.ref f1) = true)
    (a2 : PySem.W.nsIn K mainGlobals "_law_bag" = some (some (.ref f2)))
    (l2 : K.lookup f2 = some ⟨oc2, od2, .func (PySem.W.fnOf "_law_bag" "_law_bag" (defArgs s_bag) (defBody s_bag) (defScope s_bag) .none kV2 dc2 pm2 an2 cd2 ct2), sl2⟩)
    (c2 : PySem.W.codeIn K cd2 "_law_bag" = true) (k2 : PySem.W.keepIn K (.ref f2) = true)
    (a3 : PySem.W.nsIn K mainGlobals "_law_take" = some (some (.ref f3)))
    (l3 : K.lookup f3 = some ⟨oc3, od3, .func (PySem.W.fnOf "_law_take" "_law_take" (defArgs s_take) (defBody s_take) (defScope s_take) .none kV3 dc3 pm3 an3 cd3 ct3), sl3⟩)
    (c3 : PySem.W.codeIn K cd3 "_law_take" = true) (k3 : PySem.W.keepIn K (.ref f3) = true)
    (a4 : PySem.W.nsIn K mainGlobals "_law_word" = some (some (.ref f4)))
    (l4 : K.lookup f4 = some ⟨oc4, od4, .func (PySem.W.fnOf "_law_word" "_law_word" (defArgs s_word) (defBody s_word) (defScope s_word) .none kV4 dc4 pm4 an4 cd4 ct4), sl4⟩)
    (c4 : PySem.W.codeIn K cd4 "_law_word" = true) (k4 : PySem.W.keepIn K (.ref f4) = true)
    (a5 : PySem.W.nsIn K mainGlobals "_law_parted" = some (some (.ref f5)))
    (l5 : K.lookup f5 = some ⟨oc5, od5, .func (PySem.W.fnOf "_law_parted" "_law_parted" (defArgs s_parted) (defBody s_parted) (defScope s_parted) .none kV5 dc5 pm5 an5 cd5 ct5), sl5⟩)
    (c5 : PySem.W.codeIn K cd5 "_law_parted" = true) (k5 : PySem.W.keepIn K (.ref f5) = true)
    (a6 : PySem.W.nsIn K mainGlobals "law" = some (some (.ref f6)))
    (l6 : K.lookup f6 = some ⟨oc6, od6, .func (PySem.W.fnOf "law" "law" (defArgs s_law) (defBody s_law) (defScope s_law) .none kV6 dc6 pm6 an6 cd6 ct6), sl6⟩)
    (c6 : PySem.W.codeIn K cd6 "law" = true) (k6 : PySem.W.keepIn K (.ref f6) = true)
    (z0 : PySem.W.nsIn K mainGlobals "int" = some none)
    (z1 : PySem.W.nsIn K mainGlobals "isinstance" = some none)
    (z2 : PySem.W.nsIn K mainGlobals "len" = some none)
    (z3 : PySem.W.nsIn K mainGlobals "max" = some none)
    (z4 : PySem.W.nsIn K mainGlobals "min" = some none)
    (z5 : PySem.W.nsIn K mainGlobals "range" = some none)
    (z6 : PySem.W.nsIn K mainGlobals "str" = some none) :
    ∃ fd : FuncData, (∀ (s : Shared) (v : Value), BindsTo s fd ⟨[v], []⟩ [("_law_script", v)]) ∧ ∀ base : Heap, K.In base → base.Ns mainGlobals mg → FnOk P w K mg base CX0 3 fa fd ["_law_script"] (spLaw K) := by
  have e := hfa.symm.trans (PySem.W.mg_of X G a6)
  cases e
  let A : Ads := {
    f_split_words := f0
    d_split_words := PySem.W.fnOf "split_words" "split_words" (defArgs s_split_words) (defBody s_split_words) (defScope s_split_words) .none (.ref D0) dc0 pm0 an0 cd0 ct0
    f_cell := f1
    d_cell := PySem.W.fnOf "_law_cell" "_law_cell" (defArgs s_cell) (defBody s_cell) (defScope s_cell) .none kV1 dc1 pm1 an1 cd1 ct1
    f_bag := f2
    d_bag := PySem.W.fnOf "_law_bag" "_law_bag" (defArgs s_bag) (defBody s_bag) (defScope s_bag) .none kV2 dc2 pm2 an2 cd2 ct2
    f_take := f3
    d_take := PySem.W.fnOf "_law_take" "_law_take" (defArgs s_take) (defBody s_take) (defScope s_take) .none kV3 dc3 pm3 an3 cd3 ct3
    f_word := f4
    d_word := PySem.W.fnOf "_law_word" "_law_word" (defArgs s_word) (defBody s_word) (defScope s_word) .none kV4 dc4 pm4 an4 cd4 ct4
    f_parted := f5
    d_parted := PySem.W.fnOf "_law_parted" "_law_parted" (defArgs s_parted) (defBody s_parted) (defScope s_parted) .none kV5 dc5 pm5 an5 cd5 ct5
    f_law := fa
    d_law := PySem.W.fnOf "law" "law" (defArgs s_law) (defBody s_law) (defScope s_law) .none kV6 dc6 pm6 an6 cd6 ct6 }
  have T : Txt K mg A := {
    F_split_words := ⟨⟨oc0, od0, .none, .ref D0, dc0, pm0, an0, cd0, ct0, sl0, rfl, l0, c0, .inl ⟨rfl, rfl⟩, .inr ⟨D0, rfl, (List.forall_mem_cons.mpr ⟨⟨_, w0_0, _, rfl⟩, (fun _ h => by simp at h)⟩)⟩⟩, k0⟩
    g_split_words := PySem.W.mg_of X G a0
    F_cell := fun_mk l1 c1 k1
    B_cell := (fun_mk (st := s_cell) l1 c1 k1).binds (ps := ["_law_script", "_law_k"]) fun _ _ _ _ _ _ us hl => match us, hl with | [_, _], _ => rfl
    g_cell := PySem.W.mg_of X G a1
    F_bag := fun_mk l2 c2 k2
    B_bag := (fun_mk (st := s_bag) l2 c2 k2).binds (ps := ["_law_number"]) fun _ _ _ _ _ _ us hl => match us, hl with | [_], _ => rfl
    g_bag := PySem.W.mg_of X G a2
    F_take := fun_mk l3 c3 k3
    B_take := (fun_mk (st := s_take) l3 c3 k3).binds (ps := ["_law_bag_here", "_law_count"]) fun _ _ _ _ _ _ us hl => match us, hl with | [_, _], _ => rfl
    g_take := PySem.W.mg_of X G a3
    F_word := fun_mk l4 c4 k4
    B_word := (fun_mk (st := s_word) l4 c4 k4).binds (ps := ["_law_bag_here", "_law_parter", "_law_wide"]) fun _ _ _ _ _ _ us hl => match us, hl with | [_, _, _], _ => rfl
    g_word := PySem.W.mg_of X G a4
    F_parted := fun_mk l5 c5 k5
    B_parted := (fun_mk (st := s_parted) l5 c5 k5).binds (ps := ["_law_text_one", "_law_parter"]) fun _ _ _ _ _ _ us hl => match us, hl with | [_, _], _ => rfl
    g_parted := PySem.W.mg_of X G a5
    F_law := fun_mk l6 c6 k6
    B_law := (fun_mk (st := s_law) l6 c6 k6).binds (ps := ["_law_script"]) fun _ _ _ _ _ _ us hl => match us, hl with | [_], _ => rfl
    g_law := PySem.W.mg_of X G a6
    b_int := PySem.W.mg_none_of X G z0
    b_isinstance := PySem.W.mg_none_of X G z1
    b_len := PySem.W.mg_none_of X G z2
    b_max := PySem.W.mg_none_of X G z3
    b_min := PySem.W.mg_none_of X G z4
    b_range := PySem.W.mg_none_of X G z5
    b_str := PySem.W.mg_none_of X G z6 }
  exact ⟨A.d_law, fun s v => .of_eq rfl, fun base _ _ => ok_law T⟩
end K06
open PySem PySem.W PyProof.Rows
set_option maxHeartbeats 0 in
theorem PySem.Challenge.cw_filerights_k06_words_of_texts_holds : PySem.Challenge.rw_filerights_k06_words_of_texts.Holds := by
  w_on; o_law; k_head; (case hw => w_witness2)
  k_fill
  refine L2.walk_of (l := PySem.Challenge.rw_filerights_k06_words_of_texts) (n := 63) (k := 3) (x := "_law_script") (CX := fun _ => L2.CX0) (sp := fun w => K06.spLaw _) rfl (by decide) rfl ⟨rfl, by decide, by decide⟩ (fun w h Y => PySem.W.kIn_of Y) ?F (fun _ _ a ns hl _ hS => ⟨a, ns, rfl, hS, hl, fun _ => rfl⟩) (fun _ _ _ _ _ h => h)
  case F =>
    intro w mg fa h KX G hmg
    refine' K06.all_mk KX G hmg ?a0 ?l0 ?c0 ?k0 ?w0_0 ?a1 ?l1 ?c1 ?k1 ?a2 ?l2 ?c2 ?k2 ?a3 ?l3 ?c3 ?k3 ?a4 ?l4 ?c4 ?k4 ?a5 ?l5 ?c5 ?k5 ?a6 ?l6 ?c6 ?k6 ?z0 ?z1 ?z2 ?z3 ?z4 ?z5 ?z6
    (case a0 => k_is)
    (case l0 => k_is)
    (case c0 => k_is)
    (case k0 => k_is)
    (case w0_0 => k_is)
    (case a1 => k_is)
    (case l1 => k_is)
    (case c1 => k_is)
    (case k1 => k_is)
    (case a2 => k_is)
    (case l2 => k_is)
    (case c2 => k_is)
    (case k2 => k_is)
    (case a3 => k_is)
    (case l3 => k_is)
    (case c3 => k_is)
    (case k3 => k_is)
    (case a4 => k_is)
    (case l4 => k_is)
    (case c4 => k_is)
    (case k4 => k_is)
    (case a5 => k_is)
    (case l5 => k_is)
    (case c5 => k_is)
    (case k5 => k_is)
    (case a6 => k_is)
    (case l6 => k_is)
    (case c6 => k_is)
    (case k6 => k_is)
    (case z0 => k_is)
    (case z1 => k_is)
    (case z2 => k_is)
    (case z3 => k_is)
    (case z4 => k_is)
    (case z5 => k_is)
    (case z6 => k_is)
