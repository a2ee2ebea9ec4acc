import PyProof.Rows.All
import Wide.All
import OpenK.AllK
import Wide.FinOn
import HandS.ForMost
import HandS.IsInst
import HandS.Defaults
import HandS.StrMore
import HandS.Flow
import HandS.Codes
import HandS.EndBits
import HandS.Walk
import HandS.Replace
import PySem.Challenge.RW_filerights_k05_integers_of_texts
set_option Elab.async false
set_option linter.all false
set_option maxRecDepth 100000
/-! own lemmas over the hand layer: what a def's body holds of the heap -/
namespace FR
open PySem PySem.Spec PyProof.Rows L2 TL
/-- all that was tracked, other than at M, is as it was -/
def Keep (M : List Addr) (H H' : Hp) : Prop := ∀ b o, H b = some o → b ∉ M → H' b = some o
theorem Keep.refl {M : List Addr} {H : Hp} : Keep M H H := fun _ _ h _ => h
theorem Keep.same {H H' : Hp} (k : Keep [] H H') : Same H H' := fun b o h => k b o h (by simp)
theorem Keep.of_same {H H' : Hp} (k : Same H H') : Keep [] H H' := fun b o h _ => k b o h
theorem Keep.free {H H' : Hp} (k : Keep [] H H') {p : Addr} (h : H' p = none) : H p = none := k.same.free h
/-- a body's heap: H0 at its entry, M what it may change, L what it holds -/
structure Ow (H0 : Hp) (M : List Addr) (H : Hp) (L : List (Addr × HO)) : Prop where
  keep : ∀ b o, H0 b = some o → b ∉ M → H b = some o
  has : ∀ p ∈ L, H p.1 = some p.2
  nd : (L.map (·.1)).Nodup
  fr : ∀ p ∈ L, H0 p.1 = none ∨ p.1 ∈ M
section
variable {H0 H H' : Hp} {M : List Addr} {L : List (Addr × HO)} {a p : Addr} {o o' : HO} {K : PySem.W.Frag} {xs : List V}
theorem Ow.start0 : Ow H [] H [] := ⟨fun _ _ h _ => h, fun _ h => by simp at h, by simp, fun _ h => by simp at h⟩
theorem Ow.start1 (h : H a = some o) : Ow H [a] H [(a, o)] := ⟨fun _ _ h _ => h, fun p hp => by simp at hp; subst hp; exact h, by simp, fun p hp => by simp at hp; subst hp; exact .inr (by simp)⟩
theorem Ow.get (W : Ow H0 M H L) (i : Nat) (e : L[i]? = some (a, o)) : H a = some o := W.has _ (List.mem_of_getElem? e)
theorem Ow.new (W : Ow H0 M H L) (h : H p = none) : Ow H0 M (upd H p o) ((p, o) :: L) where
  keep := fun b u e hb => by
    rw [upd_ne (ne_of_none (W.keep b u e hb) h)]
    exact W.keep b u e hb
  has := fun q hq => by
    rcases List.mem_cons.mp hq with rfl | hq
    · exact upd_same
    · rw [upd_ne (ne_of_none (W.has q hq) h)]
      exact W.has q hq
  nd := by
    rw [List.map_cons, List.nodup_cons]
    refine ⟨fun hm => ?_, W.nd⟩
    obtain ⟨q, hq, e⟩ := List.mem_map.mp hm
    have := W.has q hq
    rw [show q.1 = p from e, h] at this
    cases this
  fr := fun q hq => by
    rcases List.mem_cons.mp hq with rfl | hq
    · by_cases hm : p ∈ M
      · exact .inr hm
      · cases e : H0 p with
        | none => exact .inl rfl
        | some u =>
          have := W.keep p u e hm
          rw [h] at this
          cases this
    · exact W.fr q hq
theorem nd_of {α β : Type} [DecidableEq α] : ∀ {L : List (α × β)} {i : Nat} {x : α × β} {q : α × β}, (L.map (·.1)).Nodup → L[i]? = some x → q ∈ L → q.1 = x.1 → q = x
  | [], i, x, q, _, e, _, _ => by simp at e
  | y :: L, 0, x, q, hn, e, hq, h => by
    have e' : y = x := Option.some.inj e
    subst e'
    rcases List.mem_cons.mp hq with r | hq
    · exact r
    · rw [List.map_cons, List.nodup_cons] at hn
      exact absurd (List.mem_map.mpr ⟨q, hq, h⟩) hn.1
  | y :: L, i + 1, x, q, hn, e, hq, h => by
    rw [List.map_cons, List.nodup_cons] at hn
    have e' : L[i]? = some x := e
    rcases List.mem_cons.mp hq with r | hq
    · subst r
      exact absurd (List.mem_map.mpr ⟨x, List.mem_of_getElem? e', h.symm⟩) hn.1
    · exact nd_of hn.2 e' hq h
theorem map_set_fst {α β : Type} : ∀ {L : List (α × β)} {i : Nat} {a : α} {o o' : β}, L[i]? = some (a, o) → (L.set i (a, o')).map (·.1) = L.map (·.1)
  | [], i, a, o, o', e => by simp at e
  | y :: L, 0, a, o, o', e => by
    have e' : y = (a, o) := Option.some.inj e
    subst e'
    rfl
  | y :: L, i + 1, a, o, o', e => by
    have e' : L[i]? = some (a, o) := e
    rw [List.set_cons_succ, List.map_cons, List.map_cons, map_set_fst e']
theorem Ow.any1 (W : Ow H0 M H L) (i : Nat) (e : L[i]? = some (a, o)) (k : Keep [a] H H') (h : H' a = some o') : Ow H0 M H' (L.set i (a, o')) where
  keep := fun b u eb hb => by
    have z := W.keep b u eb hb
    refine k b u z ?_
    intro hm
    have hm' : b = a := by simpa using hm
    subst hm'
    rcases W.fr _ (List.mem_of_getElem? e) with r | r
    · rw [show (b, o).1 = b from rfl, eb] at r; cases r
    · exact hb r
  has := fun q hq => by
    rcases List.mem_or_eq_of_mem_set hq with hq | rfl
    · by_cases ha : q.1 = a
      · have := nd_of (q := q) (by rw [map_set_fst (o' := o') e]; exact W.nd) (show (L.set i (a, o'))[i]? = some (a, o') by
          have hi : i < L.length := (List.getElem?_eq_some_iff.mp e).1
          rw [List.getElem?_set_self hi]) (by assumption) ha
        subst this
        exact h
      · exact k _ _ (W.has q hq) (by simpa using ha)
    · exact h
  nd := by rw [map_set_fst e]; exact W.nd
  fr := fun q hq => by
    rcases List.mem_or_eq_of_mem_set hq with hq | rfl
    · exact W.fr q hq
    · exact (W.fr (a, o) (List.mem_of_getElem? e) : H0 a = none ∨ a ∈ M)
theorem keep_upd {H : Hp} {a : Addr} {o : HO} : Keep [a] H (upd H a o) := fun b u e hb => by
  rw [upd_ne (by simpa using hb)]
  exact e
theorem Ow.set (W : Ow H0 M H L) (i : Nat) (e : L[i]? = some (a, o)) : Ow H0 M (upd H a o') (L.set i (a, o')) := W.any1 i e keep_upd upd_same
/-- a call that changed nothing -/
theorem Ow.call0 (W : Ow H0 M H L) (k : Keep [] H H') : Ow H0 M H' L where
  keep := fun b u e hb => k b u (W.keep b u e hb) (by simp)
  has := fun q hq => k _ _ (W.has q hq) (by simp)
  nd := W.nd
  fr := W.fr
/-- .. and handed back a new object -/
theorem Ow.res (W : Ow H0 M H L) (W' : Ow H0 M H' L) (hp : H p = none) (h : H' p = some o) : Ow H0 M H' ((p, o) :: L) where
  keep := W'.keep
  has := fun q hq => by
    rcases List.mem_cons.mp hq with rfl | hq
    · exact h
    · exact W'.has q hq
  nd := by
    rw [List.map_cons, List.nodup_cons]
    refine ⟨fun hm => ?_, W.nd⟩
    obtain ⟨q, hq, e⟩ := List.mem_map.mp hm
    have := W.has q hq
    rw [show q.1 = p from e, hp] at this
    cases this
  fr := fun q hq => by
    rcases List.mem_cons.mp hq with rfl | hq
    · by_cases hm : p ∈ M
      · exact .inr hm
      · cases e : H0 p with
        | none => exact .inl rfl
        | some u =>
          have := W.keep p u e hm
          rw [hp] at this
          cases this
    · exact W.fr q hq
theorem Ow.tail {q : Addr × HO} (W : Ow H0 M H (q :: L)) : Ow H0 M H L := ⟨W.keep, fun p hp => W.has p (List.mem_cons_of_mem _ hp), (List.nodup_cons.mp W.nd).2, fun p hp => W.fr p (List.mem_cons_of_mem _ hp)⟩
theorem Ow.drop (W : Ow H0 M H L) : Ow H0 M H [] := ⟨W.keep, fun _ h => by simp at h, by simp, fun _ h => by simp at h⟩
theorem Ow.seq (W : Ow H0 M H L) (h : SqL K H0 a xs) (ha : a ∉ M) : SqL K H a xs := by
  rcases h with (h | ⟨o, h⟩) | h
  · exact .inl (.inl (W.keep _ _ h ha))
  · exact .inl (.inr ⟨o, W.keep _ _ h ha⟩)
  · exact .inr h
theorem Ow.sq (W : Ow H0 M H L) (i : Nat) (e : L[i]? = some (a, .lst xs)) : SqL K H a xs := .inl (.inl (W.get i e))
theorem Ow.sqT (W : Ow H0 M H L) (i : Nat) (e : L[i]? = some (a, .tup xs)) : SqT K H a xs := .inl (.inl (W.get i e))
end
/-! ### objects that are made or changed: the heap behind is told by what it keeps -/
structure NewO (o : HO) (Q : VK) (H : Hp) : Prop where
  to : ∀ (p : Addr) (H' : Hp), H p = none → Keep [] H H' → H' p = some o → Q (.ref p) H'
structure MutO (a : Addr) (o : HO) (Q : Hp → Prop) (H : Hp) : Prop where
  to : ∀ H' : Hp, Keep [a] H H' → H' a = some o → Q H'
theorem keep_new {H : Hp} {p : Addr} {o : HO} (np : H p = none) : Keep [] H (upd H p o) := fun b u e _ => by
  rw [upd_ne (ne_of_none e np)]
  exact e
theorem NewO.all {o : HO} {Q : VK} {H : Hp} (h : NewO o Q H) : ∀ p, H p = none → Q (.ref p) (upd H p o) := fun p np => h.to p _ np (keep_new np) upd_same
theorem MutO.at {a : Addr} {o : HO} {Q : Hp → Prop} {H : Hp} (h : MutO a o Q H) : Q (upd H a o) := h.to _ keep_upd upd_same
section
variable {H0 H H' : Hp} {M : List Addr} {L : List (Addr × HO)} {a p : Addr} {o o' : HO} {G : Prop}
theorem with1 (i : Nat) (W : Ow H0 M H L) (e : L[i]? = some (a, o)) (k : Keep [a] H H') (h : H' a = some o') (g : Ow H0 M H' (L.set i (a, o')) → G) : G := g (W.any1 i e k h)
theorem withN (W : Ow H0 M H L) (np : H p = none) (k : Keep [] H H') (h : H' p = some o) (g : Ow H0 M H' ((p, o) :: L) → G) : G := g (W.res (W.call0 k) np h)
theorem with0 (W : Ow H0 M H L) (k : Keep [] H H') (g : Ow H0 M H' L → G) : G := g (W.call0 k)
end
section
variable {X : Cx} {e : Expr} {es : List Expr} {t t' : TE} {ta : TA} {pos : Pos} {K : PySem.W.Frag}
def mA (t : TA) : TA := fun σ H Q => ∃ Q0, t σ H Q0 ∧ ∀ xs H', Q0 xs H' → Q xs H'
theorem pa_m (h : PA X es ta) : PA X es (mA ta) := ⟨fun pos pins s σ H Q I hq => by
  obtain ⟨Q0, h0, hi⟩ := hq
  exact thn (h.run pos pins s σ H Q0 I h0) fun us s1 ⟨xs, H1, I1, r, q⟩ => ⟨xs, H1, I1, r, hi _ _ q⟩⟩
theorem pe_imp (h : PE X e t) (k : ∀ σ H Q, t' σ H Q → t σ H Q) : PE X e t' := ⟨fun pins s σ H Q I q => h.run pins s σ H Q I (k σ H Q q)⟩
def tLstN (t : TA) : TE := fun σ H Q => t σ H fun xs H1 => xs.length ≤ sizeLine ∧ NewO (.lst xs) Q H1
def tTupN (t : TA) : TE := fun σ H Q => t σ H fun xs H1 => xs.length ≤ sizeLine ∧ NewO (.tup xs) Q H1
theorem pe_lstN (h : PA X es ta) : PE X (.List es pos) (tLstN ta) := pe_imp (pe_lst (pa_m h)) fun σ H Q q => ⟨_, q, fun xs H1 z => ⟨z.1, z.2.all⟩⟩
theorem pe_tupN {x1} (h : PA X es ta) : PE X (.Tuple es x1 pos) (tTupN ta) := pe_imp (pe_tup (pa_m h)) fun σ H Q q => ⟨_, q, fun xs H1 z => ⟨z.1, z.2.all⟩⟩
theorem pe_dnewN : PE X (.Dict [] [] pos) (fun _ H Q => NewO (.dK []) Q H) := pe_imp pe_dnewK fun σ H Q q => q.all
def rSetN : V → V → V → Hp → (Hp → Prop) → Prop := fun o i v H Q => ∃ p xs k j, o = .ref p ∧ i = .int k ∧ H p = some (.lst xs) ∧ ixN xs.length k = some j ∧ MutO p (.lst (xs.set j v)) Q H
theorem set_listN : PSet X rSetN := fun pins s σ H o i v ov iv u Q I ro ri rv h => by
  obtain ⟨p, xs, k, j, e1, e2, hp, hj, q⟩ := h
  exact set_list pins s σ H o i v ov iv u Q I ro ri rv ⟨p, xs, k, j, e1, e2, hp, hj, q.at⟩
def rSlN (K : PySem.W.Frag) : V → Option Int → Option Int → Hp → VK → Prop := fun x lo hi H Q => ∃ a xs, x = .ref a ∧ SqL K H a xs ∧ NewO (.lst (cutV xs lo hi)) Q H
theorem sl_listN : SlR X (rSlN X.K) := fun pins s σ H x v vl vu lo hi sl Q I rx hs pl pu h => by
  obtain ⟨a, xs, e, hx, q⟩ := h
  exact sl_list pins s σ H x v vl vu lo hi sl Q I rx hs pl pu ⟨a, xs, e, hx, q.all⟩
def rCatN : R2 := fun x y H Q => ∃ l b xs zs, x = .ref l ∧ y = .ref b ∧ H l = some (.lst xs) ∧ H b = some (.lst zs) ∧ xs.length + zs.length ≤ sizeLine ∧ NewO (.lst (xs ++ zs)) Q H
theorem op_catN : OpR X (binaryOp .Add) rCatN := fun pins s σ H x y v u Q I rx ry h => by
  obtain ⟨l, b, xs, zs, e1, e2, hl, hb, hz, q⟩ := h
  exact op_cat pins s σ H x y v u Q I rx ry ⟨l, b, xs, zs, e1, e2, hl, hb, hz, q.all⟩
def rAppN : V → List V → Hp → VK → Prop := fun x vs H Q => ∃ l xs y, x = .ref l ∧ vs = [y] ∧ H l = some (.lst xs) ∧ xs.length < sizeLine ∧ MutO l (.lst (xs ++ [y])) (Q .non) H
theorem mt_appN : MtR X "list.append" rAppN := fun pins s σ H x xs v us Q I rx rv h => by
  obtain ⟨l, ys, y, e1, e2, hl, hz, q⟩ := h
  exact mt_append pins s σ H x xs v us Q I rx rv ⟨l, ys, y, e1, e2, hl, hz, q.at⟩
def rSplN : V → List V → Hp → VK → Prop := fun x xs H Q => ∃ a b, x = .str a ∧ xs = [.str b] ∧ (b.length == 0) = false ∧ a.length + 2 ≤ sizeLine ∧ NewO (.lst ((Txt.split a b).map V.str)) Q H
theorem mt_splN : MtR X "str.split" rSplN := fun pins s σ H x xs v us Q I rx rv h => by
  obtain ⟨a, b, e1, e2, h1, h2, q⟩ := h
  exact mt_split pins s σ H x xs v us Q I rx rv ⟨a, b, e1, e2, h1, h2, q.all⟩
def rLofN (K : PySem.W.Frag) : List V → Hp → VK → Prop := fun xs H Q => ∃ p ys, xs = [.ref p] ∧ (SqL K H p ys ∨ SqT K H p ys) ∧ NewO (.lst ys) Q H
theorem call_lofN : CallR X (.type "list") (rLofN X.K) := fun pins s σ H xs us Q I r h => by
  obtain ⟨p, ys, e, hs, q⟩ := h
  exact call_list_of pins s σ H xs us Q I r ⟨p, ys, e, hs, q.all⟩
end
/-! ### calls with keywords of a def without defaults by place -/
section
variable {K : PySem.W.Frag} {x qual : Str} {params : Arguments} {body : List Stmt} {scope : Scope} {kws : List (Str × V)} {f : Addr} {fd : FuncData} {ps : List Str}
theorem kb0 (F : FunD K x qual params body scope [] kws f fd) (n : Nat) (ks : List Str) (ms : List (Str × V)) (g : {α : Type} → List α → List α → List α → List α) (hk : kws ≠ []) (hms : ∀ q ∈ ms, q ∈ kws)
    (hrel : ∀ {vs mz zs : List V} {us mv ws : List Value}, Vals vs us → Vals mz mv → Vals zs ws → Vals (g vs mz zs) (g us mv ws))
    (h : ∀ (D : Addr) (doc pm : Value) (an : Option Addr) (cdv ct : Value) (us mv ws : List Value), us.length = n → mv.length = ms.length → ws.length = ks.length →
      KwChain D ((ms.map (·.1)).zip mv) (bindArgs (PySem.W.fnOf x qual params body scope .none (.ref D) doc pm an cdv ct) ⟨us, ks.zip ws⟩) (ps.zip (g us mv ws))) :
    ∃ mv : List Value, KBn K fd ps n ks (fun us ws => g us mv ws) (fun vs zs => g vs (ms.map (·.2)) zs) := by
  obtain ⟨oc, od, dV, kV, doc, pm, an, cdv, ct, osl, rfl, lk, hcd, hD, hK⟩ := F.ex
  rcases hD with ⟨_, rfl⟩ | ⟨e, _⟩
  · rcases hK with e | ⟨D, rfl, hq⟩
    · exact absurd e hk
    · obtain ⟨mv, hl, rk, hks⟩ := kwd_vals (ms := ms) fun q hm => hq q (hms q hm)
      exact ⟨mv, fun s us ws X l1 l2 => BindsTo.of_looks fun M => KwChain.looks X hks (h D doc pm an cdv ct us mv ws l1 hl l2), fun r1 r2 => hrel r1 rk r2⟩
  · exact absurd rfl e
end
section
variable {X : Cx} {CX : CXT} {k : Nat} {f : Addr} {fd : FuncData} {ps ks : List Str} {sp : Sp} {E : XK} {x : Str} {p pos : Pos} {kws : List Keyword} {tk : TA} {g : List Value → List Value → List Value} {gV : List V → List V → List V}
theorem pe_callN0 (F : FnOk X.prog X.w X.K X.mg X.base CX k f fd ps sp) (hr : Room k X.A) (hg : Gl X x) (hm : X.mg x = some (.ref f)) (hk : PySem.W.keepIn X.K (.ref f) = true) (hb : KBn X.K fd ps 0 ks g gV) (hx : Passes CX X E) (hkw : PK X kws tk)
    (hall : (backToKw pos (keywordEach kws X.env)).all (·.1.isSome) = true := by rfl) (hks : (backToKw pos (keywordEach kws X.env)).filterMap (·.1) = ks := by rfl) (hdb : (x == ("__debug__" : Str)) = false := by decide)
    (hpl : ((backTo pos (starEach [] X.env)).any (·.1) || (backToKw pos (keywordEach kws X.env)).any (·.1.isNone)) = false := by rfl) : PE X (.Call (.Name x p) [] kws pos) (tCallN 0 ks.length sp gV E tNil tk) := ⟨fun pins s σ H Q I h => by
  refine wpAny_Call_Name_kw (ld_glob I hg hm (PySem.W.callWith_KW0 (h₀ := X.base) I.ok.mod.kin hk hall ?_ hpl) hdb)
  refine thn (hkw.run pos pins s σ H _ I h) fun ws s2 hz => ?_
  obtain ⟨zs, H2, I2, rz, l1, l2, q2⟩ := hz
  refine ⟨I2.kIn, ?_⟩
  rw [hks]
  exact run_fnN (us := []) (vs := []) F hr hb hx I2 .nil rz rfl l2 q2⟩
end
/-! ### tests -/
section
variable {A B : Prop}
theorem ifT {b : Bool} (h : b = true) (a : A) : if b = true then A else B := by rw [if_pos h]; exact a
theorem ifF {b : Bool} (h : b = false) (a : B) : if b = true then A else B := by rw [h, if_neg Bool.false_ne_true]; exact a
theorem ifB {b : Bool} (h1 : b = true → A) (h2 : b = false → B) : if b = true then A else B := by
  cases b
  · exact ifF rfl (h2 rfl)
  · exact ifT rfl (h1 rfl)
theorem ifNB {b : Bool} (h1 : b = false → A) (h2 : b = true → B) : if (!b) = true then A else B := by
  cases b
  · exact ifT rfl (h1 rfl)
  · exact ifF rfl (h2 rfl)
theorem ifD {p : Prop} [Decidable p] (h1 : p → A) (h2 : ¬ p → B) : if decide p = true then A else B := by
  by_cases h : p
  · exact ifT (decide_eq_true h) (h1 h)
  · exact ifF (decide_eq_false h) (h2 h)
theorem ifN {p : Prop} [Decidable p] (h1 : ¬ p → A) (h2 : p → B) : if (!decide p) = true then A else B := by
  by_cases h : p
  · exact ifF (by rw [decide_eq_true h]; rfl) (h2 h)
  · exact ifT (by rw [decide_eq_false h]; rfl) (h1 h)
theorem ifVI {i j : Int} (h1 : i = j → A) (h2 : i ≠ j → B) : if decide (V.int i = V.int j) = true then A else B := ifD (fun h => h1 (V.int.inj h)) fun h => h2 fun e => h (by rw [e])
theorem ifVIn {i j : Int} (h1 : i ≠ j → A) (h2 : i = j → B) : if (!decide (V.int i = V.int j)) = true then A else B := ifN (fun h => h1 fun e => h (by rw [e])) fun h => h2 (V.int.inj h)
theorem ifVS {i j : Str} (h1 : i = j → A) (h2 : i ≠ j → B) : if decide (V.str i = V.str j) = true then A else B := ifD (fun h => h1 (V.str.inj h)) fun h => h2 fun e => h (by rw [e])
theorem ifVSn {i j : Str} (h1 : i ≠ j → A) (h2 : i = j → B) : if (!decide (V.str i = V.str j)) = true then A else B := ifN (fun h => h1 fun e => h (by rw [e])) fun h => h2 (V.str.inj h)
end
/-! ### isinstance -/
theorem isi {K : PySem.W.Frag} {H : Hp} {Q : VK} {x : V} {t c : String} {b : Bool} (ty : TyX K H x (.type t)) (k : kitB t c = some b) (q : Q (.bl b) H) : rIsi K [x, .ty c] H Q := ⟨x, .ty c, .type t, .type c, b, rfl, .ty c, ty, kit_ty k, q⟩
theorem ki_int_str : kitB "int" "str" = some false := by decide +kernel
theorem ki_int_int : kitB "int" "int" = some true := by decide +kernel
theorem ki_int_bool : kitB "int" "bool" = some false := by decide +kernel
theorem ki_int_list : kitB "int" "list" = some false := by decide +kernel
theorem ki_int_tuple : kitB "int" "tuple" = some false := by decide +kernel
theorem ki_int_dict : kitB "int" "dict" = some false := by decide +kernel
theorem ki_str_str : kitB "str" "str" = some true := by decide +kernel
theorem ki_str_int : kitB "str" "int" = some false := by decide +kernel
theorem ki_str_bool : kitB "str" "bool" = some false := by decide +kernel
theorem ki_str_list : kitB "str" "list" = some false := by decide +kernel
theorem ki_str_tuple : kitB "str" "tuple" = some false := by decide +kernel
theorem ki_str_dict : kitB "str" "dict" = some false := by decide +kernel
theorem ki_bl_str : kitB "bool" "str" = some false := by decide +kernel
theorem ki_bl_int : kitB "bool" "int" = some true := by decide +kernel
theorem ki_bl_bool : kitB "bool" "bool" = some true := by decide +kernel
theorem ki_bl_list : kitB "bool" "list" = some false := by decide +kernel
theorem ki_bl_tuple : kitB "bool" "tuple" = some false := by decide +kernel
theorem ki_bl_dict : kitB "bool" "dict" = some false := by decide +kernel
theorem ki_non_str : kitB "NoneType" "str" = some false := by decide +kernel
theorem ki_non_int : kitB "NoneType" "int" = some false := by decide +kernel
theorem ki_non_bool : kitB "NoneType" "bool" = some false := by decide +kernel
theorem ki_non_list : kitB "NoneType" "list" = some false := by decide +kernel
theorem ki_non_tuple : kitB "NoneType" "tuple" = some false := by decide +kernel
theorem ki_non_dict : kitB "NoneType" "dict" = some false := by decide +kernel
theorem ki_lst_str : kitB "list" "str" = some false := by decide +kernel
theorem ki_lst_int : kitB "list" "int" = some false := by decide +kernel
theorem ki_lst_bool : kitB "list" "bool" = some false := by decide +kernel
theorem ki_lst_list : kitB "list" "list" = some true := by decide +kernel
theorem ki_lst_tuple : kitB "list" "tuple" = some false := by decide +kernel
theorem ki_lst_dict : kitB "list" "dict" = some false := by decide +kernel
theorem ki_tup_str : kitB "tuple" "str" = some false := by decide +kernel
theorem ki_tup_int : kitB "tuple" "int" = some false := by decide +kernel
theorem ki_tup_bool : kitB "tuple" "bool" = some false := by decide +kernel
theorem ki_tup_list : kitB "tuple" "list" = some false := by decide +kernel
theorem ki_tup_tuple : kitB "tuple" "tuple" = some true := by decide +kernel
theorem ki_tup_dict : kitB "tuple" "dict" = some false := by decide +kernel
theorem ki_dK_str : kitB "dict" "str" = some false := by decide +kernel
theorem ki_dK_int : kitB "dict" "int" = some false := by decide +kernel
theorem ki_dK_bool : kitB "dict" "bool" = some false := by decide +kernel
theorem ki_dK_list : kitB "dict" "list" = some false := by decide +kernel
theorem ki_dK_tuple : kitB "dict" "tuple" = some false := by decide +kernel
theorem ki_dK_dict : kitB "dict" "dict" = some true := by decide +kernel
/-- the generator of a law's numbers: at b a list of three numbers, the last at most n -/
def bagO (x y z : Int) : HO := .lst [.int x, .int y, .int z]
structure BagOk (n : Nat) (x y z : Int) : Prop where
  x0 : 0 ≤ x
  y0 : 0 ≤ y
  y1 : y < 2147483648
  z0 : 0 ≤ z
  z1 : z ≤ (n : Int)
theorem BagOk.mono {n m : Nat} {x y z : Int} (h : BagOk n x y z) (e : n ≤ m) : BagOk m x y z := ⟨h.x0, h.y0, h.y1, h.z0, by have := h.z1; omega⟩
/-- take(bag, k): a number below k; the bag is changed, by one count at the most -/
def spTake : Sp := fun vs H Q _ => ∃ (b : Addr) (k : Int) (n : Nat) (x y z : Int), vs = [.ref b, .int k] ∧ H b = some (bagO x y z) ∧ BagOk n x y z ∧ n < 1000000 ∧ 0 < k ∧ k < 1073741824 ∧
  ∀ (d x' y' z' : Int) (H' : Hp), 0 ≤ d → d < k → BagOk (n + 1) x' y' z' → Keep [b] H H' → H' b = some (bagO x' y' z') → Q (.int d) H'
theorem atI_in {α : Type} {xs : List α} {d : Int} (h0 : 0 ≤ d) (h1 : d < (xs.length : Int)) : ∃ v, atI xs d = some v ∧ v ∈ xs := by
  obtain ⟨k, rfl⟩ := Int.eq_ofNat_of_zero_le h0
  have hk : k < xs.length := by omega
  exact ⟨xs[k], atI_nat (List.getElem?_eq_getElem hk), List.getElem_mem hk⟩
theorem size_ok {n : Nat} (h : n ≤ 10000) : n < sizeLine := Nat.lt_of_le_of_lt h (by decide)
theorem size_le {n : Nat} (h : n ≤ 10000) : n ≤ sizeLine := Nat.le_of_lt (size_ok h)
/-! ### texts by their codes -/
theorem len_app (x y : Str) : (x ++ y).length = x.length + y.length := by rw [len_tl, len_tl, len_tl, tl_append, List.length_append]
theorem joinL_nil : ∀ ps : List (List Nat), joinL [] ps = ps.flatten
  | [] => rfl
  | [p] => by simp [joinL]
  | p :: q :: r => by
    have ih := joinL_nil (q :: r)
    show p ++ ([] ++ joinL [] (q :: r)) = _
    rw [ih]
    simp
theorem tl_joinE (ss : List Str) : tl (Txt.join (Str.ofString "") ss) = (ss.map tl).flatten := by
  rw [join_eq, tl_join, show tl (Str.ofString "") = [] by decide +kernel, joinL_nil]
theorem sum_one : ∀ {ss : List Str}, (∀ s ∈ ss, s.length = 1) → (ss.map (·.length)).sum = ss.length
  | [], _ => rfl
  | s :: r, h => by
    rw [List.map_cons, List.sum_cons, sum_one fun t ht => h t (List.mem_cons_of_mem _ ht), h s List.mem_cons_self, List.length_cons]
    omega
theorem flat_one : ∀ {ss : List Str}, (∀ s ∈ ss, s.length = 1) → (ss.map tl).flatten.length = ss.length
  | [], _ => rfl
  | s :: r, h => by
    have h1 := h s List.mem_cons_self
    rw [len_tl] at h1
    rw [List.map_cons, List.flatten_cons, List.length_append, flat_one fun t ht => h t (List.mem_cons_of_mem _ ht), List.length_cons, h1]
    omega
theorem join_one {ss : List Str} (h : ∀ s ∈ ss, s.length = 1) : (Txt.join (Str.ofString "") ss).length = ss.length := by rw [len_tl, tl_joinE, flat_one h]
theorem tl_cutS (z : Str) (lo hi : Option Int) : tl (cutS z lo hi) = ((tl z).drop (HT.sIx z.length 0 lo)).take (HT.sIx z.length z.length hi - HT.sIx z.length 0 lo) := rfl
theorem cutS_len (z : Str) (lo hi : Option Int) : (cutS z lo hi).length ≤ z.length := by
  rw [len_tl, tl_cutS, List.length_take, List.length_drop, len_tl z]
  omega
theorem starts_one (x : Str) (c : Nat) : Txt.startswith x ⟨#[c]⟩ = true ↔ (tl x)[0]? = some c := by
  unfold Txt.startswith
  rw [Bool.and_eq_true, decide_eq_true_eq]
  exact PySem.StrLaws.subAt_one x c 0
/-! ### loops by what is behind -/
section
variable {g : TG} {tb : TS} {D : Ends} {σ : L2.St} {H : Hp}
theorem for_str {s : Str} (Pv : List Nat → L2.St → Hp → Prop) (h0 : Pv [] σ H)
    (hs : ∀ pre c post σ H, tl s = pre ++ c :: post → Pv pre σ H → g (.str ⟨#[c]⟩) σ H fun σ2 H2 => tb { D with nx := Pv (pre ++ [c]), ct := Pv (pre ++ [c]), bk := D.nx } σ2 H2) (hd : ∀ σ H, Pv (tl s) σ H → D.nx σ H) :
    ∃ W : Nat → Nat → L2.St → Hp → Prop, (∃ m, W 0 m σ H) ∧ ∀ i m σ H, W i m σ H →
      ((Its s).stop i H ∧ D.nx σ H) ∨ ((Its s).go i H ∧ ∃ N : L2.St → Hp → Prop, (∀ σ' H', N σ' H' → ∃ m', m' < m ∧ W (i + 1) m' σ' H') ∧ ∀ x H', (Its s).yld i H x H' → g x σ H' fun σ2 H2 => tb { D with nx := N, ct := N, bk := D.nx } σ2 H2) := by
  have hsz : s.cps.size = (tl s).length := by simp
  refine for_it walk_str (fun i σ H => Pv ((tl s).take i) σ H) (by simpa using h0) (fun _ _ _ _ _ => True.intro) ?_ (fun σ H p => hd σ H (by rw [hsz, List.take_length] at p; exact p))
  rintro i x σ H H' hi p ⟨rfl, c, hc, rfl⟩
  have hc' : (tl s)[i]? = some c := by simpa using hc
  have hl : i < (tl s).length := by omega
  have e : tl s = (tl s).take i ++ c :: (tl s).drop (i + 1) := by
    have h2 : (tl s)[i] = c := by rw [List.getElem?_eq_getElem hl] at hc'; exact Option.some.inj hc'
    rw [← h2, ← List.drop_eq_getElem_cons hl, List.take_append_drop]
  have e2 : (tl s).take (i + 1) = (tl s).take i ++ [c] := by rw [List.take_add_one, hc']; rfl
  rw [e2]
  exact hs _ c _ σ _ e p
theorem for_rg {lo : Int} {n : Nat} (Pv : Nat → L2.St → Hp → Prop) (h0 : Pv 0 σ H)
    (hs : ∀ i σ H, i < n → Pv i σ H → g (.int (lo + i)) σ H fun σ2 H2 => tb { D with nx := Pv (i + 1), ct := Pv (i + 1), bk := D.nx } σ2 H2) (hd : ∀ σ H, Pv n σ H → D.nx σ H) :
    ∃ W : Nat → Nat → L2.St → Hp → Prop, (∃ m, W 0 m σ H) ∧ ∀ i m σ H, W i m σ H →
      ((Itr lo n).stop i H ∧ D.nx σ H) ∨ ((Itr lo n).go i H ∧ ∃ N : L2.St → Hp → Prop, (∀ σ' H', N σ' H' → ∃ m', m' < m ∧ W (i + 1) m' σ' H') ∧ ∀ x H', (Itr lo n).yld i H x H' → g x σ H' fun σ2 H2 => tb { D with nx := N, ct := N, bk := D.nx } σ2 H2) := for_range Pv h0 hs hd
theorem for_li {K : PySem.W.Frag} {a : Addr} {xs : List V} (Pv : List V → L2.St → Hp → Prop) (h0 : Pv [] σ H) (hl : ∀ pre post σ H, xs = pre ++ post → Pv pre σ H → SqL K H a xs)
    (hs : ∀ pre x post σ H, xs = pre ++ x :: post → Pv pre σ H → g x σ H fun σ2 H2 => tb { D with nx := Pv (pre ++ [x]), ct := Pv (pre ++ [x]), bk := D.nx } σ2 H2) (hd : ∀ σ H, Pv xs σ H → D.nx σ H) :
    ∃ W : Nat → Nat → L2.St → Hp → Prop, (∃ m, W 0 m σ H) ∧ ∀ i m σ H, W i m σ H →
      ((Itl K a).stop i H ∧ D.nx σ H) ∨ ((Itl K a).go i H ∧ ∃ N : L2.St → Hp → Prop, (∀ σ' H', N σ' H' → ∃ m', m' < m ∧ W (i + 1) m' σ' H') ∧ ∀ x H', (Itl K a).yld i H x H' → g x σ H' fun σ2 H2 => tb { D with nx := N, ct := N, bk := D.nx } σ2 H2) := by
  refine for_it (walk_list (xs := xs)) (fun i σ H => Pv (xs.take i) σ H) (by simpa using h0) (fun i σ H _ p => hl (xs.take i) (xs.drop i) σ H (List.take_append_drop i xs).symm p) ?_ (fun σ H p => hd σ H (by rw [List.take_length] at p; exact p))
  rintro i x σ H H' hi p ⟨rfl, hc⟩
  have e : xs = xs.take i ++ x :: xs.drop (i + 1) := by
    have h2 : xs[i] = x := by rw [List.getElem?_eq_getElem hi] at hc; exact Option.some.inj hc
    rw [← h2, ← List.drop_eq_getElem_cons hi, List.take_append_drop]
  have e2 : xs.take (i + 1) = xs.take i ++ [x] := by rw [List.take_add_one, hc]; rfl
  rw [e2]
  exact hs _ x _ σ _ e p
end
section
variable {g : TG} {tt : TT} {te : TE} {vs : List Nat} {σ : L2.St} {H1 : Hp} {D : Addr} {Qd : Hp → Prop}
theorem lc_rg {lo : Int} {n : Nat} (Pv : Nat → Hp → Prop) (h0 : Pv 0 (upd H1 D (.lst [])))
    (hs : ∀ i H, i < n → Pv i H → g (.int (lo + i)) (wipe σ vs) H fun σ2 H2 => wipe σ2 vs = wipe σ vs ∧ tt σ2 H2 fun b H3 =>
      if b = true then te σ2 H3 fun y H4 => ∃ acc, H4 D = some (.lst acc) ∧ acc.length < sizeLine ∧ Pv (i + 1) (upd H4 D (.lst (acc ++ [y]))) else Pv (i + 1) H3) (hd : ∀ H, Pv n H → Qd H) :
    ∃ W : Nat → Nat → Hp → Prop, (∃ m, W 0 m (upd H1 D (.lst []))) ∧ ∀ i m H, W i m H →
      ((Itr lo n).stop i H ∧ Qd H) ∨ ((Itr lo n).go i H ∧ ∃ Nx : Hp → Prop, (∀ H', Nx H' → ∃ m', m' < m ∧ W (i + 1) m' H') ∧ ∀ x H', (Itr lo n).yld i H x H' → g x (wipe σ vs) H' fun σ2 H2 => wipe σ2 vs = wipe σ vs ∧ tt σ2 H2 fun b H3 =>
        if b = true then te σ2 H3 fun y H4 => ∃ acc, H4 D = some (.lst acc) ∧ acc.length < sizeLine ∧ Nx (upd H4 D (.lst (acc ++ [y]))) else Nx H3) := lc_range Pv h0 hs hd
theorem lc_str {s : Str} (Pv : List Nat → Hp → Prop) (h0 : Pv [] (upd H1 D (.lst [])))
    (hs : ∀ pre c post H, tl s = pre ++ c :: post → Pv pre H → g (.str ⟨#[c]⟩) (wipe σ vs) H fun σ2 H2 => wipe σ2 vs = wipe σ vs ∧ tt σ2 H2 fun b H3 =>
      if b = true then te σ2 H3 fun y H4 => ∃ acc, H4 D = some (.lst acc) ∧ acc.length < sizeLine ∧ Pv (pre ++ [c]) (upd H4 D (.lst (acc ++ [y]))) else Pv (pre ++ [c]) H3) (hd : ∀ H, Pv (tl s) H → Qd H) :
    ∃ W : Nat → Nat → Hp → Prop, (∃ m, W 0 m (upd H1 D (.lst []))) ∧ ∀ i m H, W i m H →
      ((Its s).stop i H ∧ Qd H) ∨ ((Its s).go i H ∧ ∃ Nx : Hp → Prop, (∀ H', Nx H' → ∃ m', m' < m ∧ W (i + 1) m' H') ∧ ∀ x H', (Its s).yld i H x H' → g x (wipe σ vs) H' fun σ2 H2 => wipe σ2 vs = wipe σ vs ∧ tt σ2 H2 fun b H3 =>
        if b = true then te σ2 H3 fun y H4 => ∃ acc, H4 D = some (.lst acc) ∧ acc.length < sizeLine ∧ Nx (upd H4 D (.lst (acc ++ [y]))) else Nx H3) := by
  have hsz : s.cps.size = (tl s).length := by simp
  refine lc_it walk_str (fun i H => Pv ((tl s).take i) H) (by simpa using h0) (fun _ _ _ _ => True.intro) ?_ (fun H p => hd H (by rw [hsz, List.take_length] at p; exact p))
  rintro i x H H' hi p ⟨rfl, c, hc, rfl⟩
  have hc' : (tl s)[i]? = some c := by simpa using hc
  have hl : i < (tl s).length := by omega
  have e : tl s = (tl s).take i ++ c :: (tl s).drop (i + 1) := by
    have h2 : (tl s)[i] = c := by rw [List.getElem?_eq_getElem hl] at hc'; exact Option.some.inj hc'
    rw [← h2, ← List.drop_eq_getElem_cons hl, List.take_append_drop]
  have e2 : (tl s).take (i + 1) = (tl s).take i ++ [c] := by rw [List.take_add_one, hc']; rfl
  rw [e2]
  exact hs _ c _ _ e p
theorem lc_li {K : PySem.W.Frag} {a : Addr} {xs : List V} (Pv : List V → Hp → Prop) (h0 : Pv [] (upd H1 D (.lst []))) (hl : ∀ pre post H, xs = pre ++ post → Pv pre H → SqL K H a xs)
    (hs : ∀ pre x post H, xs = pre ++ x :: post → Pv pre H → g x (wipe σ vs) H fun σ2 H2 => wipe σ2 vs = wipe σ vs ∧ tt σ2 H2 fun b H3 =>
      if b = true then te σ2 H3 fun y H4 => ∃ acc, H4 D = some (.lst acc) ∧ acc.length < sizeLine ∧ Pv (pre ++ [x]) (upd H4 D (.lst (acc ++ [y]))) else Pv (pre ++ [x]) H3) (hd : ∀ H, Pv xs H → Qd H) :
    ∃ W : Nat → Nat → Hp → Prop, (∃ m, W 0 m (upd H1 D (.lst []))) ∧ ∀ i m H, W i m H →
      ((Itl K a).stop i H ∧ Qd H) ∨ ((Itl K a).go i H ∧ ∃ Nx : Hp → Prop, (∀ H', Nx H' → ∃ m', m' < m ∧ W (i + 1) m' H') ∧ ∀ x H', (Itl K a).yld i H x H' → g x (wipe σ vs) H' fun σ2 H2 => wipe σ2 vs = wipe σ vs ∧ tt σ2 H2 fun b H3 =>
        if b = true then te σ2 H3 fun y H4 => ∃ acc, H4 D = some (.lst acc) ∧ acc.length < sizeLine ∧ Nx (upd H4 D (.lst (acc ++ [y]))) else Nx H3) := by
  refine lc_it (walk_list (xs := xs)) (fun i H => Pv (xs.take i) H) (by simpa using h0) (fun i H _ p => hl (xs.take i) (xs.drop i) H (List.take_append_drop i xs).symm p) ?_ (fun H p => hd H (by rw [List.take_length] at p; exact p))
  rintro i x H H' hi p ⟨rfl, hc⟩
  have e : xs = xs.take i ++ x :: xs.drop (i + 1) := by
    have h2 : xs[i] = x := by rw [List.getElem?_eq_getElem hi] at hc; exact Option.some.inj hc
    rw [← h2, ← List.drop_eq_getElem_cons hi, List.take_append_drop]
  have e2 : xs.take (i + 1) = xs.take i ++ [x] := by rw [List.take_add_one, hc]; rfl
  rw [e2]
  exact hs _ x _ _ e p
end
end FR
set_option Elab.async false
set_option linter.all false
set_option maxRecDepth 100000
set_option maxHeartbeats 8000000
local macro_rules | `(tactic| walk_at "sq") => `(tactic| first
  | (refine' FR.Ow.sq (i := 0) ?w ?e; (case w => assumption); (case e => rfl))
  | (refine' FR.Ow.sq (i := 1) ?w ?e; (case w => assumption); (case e => rfl))
  | (refine' FR.Ow.sq (i := 2) ?w ?e; (case w => assumption); (case e => rfl))
  | (refine' FR.Ow.sq (i := 3) ?w ?e; (case w => assumption); (case e => rfl))
  | (refine' FR.Ow.sq (i := 4) ?w ?e; (case w => assumption); (case e => rfl))
  | (refine' FR.Ow.sq (i := 5) ?w ?e; (case w => assumption); (case e => rfl))
  | (refine' FR.Ow.sq (i := 6) ?w ?e; (case w => assumption); (case e => rfl))
  | (refine' FR.Ow.sq (i := 7) ?w ?e; (case w => assumption); (case e => rfl))
  | (refine' FR.Ow.sq (i := 8) ?w ?e; (case w => assumption); (case e => rfl))
  | (refine' FR.Ow.sq (i := 9) ?w ?e; (case w => assumption); (case e => rfl))
  | (refine' FR.Ow.sq (i := 10) ?w ?e; (case w => assumption); (case e => rfl))
  | (refine' FR.Ow.sq (i := 11) ?w ?e; (case w => assumption); (case e => rfl))
  | (refine' FR.Ow.sq (i := 12) ?w ?e; (case w => assumption); (case e => rfl))
  | (refine' FR.Ow.sq (i := 13) ?w ?e; (case w => assumption); (case e => rfl))
  | assumption)
local macro_rules | `(tactic| walk_at "hp") => `(tactic| first
  | (refine' FR.Ow.get (i := 0) ?w ?e; (case w => assumption); (case e => rfl))
  | (refine' FR.Ow.get (i := 1) ?w ?e; (case w => assumption); (case e => rfl))
  | (refine' FR.Ow.get (i := 2) ?w ?e; (case w => assumption); (case e => rfl))
  | (refine' FR.Ow.get (i := 3) ?w ?e; (case w => assumption); (case e => rfl))
  | (refine' FR.Ow.get (i := 4) ?w ?e; (case w => assumption); (case e => rfl))
  | (refine' FR.Ow.get (i := 5) ?w ?e; (case w => assumption); (case e => rfl))
  | (refine' FR.Ow.get (i := 6) ?w ?e; (case w => assumption); (case e => rfl))
  | (refine' FR.Ow.get (i := 7) ?w ?e; (case w => assumption); (case e => rfl))
  | (refine' FR.Ow.get (i := 8) ?w ?e; (case w => assumption); (case e => rfl))
  | (refine' FR.Ow.get (i := 9) ?w ?e; (case w => assumption); (case e => rfl))
  | (refine' FR.Ow.get (i := 10) ?w ?e; (case w => assumption); (case e => rfl))
  | (refine' FR.Ow.get (i := 11) ?w ?e; (case w => assumption); (case e => rfl))
  | (refine' FR.Ow.get (i := 12) ?w ?e; (case w => assumption); (case e => rfl))
  | (refine' FR.Ow.get (i := 13) ?w ?e; (case w => assumption); (case e => rfl))
  | assumption)
local macro_rules | `(tactic| walk_at "ar") => `(tactic| first | assumption | omega | decide)
local macro_rules | `(tactic| walk_at "cd") => `(tactic| first
  | assumption | (with_reducible rfl) | exact (rfl : List.length _ = _) | (dsimp only; walk_at "ar") | walk_at "ar"
  | (refine And.intro (a := (_ : Int) < _) ?_ ?_ <;> walk_at "ar")
  | (refine And.intro (a := (0 : Int) ≤ _) ?_ (And.intro ?_ ?_) <;> walk_at "ar")
  | exact FR.size_le (by omega) | exact FR.size_ok (by omega)
  | (refine Or.inl (And.intro ?_ ?_) <;> walk_at "ar")
  | (refine Or.inr (And.intro ?_ ?_) <;> walk_at "ar"))
local macro_rules | `(tactic| walk_at "ty") => `(tactic| first
  | exact L2.TyOf.int _
  | exact L2.TyOf.str _
  | exact L2.TyOf.bl _
  | exact L2.TyOf.non
  | (refine' L2.TyOf.lst ?e; (case e => walk_at "hp"))
  | (refine' L2.TyOf.tup ?e; (case e => walk_at "hp"))
  | (refine' L2.TyOf.dK ?e; (case e => walk_at "hp")))
local macro_rules | `(tactic| walk_at "kit") => `(tactic| first
  | exact FR.ki_int_str
  | exact FR.ki_int_int
  | exact FR.ki_int_bool
  | exact FR.ki_int_list
  | exact FR.ki_int_tuple
  | exact FR.ki_int_dict
  | exact FR.ki_str_str
  | exact FR.ki_str_int
  | exact FR.ki_str_bool
  | exact FR.ki_str_list
  | exact FR.ki_str_tuple
  | exact FR.ki_str_dict
  | exact FR.ki_bl_str
  | exact FR.ki_bl_int
  | exact FR.ki_bl_bool
  | exact FR.ki_bl_list
  | exact FR.ki_bl_tuple
  | exact FR.ki_bl_dict
  | exact FR.ki_non_str
  | exact FR.ki_non_int
  | exact FR.ki_non_bool
  | exact FR.ki_non_list
  | exact FR.ki_non_tuple
  | exact FR.ki_non_dict
  | exact FR.ki_lst_str
  | exact FR.ki_lst_int
  | exact FR.ki_lst_bool
  | exact FR.ki_lst_list
  | exact FR.ki_lst_tuple
  | exact FR.ki_lst_dict
  | exact FR.ki_tup_str
  | exact FR.ki_tup_int
  | exact FR.ki_tup_bool
  | exact FR.ki_tup_list
  | exact FR.ki_tup_tuple
  | exact FR.ki_tup_dict
  | exact FR.ki_dK_str
  | exact FR.ki_dK_int
  | exact FR.ki_dK_bool
  | exact FR.ki_dK_list
  | exact FR.ki_dK_tuple
  | exact FR.ki_dK_dict)
local macro_rules | `(tactic| walk_at "isi") => `(tactic| (refine' ⟨_, _, _, _, _, rfl, L2.ClsV.ty _, L2.TyX.base ?k1, L2.kit_ty ?k2, ?k3⟩; (case k1 => walk_at "ty"); (case k2 => walk_at "kit")))
local macro_rules | `(tactic| walk_at "w1") => `(tactic| first
  | (refine' FR.with1 0 ?k1 ?k2 (by assumption) (by assumption) ?k3; (case k1 => assumption); (case k2 => rfl); intro W)
  | (refine' FR.with1 1 ?k1 ?k2 (by assumption) (by assumption) ?k3; (case k1 => assumption); (case k2 => rfl); intro W)
  | (refine' FR.with1 2 ?k1 ?k2 (by assumption) (by assumption) ?k3; (case k1 => assumption); (case k2 => rfl); intro W)
  | (refine' FR.with1 3 ?k1 ?k2 (by assumption) (by assumption) ?k3; (case k1 => assumption); (case k2 => rfl); intro W)
  | (refine' FR.with1 4 ?k1 ?k2 (by assumption) (by assumption) ?k3; (case k1 => assumption); (case k2 => rfl); intro W)
  | (refine' FR.with1 5 ?k1 ?k2 (by assumption) (by assumption) ?k3; (case k1 => assumption); (case k2 => rfl); intro W)
  | (refine' FR.with1 6 ?k1 ?k2 (by assumption) (by assumption) ?k3; (case k1 => assumption); (case k2 => rfl); intro W)
  | (refine' FR.with1 7 ?k1 ?k2 (by assumption) (by assumption) ?k3; (case k1 => assumption); (case k2 => rfl); intro W)
  | (refine' FR.with1 8 ?k1 ?k2 (by assumption) (by assumption) ?k3; (case k1 => assumption); (case k2 => rfl); intro W)
  | (refine' FR.with1 9 ?k1 ?k2 (by assumption) (by assumption) ?k3; (case k1 => assumption); (case k2 => rfl); intro W)
  | (refine' FR.with1 10 ?k1 ?k2 (by assumption) (by assumption) ?k3; (case k1 => assumption); (case k2 => rfl); intro W)
  | (refine' FR.with1 11 ?k1 ?k2 (by assumption) (by assumption) ?k3; (case k1 => assumption); (case k2 => rfl); intro W)
  | (refine' FR.with1 12 ?k1 ?k2 (by assumption) (by assumption) ?k3; (case k1 => assumption); (case k2 => rfl); intro W)
  | (refine' FR.with1 13 ?k1 ?k2 (by assumption) (by assumption) ?k3; (case k1 => assumption); (case k2 => rfl); intro W))
local macro_rules | `(tactic| walk_at "obj") => `(tactic| first
  | (refine FR.NewO.mk ?_; intro p H np kp hp; refine' FR.withN ?k1 np kp hp ?k2; (case k1 => assumption); intro W)
  | (refine FR.MutO.mk ?_; intro H kp hp; walk_at "w1"))
local macro_rules | `(tactic| walk_at "rd1") => `(tactic| first
  | (refine ⟨_, rfl, ?_⟩)
  | (refine ⟨_, _, rfl, rfl, ?_⟩)
  | (refine ⟨_, _, rfl, ?_⟩)
  | (refine' ⟨_, _, _, _, rfl, rfl, ?k1, ?k2, ?k3⟩; (case k1 => walk_at "hp"); (case k2 => rfl); walk_at "obj")
  | (refine' ⟨_, _, _, _, rfl, rfl, ?k1, ?k2, ?k3⟩; (case k1 => walk_at "sq"); (case k2 => rfl))
  | walk_at "obj"
  | (refine And.intro (show List.length _ ≤ PySem.sizeLine from Nat.le_of_ble_eq_true rfl) ?_; walk_at "obj")
  | (refine' ⟨_, _, rfl, Or.inl ?k1, ?k2⟩; (case k1 => walk_at "sq"))
  | (refine FR.ifT rfl ?_) | (refine FR.ifF rfl ?_)
  | (refine And.intro (show L2.scal _ _ = true from rfl) ?_)
  | (refine And.intro (show L2.tyV _ "str" (L2.V.str _) _ from rfl) ?_)
  | (refine' And.intro (show L2.tyV _ "list" (L2.V.ref _) _ from Or.inl ⟨rfl, _, ?k1⟩) ?k2; (case k1 => walk_at "sq"))
  | (refine And.intro (Exists.intro _ rfl) ?_)
  | (refine And.intro (show L2.wipe _ _ = L2.wipe _ _ from rfl) ?_)
  | (refine And.intro (by walk_at "cd") ?_)
  | walk_at "isi")
local macro_rules | `(tactic| walk_at "rd") => `(tactic| repeat walk_at "rd1")
local macro_rules | `(tactic| walk_at "take") => `(tactic| (refine' ⟨_, _, _, _, _, _, rfl, ?k1, ?k2, ?k3, ?k4, ?k5, ?k6⟩; (case k1 => walk_at "hp"); (case k2 => assumption); (case k3 => omega); (case k4 => first | decide | omega); (case k5 => first | decide | omega); intro d x y z H d0 d1 ok kp hb; walk_at "w1"))
set_option Elab.async false
set_option linter.all false
set_option maxRecDepth 100000
namespace K05
open PySem PySem.Spec PyProof.Rows L2 FR
def top (i : Nat) : Stmt := PySem.Challenge.pw_filerights_k05_integers_of_texts.main.body.getD i (.Pass ⟨0, 0, 0, 0⟩)
abbrev s_parse_integer : Stmt := top 2
abbrev N_parse_integer : List Str := ["text", "low", "high", "number"]
theorem sc_parse_integer : FnScope N_parse_integer ["text", "low", "high"] (defScope s_parse_integer) := ⟨rfl, rfl, rfl, by decide +kernel, rfl, by decide +kernel, by decide +kernel⟩
abbrev s_cell : Stmt := top 4
abbrev N_cell : List Str := ["_law_script", "_law_k"]
theorem sc_cell : FnScope N_cell ["_law_script", "_law_k"] (defScope s_cell) := ⟨rfl, rfl, rfl, by decide +kernel, rfl, by decide +kernel, by decide +kernel⟩
abbrev s_bag : Stmt := top 5
abbrev N_bag : List Str := ["_law_number"]
theorem sc_bag : FnScope N_bag ["_law_number"] (defScope s_bag) := ⟨rfl, rfl, rfl, by decide +kernel, rfl, by decide +kernel, by decide +kernel⟩
abbrev s_take : Stmt := top 6
abbrev N_take : List Str := ["_law_bag_here", "_law_count", "_law_digit", "_law_mixed"]
theorem sc_take : FnScope N_take ["_law_bag_here", "_law_count"] (defScope s_take) := ⟨rfl, rfl, rfl, by decide +kernel, rfl, by decide +kernel, by decide +kernel⟩
abbrev s_digits : Stmt := top 7
abbrev N_digits : List Str := ["_law_bag_here", "_law_many", "_law_found", "_law_way", "_law_at", "_law_k"]
theorem sc_digits : FnScope N_digits ["_law_bag_here"] (defScope s_digits) := ⟨rfl, rfl, rfl, by decide +kernel, rfl, by decide +kernel, by decide +kernel⟩
abbrev s_value : Stmt := top 8
abbrev N_value : List Str := ["_law_text_one", "_law_number", "_law_sign"]
theorem sc_value : FnScope N_value ["_law_text_one"] (defScope s_value) := ⟨rfl, rfl, rfl, by decide +kernel, rfl, by decide +kernel, by decide +kernel⟩
abbrev s_between : Stmt := top 9
abbrev N_between : List Str := ["_law_number", "_law_floor", "_law_top"]
theorem sc_between : FnScope N_between ["_law_number", "_law_floor", "_law_top"] (defScope s_between) := ⟨rfl, rfl, rfl, by decide +kernel, rfl, by decide +kernel, by decide +kernel⟩
abbrev s_same : Stmt := top 10
abbrev N_same : List Str := ["_law_found", "_law_expected"]
theorem sc_same : FnScope N_same ["_law_found", "_law_expected"] (defScope s_same) := ⟨rfl, rfl, rfl, by decide +kernel, rfl, by decide +kernel, by decide +kernel⟩
abbrev s_law : Stmt := top 11
abbrev N_law : List Str := ["_law_script", "_law_k", "_law_bag_here", "_law_text_one", "_law_number", "_law_middle", "_law_most", "_law_first", "_law_second", "_law_thing"]
theorem sc_law : FnScope N_law ["_law_script"] (defScope s_law) := ⟨rfl, rfl, rfl, by decide +kernel, rfl, by decide +kernel, by decide +kernel⟩
structure Ads where
  f_parse_integer : Addr
  d_parse_integer : FuncData
  f_cell : Addr
  d_cell : FuncData
  f_bag : Addr
  d_bag : FuncData
  f_take : Addr
  d_take : FuncData
  f_digits : Addr
  d_digits : FuncData
  f_value : Addr
  d_value : FuncData
  f_between : Addr
  d_between : FuncData
  f_same : Addr
  d_same : FuncData
  f_law : Addr
  d_law : FuncData
structure Txt (K : PySem.W.Frag) (mg : Str → Option Value) (A : Ads) : Prop where
  F_parse_integer : FunD K "parse_integer" "parse_integer" (defArgs s_parse_integer) (defBody s_parse_integer) (defScope s_parse_integer) [] [("low", .int 0), ("high", .int 999999)] A.f_parse_integer A.d_parse_integer
  g_parse_integer : mg "parse_integer" = some (.ref A.f_parse_integer)
  F_cell : Fun K "_law_cell" "_law_cell" s_cell A.f_cell A.d_cell
  B_cell : Binds K A.d_cell ["_law_script", "_law_k"] []
  g_cell : mg "_law_cell" = some (.ref A.f_cell)
  F_bag : Fun K "_law_bag" "_law_bag" s_bag A.f_bag A.d_bag
  B_bag : Binds K A.d_bag ["_law_number"] []
  g_bag : mg "_law_bag" = some (.ref A.f_bag)
  F_take : Fun K "_law_take" "_law_take" s_take A.f_take A.d_take
  B_take : Binds K A.d_take ["_law_bag_here", "_law_count"] []
  g_take : mg "_law_take" = some (.ref A.f_take)
  F_digits : Fun K "_law_digits" "_law_digits" s_digits A.f_digits A.d_digits
  B_digits : Binds K A.d_digits ["_law_bag_here"] []
  g_digits : mg "_law_digits" = some (.ref A.f_digits)
  F_value : Fun K "_law_value" "_law_value" s_value A.f_value A.d_value
  B_value : Binds K A.d_value ["_law_text_one"] []
  g_value : mg "_law_value" = some (.ref A.f_value)
  F_between : Fun K "_law_between" "_law_between" s_between A.f_between A.d_between
  B_between : Binds K A.d_between ["_law_number", "_law_floor", "_law_top"] []
  g_between : mg "_law_between" = some (.ref A.f_between)
  F_same : Fun K "_law_same" "_law_same" s_same A.f_same A.d_same
  B_same : Binds K A.d_same ["_law_found", "_law_expected"] []
  g_same : mg "_law_same" = some (.ref A.f_same)
  F_law : Fun K "law" "law" s_law A.f_law A.d_law
  B_law : Binds K A.d_law ["_law_script"] []
  g_law : mg "law" = some (.ref A.f_law)
  c_MOST_DIGITS : ∃ u, mg "MOST_DIGITS" = some u ∧ RelV (.int 30) u
  b_bool : mg "bool" = none
  b_int : mg "int" = none
  b_isinstance : mg "isinstance" = none
  b_len : mg "len" = none
  b_max : mg "max" = none
  b_min : mg "min" = none
  b_range : mg "range" = none
  b_str : mg "str" = none


end K05
namespace K05
open PySem PySem.Spec PyProof.Rows L2 FR
section
variable {P : Program} {w : World} {K : PySem.W.Frag} {mg : Str → Option Value} {base : Heap} {A : Ads}
set_option pp.maxSteps 120
theorem ok_take (T : Txt K mg A) : FnOk P w K mg base CX0 1 A.f_take A.d_take ["_law_bag_here", "_law_count"] spTake := by
  refine T.F_take.ok sc_take (fun vs H Q E h => ?_) (fun cdv A_ outer s H vs Q E hr h => ?_)
  · obtain ⟨b, k, n, x, y, z, rfl, _⟩ := h
    rfl
  · obtain ⟨b, k, n, x, y, z, rfl, hb, ok, hn, k0, k1, q⟩ := h
    have W := Ow.start1 hb
    have y0 := ok.y0; have y1 := ok.y1; have z0 := ok.z0; have z1 := ok.z1
    refine ⟨_, (pss_cons (ps_if (pt_cmpR op_gt (pe_ix ix_list (pv 0) pe_int (fun _ _ => rfl)) pe_int (nomark _)) (pss_cons (ps_set (i := 2) sc_take.nd rfl (.inl rfl) (pe_op op_mod (pe_ix ix_list (pv 0) pe_int (fun _ _ => rfl)) (pv 1)))
  (pss_cons (ps_asg (pe_op op_fdiv (pe_ix ix_list (pv 0) pe_int (fun _ _ => rfl)) (pv 1)) (pg_sub (pv 0) pe_int set_listN))
  (pss_one (ps_ret (pv 2))))) pss_nil)
  (pss_cons (ps_asg (pe_op op_add (pe_ix ix_list (pv 0) pe_int (fun _ _ => rfl)) pe_int) (pg_sub (pv 0) pe_int set_listN))
  (pss_cons (ps_set (i := 3) sc_take.nd rfl (.inl rfl) (pe_op op_mod (pe_op op_pow (pe_op op_add (pe_op op_add (pe_ix ix_list (pv 0) pe_int (fun _ _ => rfl)) (pe_op op_mul pe_int (pe_ix ix_list (pv 0) pe_int (fun _ _ => rfl)))) pe_int) pe_int) pe_int))
  (pss_cons (ps_set (i := 3) sc_take.nd rfl (.inl rfl) (pe_op op_mod (pe_op op_pow (pe_op op_add (pv 3) (pe_op op_mul pe_int (pe_ix ix_list (pv 0) pe_int (fun _ _ => rfl)))) pe_int) pe_int))
  (pss_one (ps_ret (pe_op op_mod (pe_op op_fdiv (pv 3) pe_int) (pv 1)))))))), ?_⟩
    walk_at "rd"
    refine ite2 (fun c => ?_) (fun c => ?_)
    · have c' : 0 < x := of_decide_eq_true c
      walk_at "rd"
      rename_i H1 kp hp W1
      exact q _ (x / k) y z H1 (Int.emod_nonneg _ (by omega)) (Int.emod_lt_of_pos _ k0) ⟨Int.ediv_nonneg ok.x0 (by omega), y0, y1, z0, by omega⟩ kp hp
    · walk_at "rd"
      rename_i H1 kp hp W1
      exact q _ x y (z + 1) H1 (Int.emod_nonneg _ (by omega)) (Int.emod_lt_of_pos _ k0) ⟨ok.x0, y0, y1, by omega, by omega⟩ kp hp
def spCell (K : PySem.W.Frag) : Sp := fun vs H Q _ => ∃ (a : Addr) (ns : List Int) (k : Int), vs = [.ref a, .int k] ∧ SqL K H a (ns.map V.int) ∧ 0 ≤ k ∧ k < 1000 ∧ ∀ n, Q (.int n) H
theorem ok_cell (T : Txt K mg A) : FnOk P w K mg base CX0 1 A.f_cell A.d_cell ["_law_script", "_law_k"] (spCell K) := by
  refine T.F_cell.ok sc_cell (fun vs H Q E h => ?_) (fun cdv A_ outer s H vs Q E hr h => ?_)
  · obtain ⟨a, ns, k, rfl, _⟩ := h
    rfl
  · obtain ⟨a, ns, k, rfl, hS, h0, hk, q⟩ := h
    obtain ⟨j, rfl⟩ := Int.eq_ofNat_of_zero_le h0
    refine ⟨_, (pss_cons (ps_if (pt_cmpR op_lt (pv 1) (pe_callB call_len_seq (by rfl) T.b_len PySem.boot_len (pa_cons (pv 0) pa_nil)) (nomark _)) (pss_one (ps_ret (pe_ix ix_list (pv 0) (pv 1) (fun _ _ => rfl)))) pss_nil)
  (pss_one (ps_ret (pe_op op_add (pe_op op_mul pe_int (pv 1)) pe_int)))), ?_⟩
    walk_at "rd"
    refine ifD (fun c => ?_) (fun c => ?_)
    · have c2 : j < ns.length := by rw [List.length_map] at c; omega
      refine ⟨_, rfl, _, rfl, _, _, _, .int ns[j], rfl, rfl, hS, atI_nat (by rw [List.getElem?_map, List.getElem?_eq_getElem c2]; rfl), q _⟩
    · walk_at "rd"
      exact q _
def spBag : Sp := fun vs H Q _ => ∃ n : Int, vs = [.int n] ∧ ∀ x y z, BagOk 0 x y z → NewO (bagO x y z) Q H
theorem ok_bag (T : Txt K mg A) : FnOk P w K mg base CX0 1 A.f_bag A.d_bag ["_law_number"] spBag := by
  refine T.F_bag.ok sc_bag (fun vs H Q E h => ?_) (fun cdv A_ outer s H vs Q E hr h => ?_)
  · obtain ⟨n, rfl, _⟩ := h
    rfl
  · obtain ⟨n, rfl, q⟩ := h
    have W : Ow H [] H [] := Ow.start0
    refine ⟨_, (pss_one (ps_ret (pe_lstN (pa_cons (pe_callB (call_max2 rfl) (by rfl) T.b_max (by decide +kernel) (pa_cons pe_int (pa_cons (pe_op op_sub (pv 0) (pe_op op_pow pe_int pe_int)) pa_nil))) (pa_cons (pe_op op_mod (pv 0) pe_int) (pa_cons pe_int pa_nil)))))), ?_⟩
    have q' := q (if n - 10 ^ 18 > 0 then n - 10 ^ 18 else 0) (n % 2147483629) 0 ⟨by split <;> omega, Int.emod_nonneg _ (by decide), Int.lt_trans (Int.emod_lt_of_pos _ (by decide)) (by decide), by omega, by omega⟩
    walk_at "rd"
    rename_i p H1 np kp hp W1
    exact q'.to p H1 np kp hp
end
end K05
namespace K05
open PySem PySem.Spec PyProof.Rows L2 FR TL
open C8 (pss_cut pe_gc)
def oV : Option Int → V
  | none => .non
  | some i => .int i
def lvalF : List Nat → Int → Option Int
  | [], a => some a
  | c :: r, a => if 48 ≤ c ∧ c ≤ 57 then lvalF r (10 * a + ((c : Int) - 48)) else none
def lval (s : Str) : Option Int := if (tl s).length = 0 ∨ (tl s).length > 30 ∨ ((tl s).length > 1 ∧ (tl s)[0]? = some 48) then none else lvalF (tl s) 0
theorem dig_mem {c : Nat} : c ∈ (Str.ofString "0123456789").cps.toList ↔ 48 ≤ c ∧ c ≤ 57 := by
  rw [show (Str.ofString "0123456789").cps.toList = [48,49,50,51,52,53,54,55,56,57] by decide +kernel]
  simp
  omega
theorem dig_ix {c : Nat} (h : 48 ≤ c ∧ c ≤ 57) : ∃ rest, Builtin.Str.occurrences (Str.ofString "0123456789") ⟨#[c]⟩ 0 (Str.ofString "0123456789").length 1 = (c - 48) :: rest := by
  have : c = 48 ∨ c = 49 ∨ c = 50 ∨ c = 51 ∨ c = 52 ∨ c = 53 ∨ c = 54 ∨ c = 55 ∨ c = 56 ∨ c = 57 := by omega
  rcases this with rfl | rfl | rfl | rfl | rfl | rfl | rfl | rfl | rfl | rfl <;> exact ⟨[], by decide +kernel⟩
section
variable {P : Program} {w : World} {K : PySem.W.Frag} {mg : Str → Option Value} {base : Heap} {A : Ads}
set_option pp.maxSteps 120
def spValue : Sp := fun vs H Q _ => ∃ s : Str, vs = [.str s] ∧ s.length ≤ 1000 ∧ Q (oV (lval s)) H
theorem ok_value (T : Txt K mg A) : FnOk P w K mg base CX0 1 A.f_value A.d_value ["_law_text_one"] spValue := by
  refine T.F_value.ok sc_value (fun vs H Q E h => ?_) (fun cdv A_ outer s_ H vs Q E hr h => ?_)
  · obtain ⟨n, rfl, _⟩ := h
    rfl
  · obtain ⟨s, rfl, hl, q⟩ := h
    have W : Ow H [] H [] := Ow.start0
    refine ⟨_, (pss_cut (ps_if (PW.pt (pw_or (pt_cmpR op_eq (pe_callB call_len_str (by rfl) T.b_len PySem.boot_len (pa_cons (pv 0) pa_nil)) pe_int (nomark _)) (pw_or (pt_cmpR op_gt (pe_callB call_len_str (by rfl) T.b_len PySem.boot_len (pa_cons (pv 0) pa_nil)) pe_int (nomark _)) (pw_or1 (PW.pt (pw_and (pt_cmpR op_gt (pe_callB call_len_str (by rfl) T.b_len PySem.boot_len (pa_cons (pv 0) pa_nil)) pe_int (nomark _)) (pw_and1 (pt_cmpR op_eq (pe_ix ix_str (pv 0) pe_int (fun _ _ => rfl)) pe_str (nomark _))))))))) (pss_one (ps_ret pe_non)) pss_nil)
  (pss_cons (ps_set (i := 1) sc_value.nd rfl (.inl rfl) pe_int)
  (pss_cons (ps_for PassesOwn.never rfl (pi_str (pv 0)) (pg_name (i := 2) sc_value.nd rfl (.inl rfl)) (pss_cons (ps_if (pt_cmpR op_notIn_sign (pv 2) pe_str rfl) (pss_one (ps_ret pe_non)) pss_nil)
  (pss_one (ps_set (i := 1) sc_value.nd rfl (.inl rfl) (pe_op op_add (pe_op op_mul pe_int (pv 1)) (pe_bm PySem.F.plainAttrs_str PySem.F.slot_str_index PySem.F.type_str_index mt_sindex pe_str (pa_cons (pv 2) pa_nil)))))))
  (pss_one (ps_ret (pv 1)))))), ?_⟩
    have hz : s.length ≤ sizeLine := Nat.le_of_lt (small1000 hl)
    have hlen : s.length = (tl s).length := len_tl s
    refine ⟨fun σ' H' => σ' = L2.start N_value [V.str s] ∧ H = H' ∧ lval s = lvalF (tl s) 0, ?_, fun σ' H' h => ?_⟩
    · walk_at "rd"
      refine ifVI (fun c => ?_) (fun c => ?_)
      · walk_at "rd"
        rw [show lval s = none by unfold lval; rw [if_pos]; omega] at q
        exact q
      walk_at "rd"
      refine ifD (fun c2 => ?_) (fun c2 => ?_)
      · walk_at "rd"
        rw [show lval s = none by unfold lval; rw [if_pos]; omega] at q
        exact q
      walk_at "rd"
      refine ifD (fun c3 => ?_) (fun c3 => ?_)
      · obtain ⟨x, r, hx⟩ : ∃ x r, tl s = x :: r := by
          cases e : tl s with
          | nil => rw [e] at hlen; simp at hlen; omega
          | cons x r => exact ⟨x, r, rfl⟩
        have at0 : atI s.cps.toList 0 = some x := by
          show atI (tl s) ((0 : Nat) : Int) = some x
          exact atI_nat (by rw [hx]; rfl)
        refine ⟨_, rfl, _, _, _, rfl, rfl, hz, at0, ?_⟩
        walk_at "rd"
        refine ifVS (fun c4 => ?_) (fun c4 => ?_)
        · walk_at "rd"
          have : x = 48 := by
            have e := congrArg tl c4
            rw [show tl (Str.ofString "0") = [48] by decide +kernel] at e
            exact (List.cons.inj (show [x] = [48] from e)).1
          rw [show lval s = none by unfold lval; rw [if_pos (.inr (.inr ⟨by omega, by rw [hx, this]; rfl⟩))]] at q
          exact q
        · walk_at "rd"
          unfold lval
          rw [if_neg]
          rintro (h | h | ⟨h, h'⟩)
          · omega
          · omega
          · rw [hx] at h'
            have : x = 48 := by simpa using h'
            subst this
            exact c4 (ext_tl (by decide +kernel))
      · walk_at "rd"
        unfold lval
        rw [if_neg]
        rintro (h | h | ⟨h, h'⟩) <;> omega
    · obtain ⟨rfl, rfl, ev⟩ := h
      walk_at "rd"
      refine for_str (s := s) (fun pre σ H' => ∃ a y, σ = [some (.str s), some (.int a), y] ∧ H = H' ∧ ∀ post, tl s = pre ++ post → lvalF (tl s) 0 = lvalF post a) ⟨0, none, rfl, rfl, fun post e => by rw [e]; rfl⟩ ?_ ?_
      · rintro pre c post σ H' e ⟨a, y, rfl, rfl, hv⟩
        walk_at "rd"
        have hv' := hv _ e
        refine ifN (fun c1 => ?_) (fun c1 => ?_)
        · walk_at "rd"
          have c1' : ¬ (48 ≤ c ∧ c ≤ 57) := fun z => c1 (dig_mem.mpr z)
          rw [ev, hv', lvalF, if_neg c1'] at q
          exact q
        · have c1' := dig_mem.mp c1
          obtain ⟨rest, hoc⟩ := dig_ix c1'
          walk_at "rd"
          refine ⟨_, _, _, _, rfl, rfl, hoc, ?_⟩
          walk_at "rd"
          intro post' e'
          have : post' = post := by
            rw [e, List.append_assoc] at e'
            exact (List.cons.inj (List.append_cancel_left e')).2.symm
          rw [this, hv', lvalF, if_pos c1', show ((c - 48 : Nat) : Int) = (c : Int) - 48 by omega]
      · rintro σ H' ⟨a, y, rfl, rfl, hv⟩
        walk_at "rd"
        rw [ev, hv [] (by simp)] at q
        exact q
end
end K05
namespace K05
open PySem PySem.Spec PyProof.Rows L2 FR TL
open C8 (pss_cut pe_gc)
def btw (o : Option Int) (lo hi : Int) : Option Int := match o with
  | none => none
  | some i => if i < lo ∨ hi < i then none else some i
section
variable {P : Program} {w : World} {K : PySem.W.Frag} {mg : Str → Option Value} {base : Heap} {A : Ads}
set_option pp.maxSteps 120
def spBetween : Sp := fun vs H Q _ => ∃ (o : Option Int) (lo hi : Int), vs = [oV o, .int lo, .int hi] ∧ Q (oV (btw o lo hi)) H
theorem ok_between (T : Txt K mg A) : FnOk P w K mg base CX0 1 A.f_between A.d_between ["_law_number", "_law_floor", "_law_top"] spBetween := by
  refine T.F_between.ok sc_between (fun vs H Q E h => ?_) (fun cdv A_ outer s_ H vs Q E hr h => ?_)
  · obtain ⟨o, lo, hi, rfl, _⟩ := h
    rfl
  · obtain ⟨o, lo, hi, rfl, q⟩ := h
    have W : Ow H [] H [] := Ow.start0
    refine ⟨_, (pss_cons (ps_if (PW.pt (pw_or (pt_cmpR op_isN (pv 0) pe_non (nomark _)) (pw_or (pt_cmpR op_lt (pv 0) (pv 1) (nomark _)) (pw_or1 (pt_cmpR op_gt (pv 0) (pv 2) (nomark _)))))) (pss_one (ps_ret pe_non)) pss_nil)
  (pss_one (ps_ret (pv 0)))), ?_⟩
    cases o with
    | none =>
      walk_at "rd"
      exact q
    | some i =>
      walk_at "rd"
      refine ifD (fun c => ?_) (fun c => ?_)
      · walk_at "rd"
        rw [show btw (some i) lo hi = none by show (if _ then _ else _) = _; rw [if_pos]; omega] at q
        exact q
      walk_at "rd"
      refine ifD (fun c2 => ?_) (fun c2 => ?_)
      · walk_at "rd"
        rw [show btw (some i) lo hi = none by show (if _ then _ else _) = _; rw [if_pos]; omega] at q
        exact q
      walk_at "rd"
      rw [show btw (some i) lo hi = some i by show (if _ then _ else _) = _; rw [if_neg]; omega] at q
      exact q
def spSame : Sp := fun vs H Q _ => ∃ (a b : Option Int), vs = [oV a, oV b] ∧ Q (.bl (decide (a = b))) H
theorem ok_same (T : Txt K mg A) : FnOk P w K mg base CX0 1 A.f_same A.d_same ["_law_found", "_law_expected"] spSame := by
  refine T.F_same.ok sc_same (fun vs H Q E h => ?_) (fun cdv A_ outer s_ H vs Q E hr h => ?_)
  · obtain ⟨a, b, rfl, _⟩ := h
    rfl
  · obtain ⟨a, b, rfl, q⟩ := h
    have W : Ow H [] H [] := Ow.start0
    refine ⟨_, (pss_cons (ps_if (pt_cmpR op_isN (pv 1) pe_non (nomark _)) (pss_one (ps_ret (pe_cmpR op_isN (pv 0) pe_non (nomark _)))) pss_nil)
  (pss_one (ps_ret (pe_and (pe_callB call_isi (by rfl) T.b_isinstance (by decide +kernel) (pa_cons (pv 0) (pa_cons (pe_bltn (v := .ty "int") rfl T.b_int (by decide +kernel) rfl) pa_nil))) (pe_and (pe_not (pe_callB call_isi (by rfl) T.b_isinstance (by decide +kernel) (pa_cons (pv 0) (pa_cons (pe_bltn (v := .ty "bool") rfl T.b_bool (by decide +kernel) rfl) pa_nil)))) (pe_one (pe_cmpR op_eq (pv 0) (pv 1) (nomark _)))))))), ?_⟩
    cases b with
    | none =>
      cases a with
      | none => walk_at "rd"; exact q
      | some i => walk_at "rd"; exact q
    | some j =>
      cases a with
      | none => walk_at "rd"; exact q
      | some i =>
        walk_at "rd"
        rw [show decide (some i = some j) = decide (V.int i = V.int j) by by_cases e : i = j <;> simp [e]] at q
        exact q
end
end K05
namespace K05
open PySem PySem.Spec PyProof.Rows L2 FR TL
open C8 (pss_cut pe_gc)
section
variable {P : Program} {w : World} {K : PySem.W.Frag} {mg : Str → Option Value} {base : Heap} {A : Ads}
set_option pp.maxSteps 120
def spDigits : Sp := fun vs H Q _ => ∃ (b : Addr) (n : Nat) (x y z : Int), vs = [.ref b] ∧ H b = some (bagO x y z) ∧ BagOk n x y z ∧ n < 900000 ∧
  ∀ (s : Str) (x' y' z' : Int) (H' : Hp), s.length ≤ 70 → BagOk (n + 50) x' y' z' → Keep [b] H H' → H' b = some (bagO x' y' z') → Q (.str s) H'
theorem ok_digits (T : Txt K mg A) : FnOk P w K mg base CX0 2 A.f_digits A.d_digits ["_law_bag_here"] spDigits := by
  refine T.F_digits.ok sc_digits (fun vs H Q E h => ?_) (fun cdv A_ outer s_ H vs Q E hr h => ?_)
  · obtain ⟨b, n, x, y, z, rfl, _⟩ := h
    rfl
  · obtain ⟨b, n, x, y, z, rfl, hb, ok, hn, q⟩ := h
    have W := Ow.start1 hb
    refine ⟨_, (pss_cons (ps_set (i := 1) sc_digits.nd rfl (.inl rfl) (pe_ix ix_list (pe_lstN (pa_cons (pe_op op_add pe_int (pe_call (ok_take T) hr (by rfl) T.g_take T.F_take.kp T.B_take .nil pass0 (pa_cons (pv 0) (pa_cons pe_int pa_nil)))) (pa_cons (pe_op op_add pe_int (pe_call (ok_take T) hr (by rfl) T.g_take T.F_take.kp T.B_take .nil pass0 (pa_cons (pv 0) (pa_cons pe_int pa_nil)))) (pa_cons pe_int (pa_cons pe_int pa_nil))))) (pe_call (ok_take T) hr (by rfl) T.g_take T.F_take.kp T.B_take .nil pass0 (pa_cons (pv 0) (pa_cons pe_int pa_nil))) (fun _ _ => rfl)))
  (pss_cons (ps_set (i := 2) sc_digits.nd rfl (.inl rfl) (pe_join pe_str (pe_lc (own := [("_law_k", 5)]) (g := gName 5) rfl sc_digits.nd (pi_range1 (by rfl) T.b_range (pa_cons (pv 1) pa_nil)) (blkOk_by (own := [("_law_k", 5)]) (N := N_digits) (sc := defScope s_digits) (by decide +kernel)) (fun _ _ _ _ _ => pg_name (i := 5) sc_digits.nd rfl (Or.inl rfl)) (fun _ _ _ _ _ => pts_nil) (fun _ _ _ _ _ => (pe_ix ix_str pe_str (pe_call (ok_take T) hr (by rfl) T.g_take T.F_take.kp T.B_take .nil pass0 (pa_cons (pv 0) (pa_cons pe_int pa_nil))) (fun _ _ => rfl))))))
  (pss_cons (ps_par (i := 3) (j := 4) (by rfl) sc_digits.nd rfl rfl (by decide) rfl rfl (pa_cons (pe_call (ok_take T) hr (by rfl) T.g_take T.F_take.kp T.B_take .nil pass0 (pa_cons (pv 0) (pa_cons pe_int pa_nil))) (pa_cons (pe_call (ok_take T) hr (by rfl) T.g_take T.F_take.kp T.B_take .nil pass0 (pa_cons (pv 0) (pa_cons (pe_op op_add (pv 1) pe_int) pa_nil))) pa_nil)) (by rfl))
  (pss_cons (ps_if (pt_cmpR op_eq (pv 3) pe_int (nomark _)) (pss_one (ps_ret (pe_op op_add_str (pe_op op_add_str (pe_slice sl_str (pv 2) po_none (po_some (pv 4))) (pe_ix ix_str pe_str (pe_call (ok_take T) hr (by rfl) T.g_take T.F_take.kp T.B_take .nil pass0 (pa_cons (pv 0) (pa_cons pe_int pa_nil))) (fun _ _ => rfl))) (pe_slice sl_str (pv 2) (po_some (pv 4)) po_none)))) pss_nil)
  (pss_cons (ps_if (pt_cmpR op_eq (pv 3) pe_int (nomark _)) (pss_one (ps_ret (pe_op op_add_str pe_str (pv 2)))) pss_nil)
  (pss_one (ps_ret (pv 2)))))))), ?_⟩
    walk_at "rd"
    walk_at "take"
    rename_i d1 x1 y1 z1 H1 d10 d11 ok1 kp1 hb1 W1
    walk_at "rd"
    walk_at "take"
    rename_i d2 x2 y2 z2 H2 d20 d21 ok2 kp2 hb2 W2
    walk_at "rd"
    rename_i p3 H3 np3 kp3 hp3 W3
    walk_at "take"
    rename_i d4 x4 y4 z4 H4 d40 d41 ok4 kp4 hb4 W4
    walk_at "rd"
    obtain ⟨v, hv, hm⟩ := atI_in (xs := [V.int (1 + d1), V.int (1 + d2), V.int 30, V.int 31]) d40 d41
    obtain ⟨m, rfl, m0, m1⟩ : ∃ m, v = .int m ∧ 1 ≤ m ∧ m ≤ 32 := by
      simp at hm
      rcases hm with rfl | rfl | rfl | rfl <;> exact ⟨_, rfl, by omega, by omega⟩
    refine ⟨_, _, _, _, rfl, rfl, W4.sq 0 rfl, hv, ?_⟩
    walk_at "rd"
    intro D hD
    refine lc_rg (fun i H' => ∃ (ss : List Str) (x y z : Int), ss.length = i ∧ (∀ s ∈ ss, s.length = 1) ∧ BagOk (n + 3 + i) x y z ∧ Ow H [b] H' [(D, .lst (ss.map V.str)), (p3, .lst [.int (1 + d1), .int (1 + d2), .int 30, .int 31]), (b, bagO x y z)]) ?_ ?_ ?_
    · exact ⟨[], _, _, _, rfl, by simp, ok4, W4.new hD⟩
    · rintro i H5 hi ⟨ss, x5, y5, z5, hl, h1, ok5, W5⟩
      walk_at "rd"
      walk_at "take"
      rename_i d6 x6 y6 z6 H6 d60 d61 ok6 kp6 hb6 W6
      walk_at "rd"
      obtain ⟨c, hc, _⟩ := atI_in (xs := (Str.ofString "0123456789").cps.toList) d60 (by rw [show (Str.ofString "0123456789").cps.toList.length = 10 by decide +kernel]; exact d61)
      refine ⟨_, _, _, rfl, rfl, size_le (by decide +kernel), hc, ?_⟩
      refine ⟨_, W6.get 0 rfl, size_ok (by rw [List.length_map]; omega), ss ++ [⟨#[c]⟩], x6, y6, z6, by rw [List.length_append, hl]; rfl, ?_, ok6, ?_⟩
      · intro s hs
        rcases List.mem_append.mp hs with h | h
        · exact h1 s h
        · rw [List.mem_singleton.mp h]; rfl
      · rw [List.map_append]
        exact W6.set 0 rfl
    · rintro H7 ⟨ss, x7, y7, z7, hl, h1, ok7, W7⟩
      walk_at "rd"
      refine ⟨_, _, ss, rfl, rfl, .inl (W7.sq 0 rfl), by rw [sum_one h1, show (Str.ofString "").length = 0 by decide +kernel]; omega, ?_⟩
      have hs := join_one h1
      generalize Txt.join (Str.ofString "") ss = s at hs
      walk_at "rd"
      walk_at "take"
      rename_i d8 x8 y8 z8 H8 d80 d81 ok8 kp8 hb8 W8
      walk_at "rd"
      walk_at "take"
      rename_i d9 x9 y9 z9 H9 d90 d91 ok9 kp9 hb9 W9
      walk_at "rd"
      refine ifVI (fun c => ?_) (fun c => ?_)
      · have hz : s.length ≤ sizeLine := size_le (by omega)
        walk_at "rd"
        walk_at "take"
        rename_i d10 x10 y10 z10 H10 d100 d101 ok10 kp10 hb10 W10
        obtain ⟨c2, hc2, _⟩ := atI_in (xs := (Str.ofString " -+a._\n").cps.toList) d100 (by rw [show (Str.ofString " -+a._\n").cps.toList.length = 7 by decide +kernel]; exact d101)
        have l1 := cutS_len s none (some d9)
        have l2 := cutS_len s (some d9) none
        have l3 : (cutS s none (some d9) ++ ⟨#[c2]⟩).length ≤ 33 := by rw [len_app]; show _ + 1 ≤ 33; omega
        refine ⟨_, _, _, rfl, rfl, size_le (by decide +kernel), hc2, ?_⟩
        refine ⟨_, _, rfl, rfl, size_le (by show _ + 1 ≤ 10000; omega), ?_⟩
        walk_at "rd"
        exact q _ x10 y10 z10 _ (by rw [len_app]; omega) (ok10.mono (by omega)) W10.keep (W10.get 2 rfl)
      · walk_at "rd"
        refine ifVI (fun c => ?_) (fun c => ?_)
        · walk_at "rd"
          refine ⟨size_le (by rw [show (Str.ofString "0").length = 1 by decide +kernel]; omega), ?_⟩
          exact q _ x9 y9 z9 _ (by rw [len_app, show (Str.ofString "0").length = 1 by decide +kernel]; omega) (ok9.mono (by omega)) W9.keep (W9.get 2 rfl)
        · walk_at "rd"
          exact q _ x9 y9 z9 _ (by omega) (ok9.mono (by omega)) W9.keep (W9.get 2 rfl)
end
end K05
namespace K05
open PySem PySem.Spec PyProof.Rows L2 FR TL
open C8 (pss_cut pe_gc)
section
variable {P : Program} {w : World} {K : PySem.W.Frag} {mg : Str → Option Value} {base : Heap} {A : Ads}
set_option pp.maxSteps 120
theorem uni_digit : ∀ c, c < 128 → Unicode.isDigit c = (decide (48 ≤ c) && decide (c ≤ 57)) := by decide +kernel
theorem all_of {s : Str} (p : Nat → Bool) : s.cps.all p = (tl s).all p := by simp
theorem dig_all {s : Str} : (Txt.isascii s && Txt.isdigit s) = true ↔ tl s ≠ [] ∧ NumText.AllDigits (tl s) := by
  unfold Txt.isascii Txt.isdigit
  rw [all_of, all_of, len_tl]
  simp only [Bool.and_eq_true, List.all_eq_true, decide_eq_true_eq]
  constructor
  · rintro ⟨h1, h2, h3⟩
    refine ⟨fun e => by rw [e] at h2; simp at h2, fun c hc => ?_⟩
    have z := h3 c hc
    rw [uni_digit c (h1 c hc)] at z
    simpa using z
  · rintro ⟨h1, h2⟩
    refine ⟨fun c hc => Nat.lt_of_le_of_lt (h2 c hc).2 (by decide), List.length_pos_iff.mpr h1, fun c hc => ?_⟩
    rw [uni_digit c (Nat.lt_of_le_of_lt (h2 c hc).2 (by decide))]
    have := h2 c hc
    simp
    omega
theorem lvalF_no : ∀ {l : List Nat} {a : Int}, ¬ NumText.AllDigits l → lvalF l a = none
  | [], a, h => absurd (fun c hc => by simp at hc) h
  | c :: r, a, h => by
    unfold lvalF
    by_cases hc : 48 ≤ c ∧ c ≤ 57
    · rw [if_pos hc]
      refine lvalF_no fun z => h fun d hd => ?_
      rcases List.mem_cons.mp hd with rfl | hd
      · exact hc
      · exact z d hd
    · rw [if_neg hc]
theorem lvalF_ok : ∀ {l : List Nat} {a : Nat}, NumText.AllDigits l → lvalF l (a : Int) = some ((l.foldl (fun acc c => acc * 10 + (c - 48)) a : Nat) : Int)
  | [], a, _ => rfl
  | c :: r, a, h => by
    have hc := h c List.mem_cons_self
    unfold lvalF
    rw [if_pos hc, List.foldl_cons, ← lvalF_ok (l := r) fun d hd => h d (List.mem_cons_of_mem _ hd)]
    congr 1
    omega
theorem lval_val {s : Str} (h0 : tl s ≠ []) (h1 : NumText.AllDigits (tl s)) (h2 : (tl s).length ≤ 30) (h3 : ¬ ((tl s).length > 1 ∧ (tl s)[0]? = some 48)) : lval s = some ((NumText.digitsVal (tl s) : Nat) : Int) := by
  have := List.length_pos_iff.mpr h0
  unfold lval
  rw [if_neg (by rintro (h | h | h) <;> first | omega | exact h3 h)]
  exact lvalF_ok (a := 0) h1
theorem lval_no {s : Str} (h : (tl s).length > 30 ∨ ¬ (tl s ≠ [] ∧ NumText.AllDigits (tl s)) ∨ ((tl s).length > 1 ∧ (tl s)[0]? = some 48)) : lval s = none := by
  unfold lval
  by_cases c : (tl s).length = 0 ∨ (tl s).length > 30 ∨ ((tl s).length > 1 ∧ (tl s)[0]? = some 48)
  · rw [if_pos c]
  · rw [if_neg c]
    rcases h with h | h | h
    · exact absurd (.inr (.inl h)) c
    · refine lvalF_no fun z => h ⟨fun e => c (.inl (by rw [e]; rfl)), z⟩
    · exact absurd (.inr (.inr h)) c
def spParse (K : PySem.W.Frag) : Sp := fun vs H Q _ => ∃ (v : V) (lo hi : Int), vs = [v, .int lo, .int hi] ∧ ((∃ s, v = .str s ∧ s.length ≤ 1000 ∧ Q (oV (btw (lval s) lo hi)) H) ∨
  ((∃ t, TyX K H v (.type t) ∧ kitB t "str" = some false) ∧ Q .non H))
theorem ok_parse_integer (T : Txt K mg A) : FnOk P w K mg base CX0 1 A.f_parse_integer A.d_parse_integer ["text", "low", "high"] (spParse K) := by
  refine T.F_parse_integer.ok sc_parse_integer (fun vs H Q E h => ?_) (fun cdv A_ outer s_ H vs Q E hr h => ?_)
  · obtain ⟨v, lo, hi, rfl, _⟩ := h
    rfl
  · obtain ⟨v, lo, hi, rfl, q⟩ := h
    have W : Ow H [] H [] := Ow.start0
    refine ⟨_, (pss_cons (ps_if (PW.pt (pw_or (pt_not (pt_val (pe_callB call_isi (by rfl) T.b_isinstance (by decide +kernel) (pa_cons (pv 0) (pa_cons (pe_bltn (v := .ty "str") rfl T.b_str (by decide +kernel) rfl) pa_nil))))) (pw_or1 (pt_cmpR op_gt (pe_callB call_len_str (by rfl) T.b_len PySem.boot_len (pa_cons (pv 0) pa_nil)) (pe_gc rfl T.c_MOST_DIGITS) (nomark _))))) (pss_one (ps_ret pe_non)) pss_nil)
  (pss_cons (ps_if (PW.pt (pw_or (pt_not (pt_val (pe_bm0 PySem.F.plainAttrs_str PySem.F.slot_str_isascii PySem.F.type_str_isascii mt_isascii (pv 0)))) (pw_or1 (pt_not (pt_val (pe_bm0 PySem.F.plainAttrs_str PySem.F.slot_str_isdigit PySem.F.type_str_isdigit mt_isdigit (pv 0))))))) (pss_one (ps_ret pe_non)) pss_nil)
  (pss_cut (ps_if (PW.pt (pw_and (pt_val (pe_m1 PySem.F.slot_str_startswith PySem.F.type_str_startswith mt_startswith (pv 0) pe_str)) (pw_and1 (pt_cmpR op_ne (pv 0) pe_str (nomark _))))) (pss_one (ps_ret pe_non)) pss_nil)
  (pss_cons (ps_set (i := 3) sc_parse_integer.nd rfl (.inl rfl) (pe_callTy call_int_str (by rfl) T.b_int (by decide +kernel) (pa_cons (pv 0) pa_nil)))
  (pss_one (ps_ret (pe_ifExp (pt_chain op_le op_le (pv 1) (pv 3) (pv 2)) (pv 3) pe_non))))))), ?_⟩
    rcases q with ⟨s, rfl, hl, q⟩ | ⟨⟨t, ty, kt⟩, q⟩
    · have hz : s.length ≤ sizeLine := size_le (by omega)
      have hlen := len_tl s
      walk_at "rd"
      refine ifD (fun c => ?_) (fun c => ?_)
      · walk_at "rd"
        rw [lval_no (.inl (by omega))] at q
        exact q
      walk_at "rd"
      refine ifNB (fun c2 => ?_) (fun c2 => ?_)
      · walk_at "rd"
        rw [lval_no (.inr (.inl fun z => by have := dig_all.mpr z; rw [c2] at this; cases this))] at q
        exact q
      walk_at "rd"
      refine ifNB (fun c3 => ?_) (fun c3 => ?_)
      · walk_at "rd"
        rw [lval_no (.inr (.inl fun z => by have := dig_all.mpr z; rw [c3, Bool.and_false] at this; cases this))] at q
        exact q
      obtain ⟨h0, h1⟩ := dig_all.mp (by rw [c2, c3]; rfl)
      refine ⟨fun σ' H' => σ' = L2.start N_parse_integer [V.str s, V.int lo, V.int hi] ∧ H = H' ∧ ¬ ((tl s).length > 1 ∧ (tl s)[0]? = some 48), ?_, fun σ' H' h => ?_⟩
      rotate_left
      · obtain ⟨rfl, rfl, h3⟩ := h
        rw [lval_val h0 h1 (by omega) h3] at q
        refine ⟨_, rfl, s, _, rfl, PySem.intText_digits h1 h0 (by omega), by omega, ?_⟩
        generalize ((NumText.digitsVal (tl s) : Nat) : Int) = m at q
        walk_at "rd"
        refine ifD (fun c => ?_) (fun c => ?_)
        · walk_at "rd"
          refine ifD (fun c2 => ?_) (fun c2 => ?_)
          · walk_at "rd"
            rw [show btw (some m) lo hi = some m by show (if _ then _ else _) = _; rw [if_neg]; omega] at q
            exact q
          · walk_at "rd"
            rw [show btw (some m) lo hi = none by show (if _ then _ else _) = _; rw [if_pos]; omega] at q
            exact q
        · walk_at "rd"
          rw [show btw (some m) lo hi = none by show (if _ then _ else _) = _; rw [if_pos]; omega] at q
          exact q
      have e0 : Str.ofString "0" = ⟨#[48]⟩ := by decide +kernel
      walk_at "rd"
      refine ifB (fun c4 => ?_) (fun c4 => ?_)
      · rw [e0] at c4
        have c4' := (starts_one s 48).mp c4
        walk_at "rd"
        refine ifVSn (fun c5 => ?_) (fun c5 => ?_)
        · walk_at "rd"
          have : (tl s).length > 1 := by
            cases e : tl s with
            | nil => exact absurd e h0
            | cons x r =>
              cases r with
              | nil =>
                rw [e] at c4'
                have : x = 48 := by simpa using c4'
                subst this
                exact absurd (ext_tl (by rw [e, e0])) c5
              | cons y r => simp
          rw [lval_no (.inr (.inr ⟨this, c4'⟩))] at q
          exact q
        · walk_at "rd"
          rw [c5]
          rintro ⟨h, _⟩
          revert h
          decide +kernel
      · walk_at "rd"
        rintro ⟨_, h⟩
        rw [e0] at c4
        rw [(starts_one s 48).mpr h] at c4
        cases c4
    · walk_at "rd"
      refine ⟨_, _, _, _, _, rfl, .ty _, ty, kit_ty kt, ?_⟩
      walk_at "rd"
      exact q
end
end K05
namespace K05
open PySem PySem.Spec PyProof.Rows L2 FR TL
open C8 (pss_cut pe_gc)
theorem vrev : ∀ {xs : List V} {us : List Value}, Vals xs us → Vals xs.reverse us.reverse
  | _, _, .nil => .nil
  | x :: xs, u :: us, .cons r t => by rw [List.reverse_cons, List.reverse_cons]; exact (vrev t).append (.cons r .nil)
section
variable {P : Program} {w : World} {K : PySem.W.Frag} {mg : Str → Option Value} {base : Heap} {A : Ads}
theorem bd1 (T : Txt K mg A) : ∃ ds, Vals [.int 0, .int 999999] ds ∧ Binds K A.d_parse_integer ["text", "low", "high"] ds :=
  T.F_parse_integer.binds0 1 (by simp) rfl fun D doc pm an cdv ct us its h1 h2 => match us, its, h1, h2 with
    | [_], [_, _], _, _ => ⟨_, _, _, _, _, _, rfl, rfl, _, _, _, _, _, _, rfl, rfl, rfl⟩
theorem kb0t (T : Txt K mg A) : ∃ mv : List Value, KBn K A.d_parse_integer ["text", "low", "high"] 0 ["text"] (fun us ws => ws ++ mv) (fun vs zs => zs ++ [V.int 0, V.int 999999]) :=
  FR.kb0 T.F_parse_integer 0 ["text"] [("low", .int 0), ("high", .int 999999)] (fun us mv ws => ws ++ mv) (by simp) (by simp) (fun a b c => c.append b) fun D doc pm an cdv ct us mv ws h1 h2 h3 => match us, mv, ws, h1, h2, h3 with
    | [], [_, _], [_], _, _, _ => ⟨_, _, _, _, _, _, rfl, rfl, _, _, _, _, _, _, rfl, rfl, rfl⟩
theorem kb1l (T : Txt K mg A) : ∃ mv : List Value, KBn K A.d_parse_integer ["text", "low", "high"] 1 ["low"] (fun us ws => us ++ ws ++ mv) (fun vs zs => vs ++ zs ++ [V.int 999999]) :=
  FR.kb0 T.F_parse_integer 1 ["low"] [("high", .int 999999)] (fun us mv ws => us ++ ws ++ mv) (by simp) (by simp) (fun a b c => (a.append c).append b) fun D doc pm an cdv ct us mv ws h1 h2 h3 => match us, mv, ws, h1, h2, h3 with
    | [_], [_], [_], _, _, _ => ⟨_, _, _, _, _, _, rfl, rfl, rfl⟩
theorem kb1h (T : Txt K mg A) : ∃ mv : List Value, KBn K A.d_parse_integer ["text", "low", "high"] 1 ["high"] (fun us ws => us ++ mv ++ ws) (fun vs zs => vs ++ [V.int 0] ++ zs) :=
  FR.kb0 T.F_parse_integer 1 ["high"] [("low", .int 0)] (fun us mv ws => us ++ mv ++ ws) (by simp) (by simp) (fun a b c => (a.append b).append c) fun D doc pm an cdv ct us mv ws h1 h2 h3 => match us, mv, ws, h1, h2, h3 with
    | [_], [_], [_], _, _, _ => ⟨_, _, _, _, _, _, rfl, rfl, rfl⟩
theorem kb1hl (T : Txt K mg A) : ∃ mv : List Value, KBn K A.d_parse_integer ["text", "low", "high"] 1 ["high", "low"] (fun us ws => us ++ ws.reverse) (fun vs zs => vs ++ zs.reverse) := by
  obtain ⟨mv, h⟩ := FR.kb0 (ps := ["text", "low", "high"]) T.F_parse_integer 1 ["high", "low"] [] (fun us mv ws => us ++ ws.reverse) (by simp) (by simp) (fun a b c => a.append (vrev c)) fun D doc pm an cdv ct us mv ws h1 h2 h3 => match us, mv, ws, h1, h2, h3 with
    | [u], [], [v, w], _, _, _ => (show bindArgs _ _ = pure _ from rfl)
  exact ⟨mv, h⟩
theorem kb1lh (T : Txt K mg A) : ∃ mv : List Value, KBn K A.d_parse_integer ["text", "low", "high"] 1 ["low", "high"] (fun us ws => us ++ ws) (fun vs zs => vs ++ zs) := by
  obtain ⟨mv, h⟩ := FR.kb0 (ps := ["text", "low", "high"]) T.F_parse_integer 1 ["low", "high"] [] (fun us mv ws => us ++ ws) (by simp) (by simp) (fun a b c => a.append c) fun D doc pm an cdv ct us mv ws h1 h2 h3 => match us, mv, ws, h1, h2, h3 with
    | [u], [], [v, w], _, _, _ => (show bindArgs _ _ = pure _ from rfl)
  exact ⟨mv, h⟩
def spLaw (K : PySem.W.Frag) : Sp := fun vs H Q _ => ∃ (a : Addr) (ns : List Int), vs = [.ref a] ∧ SqL K H a (ns.map V.int) ∧ ns.length ≤ 63 ∧ ∀ H', Q (.bl true) H'
theorem ok_law (T : Txt K mg A) : FnOk P w K mg base CX0 3 A.f_law A.d_law ["_law_script"] (spLaw K) := by
  refine T.F_law.ok sc_law (fun vs H Q E h => ?_) (fun cdv A_ outer s_ H vs Q E hr h => ?_)
  · obtain ⟨a, ns, rfl, _⟩ := h
    rfl
  · obtain ⟨a, ns, rfl, hS, hlen, q⟩ := h
    have W0 : Ow H [] H [] := Ow.start0
    obtain ⟨ds1, rd_parse_integer_1, bd_parse_integer_1⟩ := bd1 T
    obtain ⟨mv0, kb_parse_integer_0_text⟩ := kb0t T
    obtain ⟨mv1, kb_parse_integer_1_low⟩ := kb1l T
    obtain ⟨mv2, kb_parse_integer_1_high⟩ := kb1h T
    obtain ⟨mv3, kb_parse_integer_1_high_low⟩ := kb1hl T
    obtain ⟨mv4, kb_parse_integer_1_low_high⟩ := kb1lh T
    refine ⟨_, (pss_cons (ps_for PassesOwn.never rfl (pi_range1 (by rfl) T.b_range (pa_cons (pe_callB (call_max2 rfl) (by rfl) T.b_max (by decide +kernel) (pa_cons pe_int (pa_cons (pe_callB (call_min2 rfl) (by rfl) T.b_min (by decide +kernel) (pa_cons pe_int (pa_cons (pe_callB call_len_seq (by rfl) T.b_len PySem.boot_len (pa_cons (pv 0) pa_nil)) pa_nil))) pa_nil))) pa_nil)) (pg_name (i := 1) sc_law.nd rfl (.inl rfl)) (pss_cons (ps_set (i := 2) sc_law.nd rfl (.inl rfl) (pe_call (ok_bag T) (hr.mono (by decide)) (by rfl) T.g_bag T.F_bag.kp T.B_bag .nil pass0 (pa_cons (pe_call (ok_cell T) (hr.mono (by decide)) (by rfl) T.g_cell T.F_cell.kp T.B_cell .nil pass0 (pa_cons (pv 0) (pa_cons (pv 1) pa_nil))) pa_nil)))
  (pss_cons (ps_set (i := 3) sc_law.nd rfl (.inl rfl) (pe_call (ok_digits T) hr (by rfl) T.g_digits T.F_digits.kp T.B_digits .nil pass0 (pa_cons (pv 2) pa_nil)))
  (pss_cons (ps_set (i := 4) sc_law.nd rfl (.inl rfl) (pe_call (ok_value T) (hr.mono (by decide)) (by rfl) T.g_value T.F_value.kp T.B_value .nil pass0 (pa_cons (pv 3) pa_nil)))
  (pss_cut (ps_set (i := 5) sc_law.nd rfl (.inl rfl) (pe_orT (pv 4) (pe_one pe_int)))
  (pss_cons (ps_set (i := 6) sc_law.nd rfl (.inl rfl) (pe_op op_sub (pe_op op_pow pe_int pe_int) pe_int))
  (pss_cons (ps_set (i := 7) sc_law.nd rfl (.inl rfl) (pe_ix ix_list (pe_lstN (pa_cons pe_int (pa_cons (pv 5) (pa_cons (pe_callB (call_min2 rfl) (by rfl) T.b_min (by decide +kernel) (pa_cons (pv 6) (pa_cons (pe_op op_add (pv 5) pe_int) pa_nil))) (pa_cons (pe_op op_sub (pv 5) pe_int) (pa_cons (pv 6) (pa_cons (pe_un un_neg pe_int) pa_nil))))))) (pe_call (ok_take T) (hr.mono (by decide)) (by rfl) T.g_take T.F_take.kp T.B_take .nil pass0 (pa_cons (pv 2) (pa_cons pe_int pa_nil))) (fun _ _ => rfl)))
  (pss_cons (ps_set (i := 8) sc_law.nd rfl (.inl rfl) (pe_ix ix_list (pe_lstN (pa_cons (pv 5) (pa_cons (pe_op op_sub (pv 5) pe_int) (pa_cons (pe_callB (call_min2 rfl) (by rfl) T.b_min (by decide +kernel) (pa_cons (pv 6) (pa_cons (pe_op op_add (pv 5) pe_int) pa_nil))) (pa_cons (pv 6) (pa_cons pe_int (pa_cons (pe_un un_neg pe_int) pa_nil))))))) (pe_call (ok_take T) (hr.mono (by decide)) (by rfl) T.g_take T.F_take.kp T.B_take .nil pass0 (pa_cons (pv 2) (pa_cons pe_int pa_nil))) (fun _ _ => rfl)))
  (pss_cons (ps_if (pt_not (pt_val (pe_call (ok_same T) (hr.mono (by decide)) (by rfl) T.g_same T.F_same.kp T.B_same .nil pass0 (pa_cons (pe_callN0 (ok_parse_integer T) (hr.mono (by decide)) (by rfl) T.g_parse_integer T.F_parse_integer.kp kb_parse_integer_0_text pass0 (pk_cons (pv 3) pk_nil)) (pa_cons (pe_call (ok_between T) (hr.mono (by decide)) (by rfl) T.g_between T.F_between.kp T.B_between .nil pass0 (pa_cons (pv 4) (pa_cons pe_int (pa_cons pe_int pa_nil)))) pa_nil))))) (pss_one (ps_ret pe_bl)) pss_nil)
  (pss_cons (ps_if (pt_not (pt_val (pe_call (ok_same T) (hr.mono (by decide)) (by rfl) T.g_same T.F_same.kp T.B_same .nil pass0 (pa_cons (pe_callN (ok_parse_integer T) (hr.mono (by decide)) (by rfl) T.g_parse_integer T.F_parse_integer.kp kb_parse_integer_1_low pass0 (pa_cons (pv 3) pa_nil) (pk_cons (pv 7) pk_nil)) (pa_cons (pe_call (ok_between T) (hr.mono (by decide)) (by rfl) T.g_between T.F_between.kp T.B_between .nil pass0 (pa_cons (pv 4) (pa_cons (pv 7) (pa_cons pe_int pa_nil)))) pa_nil))))) (pss_one (ps_ret pe_bl)) pss_nil)
  (pss_cons (ps_if (pt_not (pt_val (pe_call (ok_same T) (hr.mono (by decide)) (by rfl) T.g_same T.F_same.kp T.B_same .nil pass0 (pa_cons (pe_callN (ok_parse_integer T) (hr.mono (by decide)) (by rfl) T.g_parse_integer T.F_parse_integer.kp kb_parse_integer_1_high pass0 (pa_cons (pv 3) pa_nil) (pk_cons (pv 8) pk_nil)) (pa_cons (pe_call (ok_between T) (hr.mono (by decide)) (by rfl) T.g_between T.F_between.kp T.B_between .nil pass0 (pa_cons (pv 4) (pa_cons pe_int (pa_cons (pv 8) pa_nil)))) pa_nil))))) (pss_one (ps_ret pe_bl)) pss_nil)
  (pss_cons (ps_if (pt_not (pt_val (pe_call (ok_same T) (hr.mono (by decide)) (by rfl) T.g_same T.F_same.kp T.B_same .nil pass0 (pa_cons (pe_callN (ok_parse_integer T) (hr.mono (by decide)) (by rfl) T.g_parse_integer T.F_parse_integer.kp kb_parse_integer_1_high_low pass0 (pa_cons (pv 3) pa_nil) (pk_cons (pv 8) (pk_cons (pv 7) pk_nil))) (pa_cons (pe_call (ok_between T) (hr.mono (by decide)) (by rfl) T.g_between T.F_between.kp T.B_between .nil pass0 (pa_cons (pv 4) (pa_cons (pv 7) (pa_cons (pv 8) pa_nil)))) pa_nil))))) (pss_one (ps_ret pe_bl)) pss_nil)
  (pss_cons (ps_set (i := 9) sc_law.nd rfl (.inl rfl) (pe_ix ix_list (pe_lstN (pa_cons pe_non (pa_cons pe_int (pa_cons pe_bl (pa_cons (pe_lstN (pa_cons (pv 3) pa_nil)) (pa_cons (pe_tupN (pa_cons (pv 3) pa_nil)) (pa_cons pe_dnewN (pa_cons pe_str (pa_cons (pe_un un_neg pe_int) pa_nil))))))))) (pe_call (ok_take T) (hr.mono (by decide)) (by rfl) T.g_take T.F_take.kp T.B_take .nil pass0 (pa_cons (pv 2) (pa_cons pe_int pa_nil))) (fun _ _ => rfl)))
  (pss_one (ps_if (PW.pt (pw_or (pt_cmpR op_notN (pe_call (ok_parse_integer T) (hr.mono (by decide)) (by rfl) T.g_parse_integer T.F_parse_integer.kp bd_parse_integer_1 rd_parse_integer_1 pass0 (pa_cons (pv 9) pa_nil)) pe_non (nomark _)) (pw_or1 (pt_cmpR op_notN (pe_callN (ok_parse_integer T) (hr.mono (by decide)) (by rfl) T.g_parse_integer T.F_parse_integer.kp kb_parse_integer_1_low_high pass0 (pa_cons (pv 9) pa_nil) (pk_cons (pe_un un_neg pe_int) (pk_cons (pv 6) pk_nil))) pe_non (nomark _))))) (pss_one (ps_ret pe_bl)) pss_nil)))))))))))))))
  (pss_one (ps_ret (pe_and (pe_call (ok_same T) (hr.mono (by decide)) (by rfl) T.g_same T.F_same.kp T.B_same .nil pass0 (pa_cons (pe_call (ok_parse_integer T) (hr.mono (by decide)) (by rfl) T.g_parse_integer T.F_parse_integer.kp bd_parse_integer_1 rd_parse_integer_1 pass0 (pa_cons pe_str pa_nil)) (pa_cons pe_int pa_nil))) (pe_one (pe_cmpR op_isN (pe_call (ok_parse_integer T) (hr.mono (by decide)) (by rfl) T.g_parse_integer T.F_parse_integer.kp bd_parse_integer_1 rd_parse_integer_1 pass0 (pa_cons pe_str pa_nil)) pe_non (nomark _))))))), ?_⟩
    walk_at "rd"
    have hn : (0 : Int) ≤ max 2 (min 10 (ns.map V.int).length) := by omega
    refine for_rg (fun i σ H' => (∃ y1 y2 y3 y4 y5 y6 y7 y8 y9, σ = [some (.ref a), y1, y2, y3, y4, y5, y6, y7, y8, y9]) ∧ Ow H [] H' []) ⟨⟨none, none, none, none, none, none, none, none, none, rfl⟩, W0⟩ ?_ ?_
    · rintro i σ H1 hi ⟨⟨y1, y2, y3, y4, y5, y6, y7, y8, y9, rfl⟩, W1⟩
      have hi' : i < 63 := by
        refine Nat.lt_of_lt_of_le hi ?_
        rw [List.length_map]
        omega
      walk_at "rd"
      refine ⟨a, ns, _, rfl, W1.seq hS (by simp), by omega, by omega, fun n => ?_⟩
      walk_at "rd"
      intro x y z ok
      walk_at "rd"
      rename_i b H2 np2 kp2 hp2 W2
      refine ⟨b, _, _, _, _, rfl, W2.get 0 rfl, ok, by decide, fun s x' y' z' H3 hs ok3 kp3 hp3 => ?_⟩
      have W3 := W2.any1 0 rfl kp3 hp3
      walk_at "rd"
      refine ⟨fun σ' H' => (∃ m, σ' = [some (.ref a), some (.int (0 + i)), some (.ref b), some (.str s), some (oV (lval s)), some (.int m), y6, y7, y8, y9]) ∧ H3 = H', ?_, fun σ' H' h => ?_⟩
      · cases e : lval s with
        | none =>
          refine ⟨_, rfl, false, rfl, ?_⟩
          walk_at "rd"
          rfl
        | some m =>
          refine ⟨_, rfl, _, rfl, ?_⟩
          refine ifB (fun c => ?_) (fun c => ?_)
          · walk_at "rd"
            rfl
          · walk_at "rd"
            rfl
      · obtain ⟨⟨m, rfl⟩, rfl⟩ := h
        walk_at "rd"
        rename_i p4 H4 np4 kp4 hp4 W4
        walk_at "take"
        rename_i d5 x5 y5 z5 H5 d50 d51 ok5 kp5 hb5 W5
        obtain ⟨v, hv, hm⟩ := atI_in (xs := [V.int 0, V.int m, V.int (if m + 1 < 10 ^ 30 - 1 then m + 1 else 10 ^ 30 - 1), V.int (m - 1), V.int (10 ^ 30 - 1), V.int (-5)]) d50 d51
        obtain ⟨lo, rfl⟩ : ∃ j, v = .int j := by
          simp at hm
          rcases hm with rfl | rfl | rfl | rfl | rfl | rfl <;> exact ⟨_, rfl⟩
        refine ⟨_, _, _, _, rfl, rfl, W5.sq 0 rfl, hv, ?_⟩
        walk_at "rd"
        rename_i p6 H6 np6 kp6 hp6 W6
        walk_at "take"
        rename_i d7 x7 y7 z7 H7 d70 d71 ok7 kp7 hb7 W7
        obtain ⟨v, hv, hm⟩ := atI_in (xs := [V.int m, V.int (m - 1), V.int (if m + 1 < 10 ^ 30 - 1 then m + 1 else 10 ^ 30 - 1), V.int (10 ^ 30 - 1), V.int 999999, V.int (-1)]) d70 d71
        obtain ⟨hi, rfl⟩ : ∃ j, v = .int j := by
          simp at hm
          rcases hm with rfl | rfl | rfl | rfl | rfl | rfl <;> exact ⟨_, rfl⟩
        refine ⟨_, _, _, _, rfl, rfl, W7.sq 0 rfl, hv, ?_⟩
        walk_at "rd"
        refine ⟨_, _, _, rfl, .inl ⟨s, rfl, by omega, ?_⟩⟩
        walk_at "rd"
        refine ⟨lval s, _, _, rfl, ?_⟩
        walk_at "rd"
        refine ifN (fun c => absurd rfl c) (fun _ => ?_)
        walk_at "rd"
        refine ⟨_, _, _, rfl, .inl ⟨s, rfl, by omega, ?_⟩⟩
        walk_at "rd"
        refine ⟨lval s, _, _, rfl, ?_⟩
        walk_at "rd"
        refine ifN (fun c => absurd rfl c) (fun _ => ?_)
        walk_at "rd"
        refine ⟨_, _, _, rfl, .inl ⟨s, rfl, by omega, ?_⟩⟩
        walk_at "rd"
        refine ⟨lval s, _, _, rfl, ?_⟩
        walk_at "rd"
        refine ifN (fun c => absurd rfl c) (fun _ => ?_)
        walk_at "rd"
        refine ⟨_, _, _, rfl, .inl ⟨s, rfl, by omega, ?_⟩⟩
        walk_at "rd"
        refine ⟨lval s, _, _, rfl, ?_⟩
        walk_at "rd"
        refine ifN (fun c => absurd rfl c) (fun _ => ?_)
        walk_at "rd"
        rename_i pl Hl npl kpl hpl Wl pt Ht npt kpt hpt Wt pd Hd npd kpd hpd Wd pa H9 np9 kp9 hp9 W9
        walk_at "take"
        rename_i d10 x10 y10 z10 H10 d100 d101 ok10 kp10 hb10 W10
        obtain ⟨v, hv, hm⟩ := atI_in (xs := [V.non, V.int 7, V.bl true, V.ref pl, V.ref pt, V.ref pd, V.str (Str.ofString ""), V.int (-1)]) d100 d101
        refine ⟨_, _, _, _, rfl, rfl, W10.sq 0 rfl, hv, ?_⟩
        have any : v = .str (Str.ofString "") ∨ ∃ t, TyX K H10 v (.type t) ∧ kitB t "str" = some false := by
          simp at hm
          rcases hm with rfl | rfl | rfl | rfl | rfl | rfl | rfl | rfl
          · exact .inr ⟨_, .base .non, ki_non_str⟩
          · exact .inr ⟨_, .base (.int _), ki_int_str⟩
          · exact .inr ⟨_, .base (.bl _), ki_bl_str⟩
          · exact .inr ⟨_, .base (.lst (W10.get 3 rfl)), ki_lst_str⟩
          · exact .inr ⟨_, .base (.tup (W10.get 2 rfl)), ki_tup_str⟩
          · exact .inr ⟨_, .base (.dK (W10.get 1 rfl)), ki_dK_str⟩
          · exact .inl rfl
          · exact .inr ⟨_, .base (.int _), ki_int_str⟩
        rcases any with rfl | any
        · have e0 : lval (Str.ofString "") = none := by decide +kernel
          walk_at "rd"
          refine ⟨_, _, _, rfl, .inl ⟨_, rfl, by decide +kernel, ?_⟩⟩
          rw [e0]
          walk_at "rd"
          refine ⟨_, _, _, rfl, .inl ⟨_, rfl, by decide +kernel, ?_⟩⟩
          rw [e0]
          walk_at "rd"
          exact ⟨⟨_, _, _, _, _, _, _, _, _, rfl⟩, W10.drop⟩
        walk_at "rd"
        refine ⟨_, _, _, rfl, .inr ⟨any, ?_⟩⟩
        walk_at "rd"
        refine ⟨_, _, _, rfl, .inr ⟨any, ?_⟩⟩
        walk_at "rd"
        exact ⟨⟨_, _, _, _, _, _, _, _, _, rfl⟩, W10.drop⟩
    · rintro σ H1 ⟨⟨y1, y2, y3, y4, y5, y6, y7, y8, y9, rfl⟩, W1⟩
      walk_at "rd"
      refine ⟨_, _, _, rfl, .inl ⟨_, rfl, by decide +kernel, ?_⟩⟩
      rw [show oV (btw (lval (Str.ofString "0")) 0 999999) = oV (some 0) by decide +kernel]
      walk_at "rd"
      refine ⟨some 0, some 0, rfl, ?_⟩
      walk_at "rd"
      refine ⟨_, _, _, rfl, .inl ⟨_, rfl, by decide +kernel, ?_⟩⟩
      rw [show oV (btw (lval (Str.ofString "00")) 0 999999) = V.non by decide +kernel]
      walk_at "rd"
      exact q _
end
end K05
namespace K05
open PySem PySem.Spec PyProof.Rows L2 FR TL
theorem all_mk {P : Program} {w : World} {K : PySem.W.Frag} {h : Heap} {mg : Str → Option Value} {fa : Addr} (X : K.In h) (G : h.Ns mainGlobals mg) (hfa : mg "law" = some (.ref fa))
    {f0 : Addr} {od0 an0 : Option Addr} {sl0 : Array (Option Value)} {oc0 dc0 pm0 cd0 ct0 : Value}
    {D0 : Addr} {t0_0 : Tok} {t0_1 : Tok}
    {f1 : Addr} {od1 an1 : Option Addr} {sl1 : Array (Option Value)} {oc1 kV1 dc1 pm1 cd1 ct1 : Value}
    {f2 : Addr} {od2 an2 : Option Addr} {sl2 : Array (Option Value)} {oc2 kV2 dc2 pm2 cd2 ct2 : Value}
    {f3 : Addr} {od3 an3 : Option Addr} {sl3 : Array (Option Value)} {oc3 kV3 dc3 pm3 cd3 ct3 : Value}
    {f4 : Addr} {od4 an4 : Option Addr} {sl4 : Array (Option Value)} {oc4 kV4 dc4 pm4 cd4 ct4 : Value}
    {f5 : Addr} {od5 an5 : Option Addr} {sl5 : Array (Option Value)} {oc5 kV5 dc5 pm5 cd5 ct5 : Value}
    {f6 : Addr} {od6 an6 : Option Addr} {sl6 : Array (Option Value)} {oc6 kV6 dc6 pm6 cd6 ct6 : Value}
    {f7 : Addr} {od7 an7 : Option Addr} {sl7 : Array (Option Value)} {oc7 kV7 dc7 pm7 cd7 ct7 : Value}
    {f8 : Addr} {od8 an8 : Option Addr} {sl8 : Array (Option Value)} {oc8 kV8 dc8 pm8 cd8 ct8 : Value}
    {tc0 : Tok}
    (a0 : PySem.W.nsIn K mainGlobals "parse_integer" = some (some (.ref f0)))
    (l0 : K.lookup f0 = some ⟨oc0, od0, .func (PySem.W.fnOf "parse_integer" "parse_integer" (defArgs s_parse_integer) (defBody s_parse_integer) (defScope s_parse_integer) .none (.ref D0) dc0 pm0 an0 cd0 ct0), sl0⟩)
    (c0 : PySem.W.codeIn K cd0 "parse_integer" = true) (k0 : PySem.W.keepIn K (.ref f0) = true)
    (w0_0 : PySem.W.nsIn K D0 "low" = some (some (.int 0 t0_0)))
    (w0_1 : PySem.W.nsIn K D0 "high" = some (some (.int 999999 t0_1)))
    (a1 : PySem.W.nsIn K mainGlobals "_law_cell" = some (some (.ref f1)))
    (l1 : K.lookup f1 = some ⟨oc1, od1, .func (PySem.W.fnOf "_law_cell" "_law_cell" (defArgs s_cell) (defBody s_cell) (defScope s_cell) .none kV1 dc1 pm1 an1 cd1 ct1), sl1⟩)
    (c1 : PySem.W.codeIn K cd1 "_law_cell" = true) (k1 : PySem.W.keepIn K (.ref f1) = true)
    (a2 : PySem.W.nsIn K mainGlobals "_law_bag" = some (some (.ref f2)))
    (l2 : K.lookup f2 = some ⟨oc2, od2, .func (PySem.W.fnOf "_law_bag" "_law_bag" (defArgs s_bag) (defBody s_bag) (defScope s_bag) .none kV2 dc2 pm2 an2 cd2 ct2), sl2⟩)
    (c2 : PySem.W.codeIn K cd2 "_law_bag" = true) (k2 : PySem.W.keepIn K (.ref f2) = true)
    (a3 : PySem.W.nsIn K mainGlobals "_law_take" = some (some (.ref f3)))
    (l3 : K.lookup f3 = some ⟨oc3, od3, .func (PySem.W.fnOf "_law_take" "_law_take" (defArgs s_take) (defBody s_take) (defScope s_take) .none kV3 dc3 pm3 an3 cd3 ct3), sl3⟩)
    (c3 : PySem.W.codeIn K cd3 "_law_take" = true) (k3 : PySem.W.keepIn K (.ref f3) = true)
    (a4 : PySem.W.nsIn K mainGlobals "_law_digits" = some (some (.ref f4)))
    (l4 : K.lookup f4 = some ⟨oc4, od4, .func (PySem.W.fnOf "_law_digits" "_law_digits" (defArgs s_digits) (defBody s_digits) (defScope s_digits) .none kV4 dc4 pm4 an4 cd4 ct4), sl4⟩)
    (c4 : PySem.W.codeIn K cd4 "_law_digits" = true) (k4 : PySem.W.keepIn K (.ref f4) = true)
    (a5 : PySem.W.nsIn K mainGlobals "_law_value" = some (some (.ref f5)))
    (l5 : K.lookup f5 = some ⟨oc5, od5, .func (PySem.W.fnOf "_law_value" "_law_value" (defArgs s_value) (defBody s_value) (defScope s_value) .none kV5 dc5 pm5 an5 cd5 ct5), sl5⟩)
    (c5 : PySem.W.codeIn K cd5 "_law_value" = true) (k5 : PySem.W.keepIn K (.ref f5) = true)
    (a6 : PySem.W.nsIn K mainGlobals "_law_between" = some (some (.ref f6)))
    (l6 : K.lookup f6 = some ⟨oc6, od6, .func (PySem.W.fnOf "_law_between" "_law_between" (defArgs s_between) (defBody s_between) (defScope s_between) .none kV6 dc6 pm6 an6 cd6 ct6), sl6⟩)
    (c6 : PySem.W.codeIn K cd6 "_law_between" = true) (k6 : PySem.W.keepIn K (.ref f6) = true)
    (a7 : PySem.W.nsIn K mainGlobals "_law_same" = some (some (.ref f7)))
    (l7 : K.lookup f7 = some ⟨oc7, od7, .func (PySem.W.fnOf "_law_same" "_law_same" (defArgs s_same) (defBody s_same) (defScope s_same) .none kV7 dc7 pm7 an7 cd7 ct7), sl7⟩)
    (c7 : PySem.W.codeIn K cd7 "_law_same" = true) (k7 : PySem.W.keepIn K (.ref f7) = true)
    (a8 : PySem.W.nsIn K mainGlobals "law" = some (some (.ref f8)))
    (l8 : K.lookup f8 = some ⟨oc8, od8, .func (PySem.W.fnOf "law" "law" (defArgs s_law) (defBody s_law) (defScope s_law) .none kV8 dc8 pm8 an8 cd8 ct8), sl8⟩)
    (c8 : PySem.W.codeIn K cd8 "law" = true) (k8 : PySem.W.keepIn K (.ref f8) = true)
    (q0 : PySem.W.nsIn K mainGlobals "MOST_DIGITS" = some (some (.int 30 tc0)))
    (z0 : PySem.W.nsIn K mainGlobals "bool" = some none)
    (z1 : PySem.W.nsIn K mainGlobals "int" = some none)
    (z2 : PySem.W.nsIn K mainGlobals "isinstance" = some none)
    (z3 : PySem.W.nsIn K mainGlobals "len" = some none)
    (z4 : PySem.W.nsIn K mainGlobals "max" = some none)
    (z5 : PySem.W.nsIn K mainGlobals "min" = some none)
    (z6 : PySem.W.nsIn K mainGlobals "range" = some none)
    (z7 : PySem.W.nsIn K mainGlobals "str" = some none) :
    ∃ fd : FuncData, (∀ (s : Shared) (v : Value), BindsTo s fd ⟨[v], []⟩ [("_law_script", v)]) ∧ ∀ base : Heap, K.In base → base.Ns mainGlobals mg → FnOk P w K mg base CX0 3 fa fd ["_law_script"] (spLaw K) := by
  have e := hfa.symm.trans (PySem.W.mg_of X G a8)
  cases e
  let A : Ads := {
    f_parse_integer := f0
    d_parse_integer := PySem.W.fnOf "parse_integer" "parse_integer" (defArgs s_parse_integer) (defBody s_parse_integer) (defScope s_parse_integer) .none (.ref D0) dc0 pm0 an0 cd0 ct0
    f_cell := f1
    d_cell := PySem.W.fnOf "_law_cell" "_law_cell" (defArgs s_cell) (defBody s_cell) (defScope s_cell) .none kV1 dc1 pm1 an1 cd1 ct1
    f_bag := f2
    d_bag := PySem.W.fnOf "_law_bag" "_law_bag" (defArgs s_bag) (defBody s_bag) (defScope s_bag) .none kV2 dc2 pm2 an2 cd2 ct2
    f_take := f3
    d_take := PySem.W.fnOf "_law_take" "_law_take" (defArgs s_take) (defBody s_take) (defScope s_take) .none kV3 dc3 pm3 an3 cd3 ct3
    f_digits := f4
    d_digits := PySem.W.fnOf "_law_digits" "_law_digits" (defArgs s_digits) (defBody s_digits) (defScope s_digits) .none kV4 dc4 pm4 an4 cd4 ct4
    f_value := f5
    d_value := PySem.W.fnOf "_law_value" "_law_value" (defArgs s_value) (defBody s_value) (defScope s_value) .none kV5 dc5 pm5 an5 cd5 ct5
    f_between := f6
    d_between := PySem.W.fnOf "_law_between" "_law_between" (defArgs s_between) (defBody s_between) (defScope s_between) .none kV6 dc6 pm6 an6 cd6 ct6
    f_same := f7
    d_same := PySem.W.fnOf "_law_same" "_law_same" (defArgs s_same) (defBody s_same) (defScope s_same) .none kV7 dc7 pm7 an7 cd7 ct7
    f_law := fa
    d_law := PySem.W.fnOf "law" "law" (defArgs s_law) (defBody s_law) (defScope s_law) .none kV8 dc8 pm8 an8 cd8 ct8 }
  have T : Txt K mg A := {
    F_parse_integer := ⟨⟨oc0, od0, .none, .ref D0, dc0, pm0, an0, cd0, ct0, sl0, rfl, l0, c0, .inl ⟨rfl, rfl⟩, .inr ⟨D0, rfl, (List.forall_mem_cons.mpr ⟨⟨_, w0_0, _, rfl⟩, (List.forall_mem_cons.mpr ⟨⟨_, w0_1, _, rfl⟩, (fun _ h => by simp at h)⟩)⟩)⟩⟩, k0⟩
    g_parse_integer := PySem.W.mg_of X G a0
    F_cell := fun_mk l1 c1 k1
    B_cell := (fun_mk (st := s_cell) l1 c1 k1).binds (ps := ["_law_script", "_law_k"]) fun _ _ _ _ _ _ us hl => match us, hl with | [_, _], _ => rfl
    g_cell := PySem.W.mg_of X G a1
    F_bag := fun_mk l2 c2 k2
    B_bag := (fun_mk (st := s_bag) l2 c2 k2).binds (ps := ["_law_number"]) fun _ _ _ _ _ _ us hl => match us, hl with | [_], _ => rfl
    g_bag := PySem.W.mg_of X G a2
    F_take := fun_mk l3 c3 k3
    B_take := (fun_mk (st := s_take) l3 c3 k3).binds (ps := ["_law_bag_here", "_law_count"]) fun _ _ _ _ _ _ us hl => match us, hl with | [_, _], _ => rfl
    g_take := PySem.W.mg_of X G a3
    F_digits := fun_mk l4 c4 k4
    B_digits := (fun_mk (st := s_digits) l4 c4 k4).binds (ps := ["_law_bag_here"]) fun _ _ _ _ _ _ us hl => match us, hl with | [_], _ => rfl
    g_digits := PySem.W.mg_of X G a4
    F_value := fun_mk l5 c5 k5
    B_value := (fun_mk (st := s_value) l5 c5 k5).binds (ps := ["_law_text_one"]) fun _ _ _ _ _ _ us hl => match us, hl with | [_], _ => rfl
    g_value := PySem.W.mg_of X G a5
    F_between := fun_mk l6 c6 k6
    B_between := (fun_mk (st := s_between) l6 c6 k6).binds (ps := ["_law_number", "_law_floor", "_law_top"]) fun _ _ _ _ _ _ us hl => match us, hl with | [_, _, _], _ => rfl
    g_between := PySem.W.mg_of X G a6
    F_same := fun_mk l7 c7 k7
    B_same := (fun_mk (st := s_same) l7 c7 k7).binds (ps := ["_law_found", "_law_expected"]) fun _ _ _ _ _ _ us hl => match us, hl with | [_, _], _ => rfl
    g_same := PySem.W.mg_of X G a7
    F_law := fun_mk l8 c8 k8
    B_law := (fun_mk (st := s_law) l8 c8 k8).binds (ps := ["_law_script"]) fun _ _ _ _ _ _ us hl => match us, hl with | [_], _ => rfl
    g_law := PySem.W.mg_of X G a8
    c_MOST_DIGITS := ⟨_, PySem.W.mg_of X G q0, _, rfl⟩
    b_bool := PySem.W.mg_none_of X G z0
    b_int := PySem.W.mg_none_of X G z1
    b_isinstance := PySem.W.mg_none_of X G z2
    b_len := PySem.W.mg_none_of X G z3
    b_max := PySem.W.mg_none_of X G z4
    b_min := PySem.W.mg_none_of X G z5
    b_range := PySem.W.mg_none_of X G z6
    b_str := PySem.W.mg_none_of X G z7 }
  exact ⟨A.d_law, fun s v => .of_eq rfl, fun base _ _ => ok_law T⟩
end K05
open PySem PySem.W PyProof.Rows
set_option maxHeartbeats 0 in
theorem PySem.Challenge.cw_filerights_k05_integers_of_texts_holds : PySem.Challenge.rw_filerights_k05_integers_of_texts.Holds := by
  w_on; o_law; k_head; (case hw => w_witness2)
  k_fill
  refine L2.walk_of (l := PySem.Challenge.rw_filerights_k05_integers_of_texts) (n := 63) (k := 3) (x := "_law_script") (CX := fun _ => L2.CX0) (sp := fun w => K05.spLaw _) rfl (by decide) rfl ⟨rfl, by decide, by decide⟩ (fun w h Y => PySem.W.kIn_of Y) ?F (fun _ _ a ns hl _ hS => ⟨a, ns, rfl, hS, hl, fun _ => rfl⟩) (fun _ _ _ _ _ h => h)
  case F =>
    intro w mg fa h KX G hmg
    refine' K05.all_mk KX G hmg ?a0 ?l0 ?c0 ?k0 ?w0_0 ?w0_1 ?a1 ?l1 ?c1 ?k1 ?a2 ?l2 ?c2 ?k2 ?a3 ?l3 ?c3 ?k3 ?a4 ?l4 ?c4 ?k4 ?a5 ?l5 ?c5 ?k5 ?a6 ?l6 ?c6 ?k6 ?a7 ?l7 ?c7 ?k7 ?a8 ?l8 ?c8 ?k8 ?q0 ?z0 ?z1 ?z2 ?z3 ?z4 ?z5 ?z6 ?z7
    (case a0 => k_is)
    (case l0 => k_is)
    (case c0 => k_is)
    (case k0 => k_is)
    (case w0_0 => k_is)
    (case w0_1 => k_is)
    (case a1 => k_is)
    (case l1 => k_is)
    (case c1 => k_is)
    (case k1 => k_is)
    (case a2 => k_is)
    (case l2 => k_is)
    (case c2 => k_is)
    (case k2 => k_is)
    (case a3 => k_is)
    (case l3 => k_is)
    (case c3 => k_is)
    (case k3 => k_is)
    (case a4 => k_is)
    (case l4 => k_is)
    (case c4 => k_is)
    (case k4 => k_is)
    (case a5 => k_is)
    (case l5 => k_is)
    (case c5 => k_is)
    (case k5 => k_is)
    (case a6 => k_is)
    (case l6 => k_is)
    (case c6 => k_is)
    (case k6 => k_is)
    (case a7 => k_is)
    (case l7 => k_is)
    (case c7 => k_is)
    (case k7 => k_is)
    (case a8 => k_is)
    (case l8 => k_is)
    (case c8 => k_is)
    (case k8 => k_is)
    (case q0 => k_is)
    (case z0 => k_is)
    (case z1 => k_is)
    (case z2 => k_is)
    (case z3 => k_is)
    (case z4 => k_is)
    (case z5 => k_is)
    (case z6 => k_is)
    (case z7 => k_is)
