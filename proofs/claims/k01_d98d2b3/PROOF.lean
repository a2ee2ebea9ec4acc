import PyProof.Rows.All
import Wide.All
import OpenK.AllK
import Wide.FinOn
import HandS.ForMost
import HandS.IsInst
import HandS.Defaults
import HandS.StrMore
import HandS.Flow
import HandS.Codes
import HandS.EndBits
import HandS.Walk
import HandS.Replace
import PySem.Challenge.RW_filerights_k01_integers_names_paths
set_option Elab.async false
set_option linter.all false
set_option maxRecDepth 100000
/-! own lemmas over the hand layer: what a def's body holds of the heap -/
namespace FR
open PySem PySem.Spec PyProof.Rows L2 TL
/-- all that was tracked, other than at M, is as it was -/
def Keep (M : List Addr) (H H' : Hp) : Prop := ∀ b o, H b = some o → b ∉ M → H' b = some o
theorem Keep.refl {M : List Addr} {H : Hp} : Keep M H H := fun _ _ h _ => h
theorem Keep.same {H H' : Hp} (k : Keep [] H H') : Same H H' := fun b o h => k b o h (by simp)
theorem Keep.of_same {H H' : Hp} (k : Same H H') : Keep [] H H' := fun b o h _ => k b o h
theorem Keep.free {H H' : Hp} (k : Keep [] H H') {p : Addr} (h : H' p = none) : H p = none := k.same.free h
/-- a body's heap: H0 at its entry, M what it may change, L what it holds -/
structure Ow (H0 : Hp) (M : List Addr) (H : Hp) (L : List (Addr × HO)) : Prop where
  keep : ∀ b o, H0 b = some o → b ∉ M → H b = some o
  has : ∀ p ∈ L, H p.1 = some p.2
  nd : (L.map (·.1)).Nodup
  fr : ∀ p ∈ L, H0 p.1 = none ∨ p.1 ∈ M
section
variable {H0 H H' : Hp} {M : List Addr} {L : List (Addr × HO)} {a p : Addr} {o o' : HO} {K : PySem.W.Frag} {xs : List V}
theorem Ow.start0 : Ow H [] H [] := ⟨fun _ _ h _ => h, fun _ h => by simp at h, by simp, fun _ h => by simp at h⟩
theorem Ow.start1 (h : H a = some o) : Ow H [a] H [(a, o)] := ⟨fun _ _ h _ => h, fun p hp => by simp at hp; subst hp; exact h, by simp, fun p hp => by simp at hp; subst hp; exact .inr (by simp)⟩
theorem Ow.get (W : Ow H0 M H L) (i : Nat) (e : L[i]? = some (a, o)) : H a = some o := W.has _ (List.mem_of_getElem? e)
theorem Ow.new (W : Ow H0 M H L) (h : H p = none) : Ow H0 M (upd H p o) ((p, o) :: L) where
  keep := fun b u e hb => by
    rw [upd_ne (ne_of_none (W.keep b u e hb) h)]
    exact W.keep b u e hb
  has := fun q hq => by
    rcases List.mem_cons.mp hq with rfl | hq
    · exact upd_same
    · rw [upd_ne (ne_of_none (W.has q hq) h)]
      exact W.has q hq
  nd := by
    rw [List.map_cons, List.nodup_cons]
    refine ⟨fun hm => ?_, W.nd⟩
    obtain ⟨q, hq, e⟩ := List.mem_map.mp hm
    have := W.has q hq
    rw [show q.1 = p from e, h] at this
    cases this
  fr := fun q hq => by
    rcases List.mem_cons.mp hq with rfl | hq
    · by_cases hm : p ∈ M
      · exact .inr hm
      · cases e : H0 p with
        | none => exact .inl rfl
        | some u =>
          have := W.keep p u e hm
          rw [h] at this
          cases this
    · exact W.fr q hq
theorem nd_of {α β : Type} [DecidableEq α] : ∀ {L : List (α × β)} {i : Nat} {x : α × β} {q : α × β}, (L.map (·.1)).Nodup → L[i]? = some x → q ∈ L → q.1 = x.1 → q = x
  | [], i, x, q, _, e, _, _ => by simp at e
  | y :: L, 0, x, q, hn, e, hq, h => by
    have e' : y = x := Option.some.inj e
    subst e'
    rcases List.mem_cons.mp hq with r | hq
    · exact r
    · rw [List.map_cons, List.nodup_cons] at hn
      exact absurd (List.mem_map.mpr ⟨q, hq, h⟩) hn.1
  | y :: L, i + 1, x, q, hn, e, hq, h => by
    rw [List.map_cons, List.nodup_cons] at hn
    have e' : L[i]? = some x := e
    rcases List.mem_cons.mp hq with r | hq
    · subst r
      exact absurd (List.mem_map.mpr ⟨x, List.mem_of_getElem? e', h.symm⟩) hn.1
    · exact nd_of hn.2 e' hq h
theorem map_set_fst {α β : Type} : ∀ {L : List (α × β)} {i : Nat} {a : α} {o o' : β}, L[i]? = some (a, o) → (L.set i (a, o')).map (·.1) = L.map (·.1)
  | [], i, a, o, o', e => by simp at e
  | y :: L, 0, a, o, o', e => by
    have e' : y = (a, o) := Option.some.inj e
    subst e'
    rfl
  | y :: L, i + 1, a, o, o', e => by
    have e' : L[i]? = some (a, o) := e
    rw [List.set_cons_succ, List.map_cons, List.map_cons, map_set_fst e']
theorem Ow.any1 (W : Ow H0 M H L) (i : Nat) (e : L[i]? = some (a, o)) (k : Keep [a] H H') (h : H' a = some o') : Ow H0 M H' (L.set i (a, o')) where
  keep := fun b u eb hb => by
    have z := W.keep b u eb hb
    refine k b u z ?_
    intro hm
    have hm' : b = a := by simpa using hm
    subst hm'
    rcases W.fr _ (List.mem_of_getElem? e) with r | r
    · rw [show (b, o).1 = b from rfl, eb] at r; cases r
    · exact hb r
  has := fun q hq => by
    rcases List.mem_or_eq_of_mem_set hq with hq | rfl
    · by_cases ha : q.1 = a
      · have := nd_of (q := q) (by rw [map_set_fst (o' := o') e]; exact W.nd) (show (L.set i (a, o'))[i]? = some (a, o') by
          have hi : i < L.length := (List.getElem?_eq_some_iff.mp e).1
          rw [List.getElem?_set_self hi]) (by assumption) ha
        subst this
        exact h
      · exact k _ _ (W.has q hq) (by simpa using ha)
    · exact h
  nd := by rw [map_set_fst e]; exact W.nd
  fr := fun q hq => by
    rcases List.mem_or_eq_of_mem_set hq with hq | rfl
    · exact W.fr q hq
    · exact (W.fr (a, o) (List.mem_of_getElem? e) : H0 a = none ∨ a ∈ M)
theorem keep_upd {H : Hp} {a : Addr} {o : HO} : Keep [a] H (upd H a o) := fun b u e hb => by
  rw [upd_ne (by simpa using hb)]
  exact e
theorem Ow.set (W : Ow H0 M H L) (i : Nat) (e : L[i]? = some (a, o)) : Ow H0 M (upd H a o') (L.set i (a, o')) := W.any1 i e keep_upd upd_same
/-- a call that changed nothing -/
theorem Ow.call0 (W : Ow H0 M H L) (k : Keep [] H H') : Ow H0 M H' L where
  keep := fun b u e hb => k b u (W.keep b u e hb) (by simp)
  has := fun q hq => k _ _ (W.has q hq) (by simp)
  nd := W.nd
  fr := W.fr
/-- .. and handed back a new object -/
theorem Ow.res (W : Ow H0 M H L) (W' : Ow H0 M H' L) (hp : H p = none) (h : H' p = some o) : Ow H0 M H' ((p, o) :: L) where
  keep := W'.keep
  has := fun q hq => by
    rcases List.mem_cons.mp hq with rfl | hq
    · exact h
    · exact W'.has q hq
  nd := by
    rw [List.map_cons, List.nodup_cons]
    refine ⟨fun hm => ?_, W.nd⟩
    obtain ⟨q, hq, e⟩ := List.mem_map.mp hm
    have := W.has q hq
    rw [show q.1 = p from e, hp] at this
    cases this
  fr := fun q hq => by
    rcases List.mem_cons.mp hq with rfl | hq
    · by_cases hm : p ∈ M
      · exact .inr hm
      · cases e : H0 p with
        | none => exact .inl rfl
        | some u =>
          have := W.keep p u e hm
          rw [hp] at this
          cases this
    · exact W.fr q hq
theorem Ow.tail {q : Addr × HO} (W : Ow H0 M H (q :: L)) : Ow H0 M H L := ⟨W.keep, fun p hp => W.has p (List.mem_cons_of_mem _ hp), (List.nodup_cons.mp W.nd).2, fun p hp => W.fr p (List.mem_cons_of_mem _ hp)⟩
theorem Ow.drop (W : Ow H0 M H L) : Ow H0 M H [] := ⟨W.keep, fun _ h => by simp at h, by simp, fun _ h => by simp at h⟩
theorem Ow.seq (W : Ow H0 M H L) (h : SqL K H0 a xs) (ha : a ∉ M) : SqL K H a xs := by
  rcases h with (h | ⟨o, h⟩) | h
  · exact .inl (.inl (W.keep _ _ h ha))
  · exact .inl (.inr ⟨o, W.keep _ _ h ha⟩)
  · exact .inr h
theorem Ow.sq (W : Ow H0 M H L) (i : Nat) (e : L[i]? = some (a, .lst xs)) : SqL K H a xs := .inl (.inl (W.get i e))
theorem Ow.sqT (W : Ow H0 M H L) (i : Nat) (e : L[i]? = some (a, .tup xs)) : SqT K H a xs := .inl (.inl (W.get i e))
end
/-! ### objects that are made or changed: the heap behind is told by what it keeps -/
structure NewO (o : HO) (Q : VK) (H : Hp) : Prop where
  to : ∀ (p : Addr) (H' : Hp), H p = none → Keep [] H H' → H' p = some o → Q (.ref p) H'
structure MutO (a : Addr) (o : HO) (Q : Hp → Prop) (H : Hp) : Prop where
  to : ∀ H' : Hp, Keep [a] H H' → H' a = some o → Q H'
theorem keep_new {H : Hp} {p : Addr} {o : HO} (np : H p = none) : Keep [] H (upd H p o) := fun b u e _ => by
  rw [upd_ne (ne_of_none e np)]
  exact e
theorem NewO.all {o : HO} {Q : VK} {H : Hp} (h : NewO o Q H) : ∀ p, H p = none → Q (.ref p) (upd H p o) := fun p np => h.to p _ np (keep_new np) upd_same
theorem MutO.at {a : Addr} {o : HO} {Q : Hp → Prop} {H : Hp} (h : MutO a o Q H) : Q (upd H a o) := h.to _ keep_upd upd_same
section
variable {H0 H H' : Hp} {M : List Addr} {L : List (Addr × HO)} {a p : Addr} {o o' : HO} {G : Prop}
theorem with1 (i : Nat) (W : Ow H0 M H L) (e : L[i]? = some (a, o)) (k : Keep [a] H H') (h : H' a = some o') (g : Ow H0 M H' (L.set i (a, o')) → G) : G := g (W.any1 i e k h)
theorem withN (W : Ow H0 M H L) (np : H p = none) (k : Keep [] H H') (h : H' p = some o) (g : Ow H0 M H' ((p, o) :: L) → G) : G := g (W.res (W.call0 k) np h)
theorem with0 (W : Ow H0 M H L) (k : Keep [] H H') (g : Ow H0 M H' L → G) : G := g (W.call0 k)
end
section
variable {X : Cx} {e : Expr} {es : List Expr} {t t' : TE} {ta : TA} {pos : Pos} {K : PySem.W.Frag}
def mA (t : TA) : TA := fun σ H Q => ∃ Q0, t σ H Q0 ∧ ∀ xs H', Q0 xs H' → Q xs H'
theorem pa_m (h : PA X es ta) : PA X es (mA ta) := ⟨fun pos pins s σ H Q I hq => by
  obtain ⟨Q0, h0, hi⟩ := hq
  exact thn (h.run pos pins s σ H Q0 I h0) fun us s1 ⟨xs, H1, I1, r, q⟩ => ⟨xs, H1, I1, r, hi _ _ q⟩⟩
theorem pe_imp (h : PE X e t) (k : ∀ σ H Q, t' σ H Q → t σ H Q) : PE X e t' := ⟨fun pins s σ H Q I q => h.run pins s σ H Q I (k σ H Q q)⟩
def tLstN (t : TA) : TE := fun σ H Q => t σ H fun xs H1 => xs.length ≤ sizeLine ∧ NewO (.lst xs) Q H1
def tTupN (t : TA) : TE := fun σ H Q => t σ H fun xs H1 => xs.length ≤ sizeLine ∧ NewO (.tup xs) Q H1
theorem pe_lstN (h : PA X es ta) : PE X (.List es pos) (tLstN ta) := pe_imp (pe_lst (pa_m h)) fun σ H Q q => ⟨_, q, fun xs H1 z => ⟨z.1, z.2.all⟩⟩
theorem pe_tupN {x1} (h : PA X es ta) : PE X (.Tuple es x1 pos) (tTupN ta) := pe_imp (pe_tup (pa_m h)) fun σ H Q q => ⟨_, q, fun xs H1 z => ⟨z.1, z.2.all⟩⟩
theorem pe_dnewN : PE X (.Dict [] [] pos) (fun _ H Q => NewO (.dK []) Q H) := pe_imp pe_dnewK fun σ H Q q => q.all
def rSetN : V → V → V → Hp → (Hp → Prop) → Prop := fun o i v H Q => ∃ p xs k j, o = .ref p ∧ i = .int k ∧ H p = some (.lst xs) ∧ ixN xs.length k = some j ∧ MutO p (.lst (xs.set j v)) Q H
theorem set_listN : PSet X rSetN := fun pins s σ H o i v ov iv u Q I ro ri rv h => by
  obtain ⟨p, xs, k, j, e1, e2, hp, hj, q⟩ := h
  exact set_list pins s σ H o i v ov iv u Q I ro ri rv ⟨p, xs, k, j, e1, e2, hp, hj, q.at⟩
def rSlN (K : PySem.W.Frag) : V → Option Int → Option Int → Hp → VK → Prop := fun x lo hi H Q => ∃ a xs, x = .ref a ∧ SqL K H a xs ∧ NewO (.lst (cutV xs lo hi)) Q H
theorem sl_listN : SlR X (rSlN X.K) := fun pins s σ H x v vl vu lo hi sl Q I rx hs pl pu h => by
  obtain ⟨a, xs, e, hx, q⟩ := h
  exact sl_list pins s σ H x v vl vu lo hi sl Q I rx hs pl pu ⟨a, xs, e, hx, q.all⟩
def rCatN : R2 := fun x y H Q => ∃ l b xs zs, x = .ref l ∧ y = .ref b ∧ H l = some (.lst xs) ∧ H b = some (.lst zs) ∧ xs.length + zs.length ≤ sizeLine ∧ NewO (.lst (xs ++ zs)) Q H
theorem op_catN : OpR X (binaryOp .Add) rCatN := fun pins s σ H x y v u Q I rx ry h => by
  obtain ⟨l, b, xs, zs, e1, e2, hl, hb, hz, q⟩ := h
  exact op_cat pins s σ H x y v u Q I rx ry ⟨l, b, xs, zs, e1, e2, hl, hb, hz, q.all⟩
def rAppN : V → List V → Hp → VK → Prop := fun x vs H Q => ∃ l xs y, x = .ref l ∧ vs = [y] ∧ H l = some (.lst xs) ∧ xs.length < sizeLine ∧ MutO l (.lst (xs ++ [y])) (Q .non) H
theorem mt_appN : MtR X "list.append" rAppN := fun pins s σ H x xs v us Q I rx rv h => by
  obtain ⟨l, ys, y, e1, e2, hl, hz, q⟩ := h
  exact mt_append pins s σ H x xs v us Q I rx rv ⟨l, ys, y, e1, e2, hl, hz, q.at⟩
def rSplN : V → List V → Hp → VK → Prop := fun x xs H Q => ∃ a b, x = .str a ∧ xs = [.str b] ∧ (b.length == 0) = false ∧ a.length + 2 ≤ sizeLine ∧ NewO (.lst ((Txt.split a b).map V.str)) Q H
theorem mt_splN : MtR X "str.split" rSplN := fun pins s σ H x xs v us Q I rx rv h => by
  obtain ⟨a, b, e1, e2, h1, h2, q⟩ := h
  exact mt_split pins s σ H x xs v us Q I rx rv ⟨a, b, e1, e2, h1, h2, q.all⟩
def rLofN (K : PySem.W.Frag) : List V → Hp → VK → Prop := fun xs H Q => ∃ p ys, xs = [.ref p] ∧ (SqL K H p ys ∨ SqT K H p ys) ∧ NewO (.lst ys) Q H
theorem call_lofN : CallR X (.type "list") (rLofN X.K) := fun pins s σ H xs us Q I r h => by
  obtain ⟨p, ys, e, hs, q⟩ := h
  exact call_list_of pins s σ H xs us Q I r ⟨p, ys, e, hs, q.all⟩
end
/-! ### calls with keywords of a def without defaults by place -/
section
variable {K : PySem.W.Frag} {x qual : Str} {params : Arguments} {body : List Stmt} {scope : Scope} {kws : List (Str × V)} {f : Addr} {fd : FuncData} {ps : List Str}
theorem kb0 (F : FunD K x qual params body scope [] kws f fd) (n : Nat) (ks : List Str) (ms : List (Str × V)) (g : {α : Type} → List α → List α → List α → List α) (hk : kws ≠ []) (hms : ∀ q ∈ ms, q ∈ kws)
    (hrel : ∀ {vs mz zs : List V} {us mv ws : List Value}, Vals vs us → Vals mz mv → Vals zs ws → Vals (g vs mz zs) (g us mv ws))
    (h : ∀ (D : Addr) (doc pm : Value) (an : Option Addr) (cdv ct : Value) (us mv ws : List Value), us.length = n → mv.length = ms.length → ws.length = ks.length →
      KwChain D ((ms.map (·.1)).zip mv) (bindArgs (PySem.W.fnOf x qual params body scope .none (.ref D) doc pm an cdv ct) ⟨us, ks.zip ws⟩) (ps.zip (g us mv ws))) :
    ∃ mv : List Value, KBn K fd ps n ks (fun us ws => g us mv ws) (fun vs zs => g vs (ms.map (·.2)) zs) := by
  obtain ⟨oc, od, dV, kV, doc, pm, an, cdv, ct, osl, rfl, lk, hcd, hD, hK⟩ := F.ex
  rcases hD with ⟨_, rfl⟩ | ⟨e, _⟩
  · rcases hK with e | ⟨D, rfl, hq⟩
    · exact absurd e hk
    · obtain ⟨mv, hl, rk, hks⟩ := kwd_vals (ms := ms) fun q hm => hq q (hms q hm)
      exact ⟨mv, fun s us ws X l1 l2 => BindsTo.of_looks fun M => KwChain.looks X hks (h D doc pm an cdv ct us mv ws l1 hl l2), fun r1 r2 => hrel r1 rk r2⟩
  · exact absurd rfl e
end
section
variable {X : Cx} {CX : CXT} {k : Nat} {f : Addr} {fd : FuncData} {ps ks : List Str} {sp : Sp} {E : XK} {x : Str} {p pos : Pos} {kws : List Keyword} {tk : TA} {g : List Value → List Value → List Value} {gV : List V → List V → List V}
theorem pe_callN0 (F : FnOk X.prog X.w X.K X.mg X.base CX k f fd ps sp) (hr : Room k X.A) (hg : Gl X x) (hm : X.mg x = some (.ref f)) (hk : PySem.W.keepIn X.K (.ref f) = true) (hb : KBn X.K fd ps 0 ks g gV) (hx : Passes CX X E) (hkw : PK X kws tk)
    (hall : (backToKw pos (keywordEach kws X.env)).all (·.1.isSome) = true := by rfl) (hks : (backToKw pos (keywordEach kws X.env)).filterMap (·.1) = ks := by rfl) (hdb : (x == ("__debug__" : Str)) = false := by decide)
    (hpl : ((backTo pos (starEach [] X.env)).any (·.1) || (backToKw pos (keywordEach kws X.env)).any (·.1.isNone)) = false := by rfl) : PE X (.Call (.Name x p) [] kws pos) (tCallN 0 ks.length sp gV E tNil tk) := ⟨fun pins s σ H Q I h => by
  refine wpAny_Call_Name_kw (ld_glob I hg hm (PySem.W.callWith_KW0 (h₀ := X.base) I.ok.mod.kin hk hall ?_ hpl) hdb)
  refine thn (hkw.run pos pins s σ H _ I h) fun ws s2 hz => ?_
  obtain ⟨zs, H2, I2, rz, l1, l2, q2⟩ := hz
  refine ⟨I2.kIn, ?_⟩
  rw [hks]
  exact run_fnN (us := []) (vs := []) F hr hb hx I2 .nil rz rfl l2 q2⟩
end
/-! ### tests -/
section
variable {A B : Prop}
theorem ifT {b : Bool} (h : b = true) (a : A) : if b = true then A else B := by rw [if_pos h]; exact a
theorem ifF {b : Bool} (h : b = false) (a : B) : if b = true then A else B := by rw [h, if_neg Bool.false_ne_true]; exact a
theorem ifB {b : Bool} (h1 : b = true → A) (h2 : b = false → B) : if b = true then A else B := by
  cases b
  · exact ifF rfl (h2 rfl)
  · exact ifT rfl (h1 rfl)
theorem ifNB {b : Bool} (h1 : b = false → A) (h2 : b = true → B) : if (!b) = true then A else B := by
  cases b
  · exact ifT rfl (h1 rfl)
  · exact ifF rfl (h2 rfl)
theorem ifD {p : Prop} [Decidable p] (h1 : p → A) (h2 : ¬ p → B) : if decide p = true then A else B := by
  by_cases h : p
  · exact ifT (decide_eq_true h) (h1 h)
  · exact ifF (decide_eq_false h) (h2 h)
theorem ifN {p : Prop} [Decidable p] (h1 : ¬ p → A) (h2 : p → B) : if (!decide p) = true then A else B := by
  by_cases h : p
  · exact ifF (by rw [decide_eq_true h]; rfl) (h2 h)
  · exact ifT (by rw [decide_eq_false h]; rfl) (h1 h)
theorem ifQ {b : Bool} {p : Prop} [Decidable p] (h : b = decide p) (h1 : p → A) (h2 : ¬ p → B) : if b = true then A else B := by
  rw [h]
  exact ifD h1 h2
theorem ifVI {i j : Int} (h1 : i = j → A) (h2 : i ≠ j → B) : if decide (V.int i = V.int j) = true then A else B := ifD (fun h => h1 (V.int.inj h)) fun h => h2 fun e => h (by rw [e])
theorem ifVIn {i j : Int} (h1 : i ≠ j → A) (h2 : i = j → B) : if (!decide (V.int i = V.int j)) = true then A else B := ifN (fun h => h1 fun e => h (by rw [e])) fun h => h2 (V.int.inj h)
theorem ifVS {i j : Str} (h1 : i = j → A) (h2 : i ≠ j → B) : if decide (V.str i = V.str j) = true then A else B := ifD (fun h => h1 (V.str.inj h)) fun h => h2 fun e => h (by rw [e])
theorem ifVSn {i j : Str} (h1 : i ≠ j → A) (h2 : i = j → B) : if (!decide (V.str i = V.str j)) = true then A else B := ifN (fun h => h1 fun e => h (by rw [e])) fun h => h2 (V.str.inj h)
end
/-! ### isinstance -/
theorem isi {K : PySem.W.Frag} {H : Hp} {Q : VK} {x : V} {t c : String} {b : Bool} (ty : TyX K H x (.type t)) (k : kitB t c = some b) (q : Q (.bl b) H) : rIsi K [x, .ty c] H Q := ⟨x, .ty c, .type t, .type c, b, rfl, .ty c, ty, kit_ty k, q⟩
theorem call_isiK {X : Cx} {K : PySem.W.Frag} (h : X.K = K) : CallR X (.builtin "isinstance") (rIsi K) := h ▸ call_isi
theorem ki_int_str : kitB "int" "str" = some false := by decide +kernel
theorem ki_int_int : kitB "int" "int" = some true := by decide +kernel
theorem ki_int_bool : kitB "int" "bool" = some false := by decide +kernel
theorem ki_int_list : kitB "int" "list" = some false := by decide +kernel
theorem ki_int_tuple : kitB "int" "tuple" = some false := by decide +kernel
theorem ki_int_dict : kitB "int" "dict" = some false := by decide +kernel
theorem ki_str_str : kitB "str" "str" = some true := by decide +kernel
theorem ki_str_int : kitB "str" "int" = some false := by decide +kernel
theorem ki_str_bool : kitB "str" "bool" = some false := by decide +kernel
theorem ki_str_list : kitB "str" "list" = some false := by decide +kernel
theorem ki_str_tuple : kitB "str" "tuple" = some false := by decide +kernel
theorem ki_str_dict : kitB "str" "dict" = some false := by decide +kernel
theorem ki_bl_str : kitB "bool" "str" = some false := by decide +kernel
theorem ki_bl_int : kitB "bool" "int" = some true := by decide +kernel
theorem ki_bl_bool : kitB "bool" "bool" = some true := by decide +kernel
theorem ki_bl_list : kitB "bool" "list" = some false := by decide +kernel
theorem ki_bl_tuple : kitB "bool" "tuple" = some false := by decide +kernel
theorem ki_bl_dict : kitB "bool" "dict" = some false := by decide +kernel
theorem ki_non_str : kitB "NoneType" "str" = some false := by decide +kernel
theorem ki_non_int : kitB "NoneType" "int" = some false := by decide +kernel
theorem ki_non_bool : kitB "NoneType" "bool" = some false := by decide +kernel
theorem ki_non_list : kitB "NoneType" "list" = some false := by decide +kernel
theorem ki_non_tuple : kitB "NoneType" "tuple" = some false := by decide +kernel
theorem ki_non_dict : kitB "NoneType" "dict" = some false := by decide +kernel
theorem ki_lst_str : kitB "list" "str" = some false := by decide +kernel
theorem ki_lst_int : kitB "list" "int" = some false := by decide +kernel
theorem ki_lst_bool : kitB "list" "bool" = some false := by decide +kernel
theorem ki_lst_list : kitB "list" "list" = some true := by decide +kernel
theorem ki_lst_tuple : kitB "list" "tuple" = some false := by decide +kernel
theorem ki_lst_dict : kitB "list" "dict" = some false := by decide +kernel
theorem ki_tup_str : kitB "tuple" "str" = some false := by decide +kernel
theorem ki_tup_int : kitB "tuple" "int" = some false := by decide +kernel
theorem ki_tup_bool : kitB "tuple" "bool" = some false := by decide +kernel
theorem ki_tup_list : kitB "tuple" "list" = some false := by decide +kernel
theorem ki_tup_tuple : kitB "tuple" "tuple" = some true := by decide +kernel
theorem ki_tup_dict : kitB "tuple" "dict" = some false := by decide +kernel
theorem ki_dK_str : kitB "dict" "str" = some false := by decide +kernel
theorem ki_dK_int : kitB "dict" "int" = some false := by decide +kernel
theorem ki_dK_bool : kitB "dict" "bool" = some false := by decide +kernel
theorem ki_dK_list : kitB "dict" "list" = some false := by decide +kernel
theorem ki_dK_tuple : kitB "dict" "tuple" = some false := by decide +kernel
theorem ki_dK_dict : kitB "dict" "dict" = some true := by decide +kernel
/-- the generator of a law's numbers: at b a list of three numbers, the last at most n -/
def bagO (x y z : Int) : HO := .lst [.int x, .int y, .int z]
structure BagOk (n : Nat) (x y z : Int) : Prop where
  x0 : 0 ≤ x
  y0 : 0 ≤ y
  y1 : y < 2147483648
  z0 : 0 ≤ z
  z1 : z ≤ (n : Int)
theorem BagOk.mono {n m : Nat} {x y z : Int} (h : BagOk n x y z) (e : n ≤ m) : BagOk m x y z := ⟨h.x0, h.y0, h.y1, h.z0, by have := h.z1; omega⟩
/-- take(bag, k): a number below k; the bag is changed, by one count at the most -/
def spTake : Sp := fun vs H Q _ => ∃ (b : Addr) (k : Int) (n : Nat) (x y z : Int), vs = [.ref b, .int k] ∧ H b = some (bagO x y z) ∧ BagOk n x y z ∧ n < 1000000 ∧ 0 < k ∧ k < 1073741824 ∧
  ∀ (d x' y' z' : Int) (H' : Hp), 0 ≤ d → d < k → BagOk (n + 1) x' y' z' → Keep [b] H H' → H' b = some (bagO x' y' z') → Q (.int d) H'
theorem atI_in {α : Type} {xs : List α} {d : Int} (h0 : 0 ≤ d) (h1 : d < (xs.length : Int)) : ∃ v, atI xs d = some v ∧ v ∈ xs := by
  obtain ⟨k, rfl⟩ := Int.eq_ofNat_of_zero_le h0
  have hk : k < xs.length := by omega
  exact ⟨xs[k], atI_nat (List.getElem?_eq_getElem hk), List.getElem_mem hk⟩
theorem size_ok {n : Nat} (h : n ≤ 1000000) : n < sizeLine := Nat.lt_of_le_of_lt h (by decide)
theorem size_le {n : Nat} (h : n ≤ 1000000) : n ≤ sizeLine := Nat.le_of_lt (size_ok h)
/-! ### texts by their codes -/
theorem len_app (x y : Str) : (x ++ y).length = x.length + y.length := by rw [len_tl, len_tl, len_tl, tl_append, List.length_append]
theorem joinL_nil : ∀ ps : List (List Nat), joinL [] ps = ps.flatten
  | [] => rfl
  | [p] => by simp [joinL]
  | p :: q :: r => by
    have ih := joinL_nil (q :: r)
    show p ++ ([] ++ joinL [] (q :: r)) = _
    rw [ih]
    simp
theorem tl_joinE (ss : List Str) : tl (Txt.join (Str.ofString "") ss) = (ss.map tl).flatten := by
  rw [join_eq, tl_join, show tl (Str.ofString "") = [] by decide +kernel, joinL_nil]
theorem sum_one : ∀ {ss : List Str}, (∀ s ∈ ss, s.length = 1) → (ss.map (·.length)).sum = ss.length
  | [], _ => rfl
  | s :: r, h => by
    rw [List.map_cons, List.sum_cons, sum_one fun t ht => h t (List.mem_cons_of_mem _ ht), h s List.mem_cons_self, List.length_cons]
    omega
theorem flat_one : ∀ {ss : List Str}, (∀ s ∈ ss, s.length = 1) → (ss.map tl).flatten.length = ss.length
  | [], _ => rfl
  | s :: r, h => by
    have h1 := h s List.mem_cons_self
    rw [len_tl] at h1
    rw [List.map_cons, List.flatten_cons, List.length_append, flat_one fun t ht => h t (List.mem_cons_of_mem _ ht), List.length_cons, h1]
    omega
theorem join_one {ss : List Str} (h : ∀ s ∈ ss, s.length = 1) : (Txt.join (Str.ofString "") ss).length = ss.length := by rw [len_tl, tl_joinE, flat_one h]
theorem tl_cutS (z : Str) (lo hi : Option Int) : tl (cutS z lo hi) = ((tl z).drop (HT.sIx z.length 0 lo)).take (HT.sIx z.length z.length hi - HT.sIx z.length 0 lo) := rfl
theorem cutS_len (z : Str) (lo hi : Option Int) : (cutS z lo hi).length ≤ z.length := by
  rw [len_tl, tl_cutS, List.length_take, List.length_drop, len_tl z]
  omega
theorem starts_one (x : Str) (c : Nat) : Txt.startswith x ⟨#[c]⟩ = true ↔ (tl x)[0]? = some c := by
  unfold Txt.startswith
  rw [Bool.and_eq_true, decide_eq_true_eq]
  exact PySem.StrLaws.subAt_one x c 0
/-! ### texts of plain signs -/
def Asc (s : Str) : Prop := ∀ c ∈ tl s, c < 128
theorem Asc.app {x y : Str} (a : Asc x) (b : Asc y) : Asc (x ++ y) := fun c hc => by
  rw [tl_append] at hc
  rcases List.mem_append.mp hc with h | h
  · exact a c h
  · exact b c h
theorem Asc.cut {x : Str} (a : Asc x) (lo hi : Option Int) : Asc (cutS x lo hi) := fun c hc => a c (List.mem_of_mem_drop (List.mem_of_mem_take (by rw [tl_cutS] at hc; exact hc)))
theorem Asc.one {c : Nat} (h : c < 128) : Asc ⟨#[c]⟩ := fun d hd => by
  have : d = c := by simpa using hd
  omega
theorem Asc.of {x : Str} (h : (tl x).all (fun c => decide (c < 128)) = true) : Asc x := fun c hc => by simpa using List.all_eq_true.mp h c hc
theorem Asc.joined {S : List Nat} : ∀ {ps : List (List Nat)}, (∀ c ∈ S, c < 128) → (∀ p ∈ ps, ∀ c ∈ p, c < 128) → ∀ c ∈ joinL S ps, c < 128
  | [], _, _, c, h => by simp [joinL] at h
  | [p], _, hp, c, h => hp p List.mem_cons_self c h
  | p :: q :: r, hS, hp, c, h => by
    rcases List.mem_append.mp (show c ∈ p ++ (S ++ joinL S (q :: r)) from h) with h | h
    · exact hp p List.mem_cons_self c h
    · rcases List.mem_append.mp h with h | h
      · exact hS c h
      · exact Asc.joined hS (fun t ht => hp t (List.mem_cons_of_mem _ ht)) c h
theorem Asc.join {y : Str} {ss : List Str} (a : Asc y) (h : ∀ s ∈ ss, Asc s) : Asc (Txt.join y ss) := by
  unfold Asc
  rw [join_eq, tl_join]
  refine Asc.joined a fun p hp => ?_
  obtain ⟨s, hs, rfl⟩ := List.mem_map.mp hp
  exact h s hs
theorem joinL_len (S : List Nat) : ∀ (ps : List (List Nat)), (joinL S ps).length ≤ (ps.map (·.length)).sum + ps.length * S.length
  | [] => by simp [joinL]
  | [p] => by simp [joinL]
  | p :: q :: r => by
    have ih := joinL_len S (q :: r)
    show (p ++ (S ++ joinL S (q :: r))).length ≤ _
    rw [List.length_append, List.length_append, List.map_cons, List.sum_cons, List.length_cons, Nat.add_one_mul]
    omega
theorem join_len (y : Str) (ss : List Str) : (Txt.join y ss).length ≤ (ss.map (·.length)).sum + ss.length * y.length := by
  have h := joinL_len (tl y) (ss.map tl)
  rw [join_eq, len_tl, tl_join, len_tl y]
  rw [List.length_map, List.map_map] at h
  rw [show ss.map (fun x => x.length) = ss.map ((fun x => x.length) ∘ tl) from List.map_congr_left fun s _ => len_tl s]
  exact h
theorem sum_le {ss : List Str} {k : Nat} (h : ∀ s ∈ ss, s.length ≤ k) : (ss.map (·.length)).sum ≤ ss.length * k := by
  induction ss with
  | nil => simp
  | cons s r ih =>
    rw [List.map_cons, List.sum_cons, List.length_cons, Nat.add_one_mul]
    have h1 := h s List.mem_cons_self
    have h2 := ih fun t ht => h t (List.mem_cons_of_mem _ ht)
    omega
theorem str_ok {s : Str} (a : Asc s) : PyData.strOk s = true := by
  unfold PyData.strOk
  rw [show s.cps.all (fun x => decide (x < 0x110000)) = (tl s).all (fun x => decide (x < 0x110000)) by simp]
  exact List.all_eq_true.mpr fun c hc => decide_eq_true (Nat.lt_trans (a c hc) (by decide))
def dStrs (ws : List Str) : PyData := .list (ws.map .str)
theorem lay_strs : ∀ {ws : List Str}, (∀ s ∈ ws, Asc s) → PyData.canLayAll0 (ws.map .str) = true
  | [], _ => rfl
  | s :: r, h => by
    rw [List.map_cons, PyData.canLayAll0, PyData.canLay0, str_ok (h s List.mem_cons_self), lay_strs fun t ht => h t (List.mem_cons_of_mem _ ht)]
    rfl
theorem depth_strs : ∀ ws : List Str, PyData.depthAll (ws.map .str) = 0
  | [] => rfl
  | s :: r => by rw [List.map_cons, PyData.depthAll, PyData.depth, depth_strs r]; rfl
theorem shaped_strs {ws : List Str} (h : ∀ s ∈ ws, Asc s) : SeqAt.shaped (dStrs ws) = true := by
  unfold SeqAt.shaped dStrs
  rw [PyData.canLay0, lay_strs h, PyData.depth, depth_strs]
  rfl
theorem dpAll_strs {K : PySem.W.Frag} {H : Hp} : ∀ ws : List Str, DpAll K H (ws.map V.str) (ws.map .str)
  | [] => .nil
  | s :: r => .cons (.str s) (dpAll_strs r)
theorem dp_strs {K : PySem.W.Frag} {H : Hp} {a : Addr} {ws : List Str} (h : SqL K H a (ws.map V.str)) : Dp K H (.ref a) (dStrs ws) := .lst h (dpAll_strs ws)
theorem eqv_strs : ∀ ws : List Str, PyData.eqvAll (ws.map .str) (ws.map .str) = true
  | [] => rfl
  | s :: r => by rw [List.map_cons, PyData.eqvAll, eqv_strs r, PyData.eqv]; simp
theorem eqv_dstrs (ws : List Str) : PyData.eqv (dStrs ws) (dStrs ws) = true := by
  unfold dStrs
  rw [PyData.eqv, eqv_strs]
theorem in_strs (x : Str) : ∀ ws : List Str, inV (.str x) (ws.map V.str) = decide (x ∈ ws)
  | [] => rfl
  | s :: r => by
    have ih := in_strs x r
    unfold inV at ih ⊢
    rw [List.map_cons, List.any_cons, ih]
    show ((s == x) || decide (x ∈ r)) = _
    by_cases h : s = x
    · subst h; simp
    · simp [h, Ne.symm h]
theorem flat_strs (ws : List Str) : (ws.map V.str).all flatV = true := by
  rw [List.all_map]
  exact List.all_eq_true.mpr fun _ _ => rfl
/-- keywords at a call of a def without defaults -/
theorem kbF {K : PySem.W.Frag} {x qual : Str} {st : Stmt} {f : Addr} {fd : FuncData} {ps : List Str} (F : Fun K x qual st f fd) (n : Nat) (ks : List Str) (g : {α : Type} → List α → List α → List α)
    (hrel : ∀ {vs zs : List V} {us ws : List Value}, Vals vs us → Vals zs ws → Vals (g vs zs) (g us ws))
    (h : ∀ (kV doc pm : Value) (an : Option Addr) (cdv ct : Value) (us ws : List Value), us.length = n → ws.length = ks.length →
      bindArgs (PySem.W.fnOf x qual (defArgs st) (defBody st) (defScope st) .none kV doc pm an cdv ct) ⟨us, ks.zip ws⟩ = pure (ps.zip (g us ws))) : KBn K fd ps n ks (fun us ws => g us ws) (fun vs zs => g vs zs) := by
  obtain ⟨oc, od, kV, doc, pm, an, cdv, ct, osl, rfl, lk, hcd⟩ := F.ex
  exact ⟨fun s us ws X l1 l2 => .of_eq (h kV doc pm an cdv ct us ws l1 l2), fun r1 r2 => hrel r1 r2⟩
/-- isinstance(x, (a, b)) -/
theorem kit2 {K : PySem.W.Frag} {t a b : String} {r1 r2 : Bool} (h1 : kitB t a = some r1) (h2 : kitB t b = some r2) : PySem.W.kitAny K (.type t) [.type a, .type b] = some (r1 || r2) := by
  refine kitAny_cons (kit_ty h1) (fun e => ?_) (fun e => by rw [e]; rfl)
  subst e
  refine kitAny_cons (kit_ty h2) (fun e => by rw [e]; rfl) (fun e => by rw [e]; rfl)
theorem eqv_nil : ∀ ws : List Str, PyData.eqv (dStrs ws) (dStrs []) = decide (ws = [])
  | [] => rfl
  | s :: r => rfl
/-! ### signs as texts -/
def sg (l : List Nat) : List Str := l.map fun d => ⟨#[d]⟩
theorem sg_one {l : List Nat} : ∀ s ∈ sg l, s.length = 1 := fun s hs => by
  obtain ⟨d, _, rfl⟩ := List.mem_map.mp hs
  rfl
theorem sg_len (l : List Nat) : (sg l).length = l.length := List.length_map _
theorem sg_asc {l : List Nat} (h : ∀ c ∈ l, c < 128) : ∀ s ∈ sg l, Asc s := fun s hs => by
  obtain ⟨d, hd, rfl⟩ := List.mem_map.mp hs
  exact Asc.one (h d hd)
theorem tl_join_sg : ∀ l : List Nat, ((sg l).map tl).flatten = l
  | [] => rfl
  | c :: r => by
    have ih := tl_join_sg r
    show ([c] ++ ((sg r).map tl).flatten) = c :: r
    rw [ih]
    rfl
theorem sg_app (l : List Nat) (c : Nat) : (sg (l ++ [c])).map V.str = (sg l).map V.str ++ [.str ⟨#[c]⟩] := by
  unfold sg
  rw [List.map_append, List.map_append]
  rfl
theorem chr_inj {c d : Nat} (h : (⟨#[c]⟩ : Str) = ⟨#[d]⟩) : c = d := by
  have := congrArg tl h
  simpa using this
theorem ifC {A B : Prop} {c d : Nat} (h1 : c = d → A) (h2 : c ≠ d → B) : if decide (V.str ⟨#[c]⟩ = V.str ⟨#[d]⟩) = true then A else B := ifVS (fun h => h1 (chr_inj h)) fun h => h2 fun e => h (by rw [e])
theorem ifCn {A B : Prop} {c d : Nat} (h1 : c ≠ d → A) (h2 : c = d → B) : if (!decide (V.str ⟨#[c]⟩ = V.str ⟨#[d]⟩)) = true then A else B := ifVSn (fun h => h1 fun e => h (by rw [e])) fun h => h2 (chr_inj h)
theorem filt_in {pre : List Nat} {c d : Nat} (h : d ≠ c) : (pre ++ [d]).filter (fun x => decide (x ≠ c)) = pre.filter (fun x => decide (x ≠ c)) ++ [d] := by
  rw [List.filter_append, List.filter_cons, if_pos (by simpa using h)]
  rfl
theorem filt_out {pre : List Nat} {c d : Nat} (h : d = c) : (pre ++ [d]).filter (fun x => decide (x ≠ c)) = pre.filter (fun x => decide (x ≠ c)) := by
  rw [List.filter_append, List.filter_cons, if_neg (by simpa using h)]
  simp
theorem filt_asc {l : List Nat} {p : Nat → Bool} (h : ∀ c ∈ l, c < 128) : ∀ c ∈ l.filter p, c < 128 := fun c hc => h c (List.mem_filter.mp hc).1
theorem tl_joined_sg (l : List Nat) : tl (Txt.join (Str.ofString "") (sg l)) = l := by rw [tl_joinE, tl_join_sg]
/-! ### a text split at a sign -/
theorem split_tl (s : Str) {c : Nat} (h : c < 256) : (Txt.split s ⟨#[c]⟩).map tl = spl [c] 0 [] (tl s) := split_spl s ⟨#[c]⟩ (by simp) (kind_ok (by simpa using h))
theorem spl_asc : ∀ (l acc : List Nat) (c : Nat), (∀ d ∈ l, d < 128) → (∀ d ∈ acc, d < 128) → ∀ p ∈ spl [c] 0 acc l, ∀ d ∈ p, d < 128
  | [], acc, c, _, ha, p, hp, d, hd => by
    rw [spl_nil] at hp
    rw [List.mem_singleton.mp hp] at hd
    exact ha d hd
  | x :: r, acc, c, hl, ha, p, hp, d, hd => by
    have hr : ∀ d ∈ r, d < 128 := fun d h => hl d (List.mem_cons_of_mem _ h)
    by_cases e : pre [c] (x :: r) = true
    · rw [spl_hit e] at hp
      rcases List.mem_cons.mp hp with rfl | hp
      · exact ha d hd
      · exact spl_asc r [] c hr (fun _ h => by simp at h) p hp d hd
    · rw [spl_miss (by simpa using e)] at hp
      refine spl_asc r (acc ++ [x]) c hr (fun d h => ?_) p hp d hd
      rcases List.mem_append.mp h with h | h
      · exact ha d h
      · rw [List.mem_singleton.mp h]; exact hl x List.mem_cons_self
theorem split_asc {s : Str} {c : Nat} (h : c < 256) (a : Asc s) : ∀ w ∈ Txt.split s ⟨#[c]⟩, Asc w := fun w hw => by
  have : tl w ∈ (Txt.split s ⟨#[c]⟩).map tl := List.mem_map_of_mem hw
  rw [split_tl s h] at this
  exact spl_asc (tl s) [] c a (fun _ h => by simp at h) _ this
theorem spl_len : ∀ (l acc : List Nat) (c : Nat), (spl [c] 0 acc l).length ≤ l.length + 1
  | [], acc, c => by rw [spl_nil]; simp
  | x :: r, acc, c => by
    by_cases e : pre [c] (x :: r) = true
    · rw [spl_hit e, List.length_cons, List.length_cons]
      have := spl_len r [] c
      exact Nat.succ_le_succ this
    · rw [spl_miss (by simpa using e), List.length_cons]
      have := spl_len r (acc ++ [x]) c
      omega
theorem split_len {s : Str} {c : Nat} (h : c < 256) : (Txt.split s ⟨#[c]⟩).length ≤ s.length + 1 := by
  have := spl_len (tl s) [] c
  rw [← split_tl s h, List.length_map] at this
  rw [len_tl]
  exact this
theorem pre_one {c x : Nat} {r : List Nat} : pre [c] (x :: r) = decide (x = c) := by
  unfold pre
  by_cases h : x = c <;> simp [h]
/-! ### text * number -/
theorem op_mul_str {X : Cx} : OpR X (binaryOp .Mult) (fun x y H Q => ∃ i j, x = .str i ∧ y = .int j ∧ (0 ≤ j ∧ j ≤ 10000 ∧ i.length ≤ 1000) ∧ Q (.str (Txt.mul i j)) H) := fun pins s σ H x y v u Q I rx ry h => by
  obtain ⟨i, j, rfl, rfl, ⟨h0, h1, h2⟩, q⟩ := h
  obtain ⟨t, rfl⟩ := rx
  obtain ⟨t', rfl⟩ := ry
  refine SB.mul ⟨?_, fun h3 h4 => ?_, fun h3 h4 => ?_⟩ fun t' k => ⟨.str (Txt.mul i j), H, I.tok _, ⟨_, rfl⟩, q⟩
  · simp
    omega
  · have h5 : (i.length : Int) * j ≤ 1000 * 10000 := Int.mul_le_mul (by omega) h1 h0 (by decide)
    have h6 : (i.length : Int) ≤ (2 ^ 63 - 1) / j := Int.le_ediv_of_mul_le (by omega) (by omega)
    omega
  · have h5 : i.length * j.toNat ≤ 1000 * 10000 := Nat.mul_le_mul h2 (by omega)
    have h6 : i.length * j.toNat ≤ sizeLine := Nat.le_trans h5 (by decide)
    unfold Builtin.Str.tooLong
    exact decide_eq_false (by omega)
theorem fold_cps (a : Array Nat) : ∀ (k : Nat) (acc : Array Nat), ((List.replicate k a).foldl (fun x y => x ++ y) acc).toList = acc.toList ++ (List.replicate k a.toList).flatten
  | 0, acc => by simp
  | k + 1, acc => by
    rw [List.replicate_succ, List.foldl_cons, fold_cps a k, List.replicate_succ, List.flatten_cons, Array.toList_append, List.append_assoc]
theorem flat_nil : ∀ k : Nat, (List.replicate k ([] : List Nat)).flatten = []
  | 0 => rfl
  | k + 1 => by rw [List.replicate_succ, List.flatten_cons, flat_nil k]; rfl
theorem tl_mul (x : Str) (n : Int) : tl (Txt.mul x n) = (List.replicate n.toNat (tl x)).flatten := by
  unfold Txt.mul
  split
  · rename_i h
    rw [show n.toNat = 0 by omega]
    rfl
  · split
    · rename_i h1 h2
      rcases Bool.or_eq_true_iff.mp h2 with h | h
      · have : n = 1 := by simpa using h
        subst this
        simp
      · have h3 : x.length = 0 := by simpa using h
        rw [len_tl] at h3
        rw [List.length_eq_zero_iff.mp h3, flat_nil]
    · show ((List.replicate n.toNat x.cps).foldl (fun x y => x ++ y) #[]).toList = _
      rw [fold_cps]
      rfl
theorem mul_len (x : Str) (n : Int) : (Txt.mul x n).length = x.length * n.toNat := by
  rw [len_tl, tl_mul, List.length_flatten, List.map_replicate, List.sum_replicate_nat, len_tl, Nat.mul_comm]
theorem Asc.mul {x : Str} (a : Asc x) (n : Int) : Asc (Txt.mul x n) := fun c hc => by
  rw [tl_mul] at hc
  obtain ⟨l, hl, hc⟩ := List.mem_flatten.mp hc
  rw [List.eq_of_mem_replicate hl] at hc
  exact a c hc
/-! ### loops by what is behind -/
section
variable {g : TG} {tb : TS} {D : Ends} {σ : L2.St} {H : Hp}
theorem for_str {s : Str} (Pv : List Nat → L2.St → Hp → Prop) (h0 : Pv [] σ H)
    (hs : ∀ pre c post σ H, tl s = pre ++ c :: post → Pv pre σ H → g (.str ⟨#[c]⟩) σ H fun σ2 H2 => tb { D with nx := Pv (pre ++ [c]), ct := Pv (pre ++ [c]), bk := D.nx } σ2 H2) (hd : ∀ σ H, Pv (tl s) σ H → D.nx σ H) :
    ∃ W : Nat → Nat → L2.St → Hp → Prop, (∃ m, W 0 m σ H) ∧ ∀ i m σ H, W i m σ H →
      ((Its s).stop i H ∧ D.nx σ H) ∨ ((Its s).go i H ∧ ∃ N : L2.St → Hp → Prop, (∀ σ' H', N σ' H' → ∃ m', m' < m ∧ W (i + 1) m' σ' H') ∧ ∀ x H', (Its s).yld i H x H' → g x σ H' fun σ2 H2 => tb { D with nx := N, ct := N, bk := D.nx } σ2 H2) := by
  have hsz : s.cps.size = (tl s).length := by simp
  refine for_it walk_str (fun i σ H => Pv ((tl s).take i) σ H) (by simpa using h0) (fun _ _ _ _ _ => True.intro) ?_ (fun σ H p => hd σ H (by rw [hsz, List.take_length] at p; exact p))
  rintro i x σ H H' hi p ⟨rfl, c, hc, rfl⟩
  have hc' : (tl s)[i]? = some c := by simpa using hc
  have hl : i < (tl s).length := by omega
  have e : tl s = (tl s).take i ++ c :: (tl s).drop (i + 1) := by
    have h2 : (tl s)[i] = c := by rw [List.getElem?_eq_getElem hl] at hc'; exact Option.some.inj hc'
    rw [← h2, ← List.drop_eq_getElem_cons hl, List.take_append_drop]
  have e2 : (tl s).take (i + 1) = (tl s).take i ++ [c] := by rw [List.take_add_one, hc']; rfl
  rw [e2]
  exact hs _ c _ σ _ e p
theorem for_rg {lo : Int} {n : Nat} (Pv : Nat → L2.St → Hp → Prop) (h0 : Pv 0 σ H)
    (hs : ∀ i σ H, i < n → Pv i σ H → g (.int (lo + i)) σ H fun σ2 H2 => tb { D with nx := Pv (i + 1), ct := Pv (i + 1), bk := D.nx } σ2 H2) (hd : ∀ σ H, Pv n σ H → D.nx σ H) :
    ∃ W : Nat → Nat → L2.St → Hp → Prop, (∃ m, W 0 m σ H) ∧ ∀ i m σ H, W i m σ H →
      ((Itr lo n).stop i H ∧ D.nx σ H) ∨ ((Itr lo n).go i H ∧ ∃ N : L2.St → Hp → Prop, (∀ σ' H', N σ' H' → ∃ m', m' < m ∧ W (i + 1) m' σ' H') ∧ ∀ x H', (Itr lo n).yld i H x H' → g x σ H' fun σ2 H2 => tb { D with nx := N, ct := N, bk := D.nx } σ2 H2) := for_range Pv h0 hs hd
theorem for_li {K : PySem.W.Frag} {a : Addr} {xs : List V} (Pv : List V → L2.St → Hp → Prop) (h0 : Pv [] σ H) (hl : ∀ pre post σ H, xs = pre ++ post → Pv pre σ H → SqL K H a xs)
    (hs : ∀ pre x post σ H, xs = pre ++ x :: post → Pv pre σ H → g x σ H fun σ2 H2 => tb { D with nx := Pv (pre ++ [x]), ct := Pv (pre ++ [x]), bk := D.nx } σ2 H2) (hd : ∀ σ H, Pv xs σ H → D.nx σ H) :
    ∃ W : Nat → Nat → L2.St → Hp → Prop, (∃ m, W 0 m σ H) ∧ ∀ i m σ H, W i m σ H →
      ((Itl K a).stop i H ∧ D.nx σ H) ∨ ((Itl K a).go i H ∧ ∃ N : L2.St → Hp → Prop, (∀ σ' H', N σ' H' → ∃ m', m' < m ∧ W (i + 1) m' σ' H') ∧ ∀ x H', (Itl K a).yld i H x H' → g x σ H' fun σ2 H2 => tb { D with nx := N, ct := N, bk := D.nx } σ2 H2) := by
  refine for_it (walk_list (xs := xs)) (fun i σ H => Pv (xs.take i) σ H) (by simpa using h0) (fun i σ H _ p => hl (xs.take i) (xs.drop i) σ H (List.take_append_drop i xs).symm p) ?_ (fun σ H p => hd σ H (by rw [List.take_length] at p; exact p))
  rintro i x σ H H' hi p ⟨rfl, hc⟩
  have e : xs = xs.take i ++ x :: xs.drop (i + 1) := by
    have h2 : xs[i] = x := by rw [List.getElem?_eq_getElem hi] at hc; exact Option.some.inj hc
    rw [← h2, ← List.drop_eq_getElem_cons hi, List.take_append_drop]
  have e2 : xs.take (i + 1) = xs.take i ++ [x] := by rw [List.take_add_one, hc]; rfl
  rw [e2]
  exact hs _ x _ σ _ e p
end
section
variable {g : TG} {tt : TT} {te : TE} {vs : List Nat} {σ : L2.St} {H1 : Hp} {D : Addr} {Qd : Hp → Prop}
theorem lc_rg {lo : Int} {n : Nat} (Pv : Nat → Hp → Prop) (h0 : Pv 0 (upd H1 D (.lst [])))
    (hs : ∀ i H, i < n → Pv i H → g (.int (lo + i)) (wipe σ vs) H fun σ2 H2 => wipe σ2 vs = wipe σ vs ∧ tt σ2 H2 fun b H3 =>
      if b = true then te σ2 H3 fun y H4 => ∃ acc, H4 D = some (.lst acc) ∧ acc.length < sizeLine ∧ Pv (i + 1) (upd H4 D (.lst (acc ++ [y]))) else Pv (i + 1) H3) (hd : ∀ H, Pv n H → Qd H) :
    ∃ W : Nat → Nat → Hp → Prop, (∃ m, W 0 m (upd H1 D (.lst []))) ∧ ∀ i m H, W i m H →
      ((Itr lo n).stop i H ∧ Qd H) ∨ ((Itr lo n).go i H ∧ ∃ Nx : Hp → Prop, (∀ H', Nx H' → ∃ m', m' < m ∧ W (i + 1) m' H') ∧ ∀ x H', (Itr lo n).yld i H x H' → g x (wipe σ vs) H' fun σ2 H2 => wipe σ2 vs = wipe σ vs ∧ tt σ2 H2 fun b H3 =>
        if b = true then te σ2 H3 fun y H4 => ∃ acc, H4 D = some (.lst acc) ∧ acc.length < sizeLine ∧ Nx (upd H4 D (.lst (acc ++ [y]))) else Nx H3) := lc_range Pv h0 hs hd
theorem lc_str {s : Str} (Pv : List Nat → Hp → Prop) (h0 : Pv [] (upd H1 D (.lst [])))
    (hs : ∀ pre c post H, tl s = pre ++ c :: post → Pv pre H → g (.str ⟨#[c]⟩) (wipe σ vs) H fun σ2 H2 => wipe σ2 vs = wipe σ vs ∧ tt σ2 H2 fun b H3 =>
      if b = true then te σ2 H3 fun y H4 => ∃ acc, H4 D = some (.lst acc) ∧ acc.length < sizeLine ∧ Pv (pre ++ [c]) (upd H4 D (.lst (acc ++ [y]))) else Pv (pre ++ [c]) H3) (hd : ∀ H, Pv (tl s) H → Qd H) :
    ∃ W : Nat → Nat → Hp → Prop, (∃ m, W 0 m (upd H1 D (.lst []))) ∧ ∀ i m H, W i m H →
      ((Its s).stop i H ∧ Qd H) ∨ ((Its s).go i H ∧ ∃ Nx : Hp → Prop, (∀ H', Nx H' → ∃ m', m' < m ∧ W (i + 1) m' H') ∧ ∀ x H', (Its s).yld i H x H' → g x (wipe σ vs) H' fun σ2 H2 => wipe σ2 vs = wipe σ vs ∧ tt σ2 H2 fun b H3 =>
        if b = true then te σ2 H3 fun y H4 => ∃ acc, H4 D = some (.lst acc) ∧ acc.length < sizeLine ∧ Nx (upd H4 D (.lst (acc ++ [y]))) else Nx H3) := by
  have hsz : s.cps.size = (tl s).length := by simp
  refine lc_it walk_str (fun i H => Pv ((tl s).take i) H) (by simpa using h0) (fun _ _ _ _ => True.intro) ?_ (fun H p => hd H (by rw [hsz, List.take_length] at p; exact p))
  rintro i x H H' hi p ⟨rfl, c, hc, rfl⟩
  have hc' : (tl s)[i]? = some c := by simpa using hc
  have hl : i < (tl s).length := by omega
  have e : tl s = (tl s).take i ++ c :: (tl s).drop (i + 1) := by
    have h2 : (tl s)[i] = c := by rw [List.getElem?_eq_getElem hl] at hc'; exact Option.some.inj hc'
    rw [← h2, ← List.drop_eq_getElem_cons hl, List.take_append_drop]
  have e2 : (tl s).take (i + 1) = (tl s).take i ++ [c] := by rw [List.take_add_one, hc']; rfl
  rw [e2]
  exact hs _ c _ _ e p
theorem lc_li {K : PySem.W.Frag} {a : Addr} {xs : List V} (Pv : List V → Hp → Prop) (h0 : Pv [] (upd H1 D (.lst []))) (hl : ∀ pre post H, xs = pre ++ post → Pv pre H → SqL K H a xs)
    (hs : ∀ pre x post H, xs = pre ++ x :: post → Pv pre H → g x (wipe σ vs) H fun σ2 H2 => wipe σ2 vs = wipe σ vs ∧ tt σ2 H2 fun b H3 =>
      if b = true then te σ2 H3 fun y H4 => ∃ acc, H4 D = some (.lst acc) ∧ acc.length < sizeLine ∧ Pv (pre ++ [x]) (upd H4 D (.lst (acc ++ [y]))) else Pv (pre ++ [x]) H3) (hd : ∀ H, Pv xs H → Qd H) :
    ∃ W : Nat → Nat → Hp → Prop, (∃ m, W 0 m (upd H1 D (.lst []))) ∧ ∀ i m H, W i m H →
      ((Itl K a).stop i H ∧ Qd H) ∨ ((Itl K a).go i H ∧ ∃ Nx : Hp → Prop, (∀ H', Nx H' → ∃ m', m' < m ∧ W (i + 1) m' H') ∧ ∀ x H', (Itl K a).yld i H x H' → g x (wipe σ vs) H' fun σ2 H2 => wipe σ2 vs = wipe σ vs ∧ tt σ2 H2 fun b H3 =>
        if b = true then te σ2 H3 fun y H4 => ∃ acc, H4 D = some (.lst acc) ∧ acc.length < sizeLine ∧ Nx (upd H4 D (.lst (acc ++ [y]))) else Nx H3) := by
  refine lc_it (walk_list (xs := xs)) (fun i H => Pv (xs.take i) H) (by simpa using h0) (fun i H _ p => hl (xs.take i) (xs.drop i) H (List.take_append_drop i xs).symm p) ?_ (fun H p => hd H (by rw [List.take_length] at p; exact p))
  rintro i x H H' hi p ⟨rfl, hc⟩
  have e : xs = xs.take i ++ x :: xs.drop (i + 1) := by
    have h2 : xs[i] = x := by rw [List.getElem?_eq_getElem hi] at hc; exact Option.some.inj hc
    rw [← h2, ← List.drop_eq_getElem_cons hi, List.take_append_drop]
  have e2 : xs.take (i + 1) = xs.take i ++ [x] := by rw [List.take_add_one, hc]; rfl
  rw [e2]
  exact hs _ x _ _ e p
end
end FR
set_option Elab.async false
set_option linter.all false
set_option maxRecDepth 100000
set_option maxHeartbeats 8000000
local macro_rules | `(tactic| walk_at "sq") => `(tactic| first
  | (refine' FR.Ow.sq (i := 0) ?w ?e; (case w => assumption); (case e => rfl))
  | (refine' FR.Ow.sq (i := 1) ?w ?e; (case w => assumption); (case e => rfl))
  | (refine' FR.Ow.sq (i := 2) ?w ?e; (case w => assumption); (case e => rfl))
  | (refine' FR.Ow.sq (i := 3) ?w ?e; (case w => assumption); (case e => rfl))
  | (refine' FR.Ow.sq (i := 4) ?w ?e; (case w => assumption); (case e => rfl))
  | (refine' FR.Ow.sq (i := 5) ?w ?e; (case w => assumption); (case e => rfl))
  | (refine' FR.Ow.sq (i := 6) ?w ?e; (case w => assumption); (case e => rfl))
  | (refine' FR.Ow.sq (i := 7) ?w ?e; (case w => assumption); (case e => rfl))
  | (refine' FR.Ow.sq (i := 8) ?w ?e; (case w => assumption); (case e => rfl))
  | (refine' FR.Ow.sq (i := 9) ?w ?e; (case w => assumption); (case e => rfl))
  | (refine' FR.Ow.sq (i := 10) ?w ?e; (case w => assumption); (case e => rfl))
  | (refine' FR.Ow.sq (i := 11) ?w ?e; (case w => assumption); (case e => rfl))
  | (refine' FR.Ow.sq (i := 12) ?w ?e; (case w => assumption); (case e => rfl))
  | (refine' FR.Ow.sq (i := 13) ?w ?e; (case w => assumption); (case e => rfl))
  | assumption)
local macro_rules | `(tactic| walk_at "hp") => `(tactic| first
  | (refine' FR.Ow.get (i := 0) ?w ?e; (case w => assumption); (case e => rfl))
  | (refine' FR.Ow.get (i := 1) ?w ?e; (case w => assumption); (case e => rfl))
  | (refine' FR.Ow.get (i := 2) ?w ?e; (case w => assumption); (case e => rfl))
  | (refine' FR.Ow.get (i := 3) ?w ?e; (case w => assumption); (case e => rfl))
  | (refine' FR.Ow.get (i := 4) ?w ?e; (case w => assumption); (case e => rfl))
  | (refine' FR.Ow.get (i := 5) ?w ?e; (case w => assumption); (case e => rfl))
  | (refine' FR.Ow.get (i := 6) ?w ?e; (case w => assumption); (case e => rfl))
  | (refine' FR.Ow.get (i := 7) ?w ?e; (case w => assumption); (case e => rfl))
  | (refine' FR.Ow.get (i := 8) ?w ?e; (case w => assumption); (case e => rfl))
  | (refine' FR.Ow.get (i := 9) ?w ?e; (case w => assumption); (case e => rfl))
  | (refine' FR.Ow.get (i := 10) ?w ?e; (case w => assumption); (case e => rfl))
  | (refine' FR.Ow.get (i := 11) ?w ?e; (case w => assumption); (case e => rfl))
  | (refine' FR.Ow.get (i := 12) ?w ?e; (case w => assumption); (case e => rfl))
  | (refine' FR.Ow.get (i := 13) ?w ?e; (case w => assumption); (case e => rfl))
  | assumption)
local macro_rules | `(tactic| walk_at "ar") => `(tactic| first | assumption | omega | decide)
local macro_rules | `(tactic| walk_at "cd") => `(tactic| first
  | assumption | (with_reducible rfl) | exact (rfl : List.length _ = _) | (dsimp only; walk_at "ar") | walk_at "ar"
  | (refine And.intro (a := (_ : Int) < _) ?_ ?_ <;> walk_at "ar")
  | (refine And.intro (a := (0 : Int) ≤ _) ?_ (And.intro ?_ ?_) <;> walk_at "ar")
  | exact FR.size_le (by omega) | exact FR.size_ok (by omega)
  | (refine Or.inl (And.intro ?_ ?_) <;> walk_at "ar")
  | (refine Or.inr (And.intro ?_ ?_) <;> walk_at "ar"))
local macro_rules | `(tactic| walk_at "ty") => `(tactic| first
  | exact L2.TyOf.int _
  | exact L2.TyOf.str _
  | exact L2.TyOf.bl _
  | exact L2.TyOf.non
  | (refine' L2.TyOf.lst ?e; (case e => walk_at "hp"))
  | (refine' L2.TyOf.tup ?e; (case e => walk_at "hp"))
  | (refine' L2.TyOf.dK ?e; (case e => walk_at "hp")))
local macro_rules | `(tactic| walk_at "kit") => `(tactic| first
  | exact FR.ki_int_str
  | exact FR.ki_int_int
  | exact FR.ki_int_bool
  | exact FR.ki_int_list
  | exact FR.ki_int_tuple
  | exact FR.ki_int_dict
  | exact FR.ki_str_str
  | exact FR.ki_str_int
  | exact FR.ki_str_bool
  | exact FR.ki_str_list
  | exact FR.ki_str_tuple
  | exact FR.ki_str_dict
  | exact FR.ki_bl_str
  | exact FR.ki_bl_int
  | exact FR.ki_bl_bool
  | exact FR.ki_bl_list
  | exact FR.ki_bl_tuple
  | exact FR.ki_bl_dict
  | exact FR.ki_non_str
  | exact FR.ki_non_int
  | exact FR.ki_non_bool
  | exact FR.ki_non_list
  | exact FR.ki_non_tuple
  | exact FR.ki_non_dict
  | exact FR.ki_lst_str
  | exact FR.ki_lst_int
  | exact FR.ki_lst_bool
  | exact FR.ki_lst_list
  | exact FR.ki_lst_tuple
  | exact FR.ki_lst_dict
  | exact FR.ki_tup_str
  | exact FR.ki_tup_int
  | exact FR.ki_tup_bool
  | exact FR.ki_tup_list
  | exact FR.ki_tup_tuple
  | exact FR.ki_tup_dict
  | exact FR.ki_dK_str
  | exact FR.ki_dK_int
  | exact FR.ki_dK_bool
  | exact FR.ki_dK_list
  | exact FR.ki_dK_tuple
  | exact FR.ki_dK_dict)
local macro_rules | `(tactic| walk_at "isi") => `(tactic| (refine' ⟨_, _, _, _, _, rfl, L2.ClsV.ty _, L2.TyX.base ?k1, L2.kit_ty ?k2, ?k3⟩; (case k1 => walk_at "ty"); (case k2 => walk_at "kit")))
local macro_rules | `(tactic| walk_at "w1") => `(tactic| first
  | (refine' FR.with1 0 ?k1 ?k2 (by assumption) (by assumption) ?k3; (case k1 => assumption); (case k2 => rfl); intro W)
  | (refine' FR.with1 1 ?k1 ?k2 (by assumption) (by assumption) ?k3; (case k1 => assumption); (case k2 => rfl); intro W)
  | (refine' FR.with1 2 ?k1 ?k2 (by assumption) (by assumption) ?k3; (case k1 => assumption); (case k2 => rfl); intro W)
  | (refine' FR.with1 3 ?k1 ?k2 (by assumption) (by assumption) ?k3; (case k1 => assumption); (case k2 => rfl); intro W)
  | (refine' FR.with1 4 ?k1 ?k2 (by assumption) (by assumption) ?k3; (case k1 => assumption); (case k2 => rfl); intro W)
  | (refine' FR.with1 5 ?k1 ?k2 (by assumption) (by assumption) ?k3; (case k1 => assumption); (case k2 => rfl); intro W)
  | (refine' FR.with1 6 ?k1 ?k2 (by assumption) (by assumption) ?k3; (case k1 => assumption); (case k2 => rfl); intro W)
  | (refine' FR.with1 7 ?k1 ?k2 (by assumption) (by assumption) ?k3; (case k1 => assumption); (case k2 => rfl); intro W)
  | (refine' FR.with1 8 ?k1 ?k2 (by assumption) (by assumption) ?k3; (case k1 => assumption); (case k2 => rfl); intro W)
  | (refine' FR.with1 9 ?k1 ?k2 (by assumption) (by assumption) ?k3; (case k1 => assumption); (case k2 => rfl); intro W)
  | (refine' FR.with1 10 ?k1 ?k2 (by assumption) (by assumption) ?k3; (case k1 => assumption); (case k2 => rfl); intro W)
  | (refine' FR.with1 11 ?k1 ?k2 (by assumption) (by assumption) ?k3; (case k1 => assumption); (case k2 => rfl); intro W)
  | (refine' FR.with1 12 ?k1 ?k2 (by assumption) (by assumption) ?k3; (case k1 => assumption); (case k2 => rfl); intro W)
  | (refine' FR.with1 13 ?k1 ?k2 (by assumption) (by assumption) ?k3; (case k1 => assumption); (case k2 => rfl); intro W))
local macro_rules | `(tactic| walk_at "obj") => `(tactic| first
  | (refine FR.NewO.mk ?_; intro p H np kp hp; refine' FR.withN ?k1 np kp hp ?k2; (case k1 => assumption); intro W)
  | (refine FR.MutO.mk ?_; intro H kp hp; walk_at "w1"))
local macro_rules | `(tactic| walk_at "sz") => `(tactic| exact FR.size_ok (by (try simp only [List.length_map, List.length_append, List.length_cons, List.length_nil]); omega))
local macro_rules | `(tactic| walk_at "rd1") => `(tactic| first
  | (refine ⟨_, rfl, ?_⟩)
  | (refine ⟨_, _, rfl, rfl, ?_⟩)
  | (refine ⟨_, _, rfl, ?_⟩)
  | (refine' ⟨_, _, _, _, rfl, rfl, ?k1, ?k2, ?k3⟩; (case k1 => walk_at "hp"); (case k2 => rfl); walk_at "obj")
  | (refine' ⟨_, _, _, _, rfl, rfl, ?k1, ?k2, ?k3⟩; (case k1 => walk_at "sq"); (case k2 => rfl))
  | walk_at "obj"
  | (refine' ⟨_, _, _, rfl, rfl, ?k1, ?k2, ?k3⟩; (case k1 => walk_at "hp"); (case k2 => walk_at "sz"); walk_at "obj")
  | (refine And.intro (show List.length _ ≤ PySem.sizeLine from Nat.le_of_ble_eq_true rfl) ?_; walk_at "obj")
  | (refine' ⟨_, _, rfl, Or.inl ?k1, ?k2⟩; (case k1 => walk_at "sq"))
  | (refine FR.ifT rfl ?_) | (refine FR.ifF rfl ?_)
  | (refine And.intro (show L2.scal _ _ = true from rfl) ?_)
  | (refine And.intro (show L2.tyV _ "str" (L2.V.str _) _ from rfl) ?_)
  | (refine' And.intro (show L2.tyV _ "list" (L2.V.ref _) _ from Or.inl ⟨rfl, _, ?k1⟩) ?k2; (case k1 => walk_at "sq"))
  | (refine And.intro (Exists.intro _ rfl) ?_)
  | (refine And.intro (show L2.wipe _ _ = L2.wipe _ _ from rfl) ?_)
  | (refine And.intro (by walk_at "cd") ?_)
  | walk_at "isi")
local macro_rules | `(tactic| walk_at "rd") => `(tactic| repeat walk_at "rd1")
local macro_rules | `(tactic| walk_at "take") => `(tactic| (refine' ⟨_, _, _, _, _, _, rfl, ?k1, ?k2, ?k3, ?k4, ?k5, ?k6⟩; (case k1 => walk_at "hp"); (case k2 => assumption); (case k3 => omega); (case k4 => first | decide | omega); (case k5 => first | decide | omega); intro d x y z H d0 d1 ok kp hb; walk_at "w1"))
set_option Elab.async false
set_option linter.all false
set_option maxRecDepth 100000
namespace K01
open PySem PySem.Spec PyProof.Rows L2 FR
def top (i : Nat) : Stmt := PySem.Challenge.pw_filerights_k01_integers_names_paths.main.body.getD i (.Pass ⟨0, 0, 0, 0⟩)
abbrev s_is_integer : Stmt := top 2
abbrev N_is_integer : List Str := ["value", "low", "high"]
theorem sc_is_integer : FnScope N_is_integer ["value", "low", "high"] (defScope s_is_integer) := ⟨rfl, rfl, rfl, by decide +kernel, rfl, by decide +kernel, by decide +kernel⟩
abbrev s_is_name : Stmt := top 3
abbrev N_is_name : List Str := ["value"]
theorem sc_is_name : FnScope N_is_name ["value"] (defScope s_is_name) := ⟨rfl, rfl, rfl, by decide +kernel, rfl, by decide +kernel, by decide +kernel⟩
abbrev s_is_list : Stmt := top 4
abbrev N_is_list : List Str := ["value"]
theorem sc_is_list : FnScope N_is_list ["value"] (defScope s_is_list) := ⟨rfl, rfl, rfl, by decide +kernel, rfl, by decide +kernel, by decide +kernel⟩
abbrev s_is_path : Stmt := top 5
abbrev N_is_path : List Str := ["value", "part"]
theorem sc_is_path : FnScope N_is_path ["value"] (defScope s_is_path) := ⟨rfl, rfl, rfl, by decide +kernel, rfl, by decide +kernel, by decide +kernel⟩
abbrev s_cell : Stmt := top 7
abbrev N_cell : List Str := ["_law_script", "_law_k"]
theorem sc_cell : FnScope N_cell ["_law_script", "_law_k"] (defScope s_cell) := ⟨rfl, rfl, rfl, by decide +kernel, rfl, by decide +kernel, by decide +kernel⟩
abbrev s_bag : Stmt := top 8
abbrev N_bag : List Str := ["_law_number"]
theorem sc_bag : FnScope N_bag ["_law_number"] (defScope s_bag) := ⟨rfl, rfl, rfl, by decide +kernel, rfl, by decide +kernel, by decide +kernel⟩
abbrev s_take : Stmt := top 9
abbrev N_take : List Str := ["_law_bag_here", "_law_count", "_law_digit", "_law_mixed"]
theorem sc_take : FnScope N_take ["_law_bag_here", "_law_count"] (defScope s_take) := ⟨rfl, rfl, rfl, by decide +kernel, rfl, by decide +kernel, by decide +kernel⟩
abbrev s_word : Stmt := top 10
abbrev N_word : List Str := ["_law_bag_here", "_law_clean", "_law_letters", "_law_found", "_law_at", "_law_signs", "_law_sign", "_law_k"]
theorem sc_word : FnScope N_word ["_law_bag_here", "_law_clean"] (defScope s_word) := ⟨rfl, rfl, rfl, by decide +kernel, rfl, by decide +kernel, by decide +kernel⟩
abbrev s_is_word : Stmt := top 11
abbrev N_is_word : List Str := ["_law_thing", "_law_sign"]
theorem sc_is_word : FnScope N_is_word ["_law_thing"] (defScope s_is_word) := ⟨rfl, rfl, rfl, by decide +kernel, rfl, by decide +kernel, by decide +kernel⟩
abbrev s_path : Stmt := top 12
abbrev N_path : List Str := ["_law_bag_here", "_law_clean", "_law_many", "_law_names", "_law_found", "_law_way", "_law_at", "_law_k"]
theorem sc_path : FnScope N_path ["_law_bag_here"] (defScope s_path) := ⟨rfl, rfl, rfl, by decide +kernel, rfl, by decide +kernel, by decide +kernel⟩
abbrev s_l_is_path : Stmt := top 13
abbrev N_l_is_path : List Str := ["_law_thing", "_law_word_here", "_law_words", "_law_sign", "_law_one"]
theorem sc_l_is_path : FnScope N_l_is_path ["_law_thing"] (defScope s_l_is_path) := ⟨rfl, rfl, rfl, by decide +kernel, rfl, by decide +kernel, by decide +kernel⟩
abbrev s_any : Stmt := top 14
abbrev N_any : List Str := ["_law_bag_here", "_law_text", "_law_some"]
theorem sc_any : FnScope N_any ["_law_bag_here", "_law_text"] (defScope s_any) := ⟨rfl, rfl, rfl, by decide +kernel, rfl, by decide +kernel, by decide +kernel⟩
abbrev s_integers_right : Stmt := top 15
abbrev N_integers_right : List Str := ["_law_bag_here", "_law_some", "_law_floor", "_law_top", "_law_things", "_law_thing", "_law_expected", "_law_found"]
theorem sc_integers_right : FnScope N_integers_right ["_law_bag_here"] (defScope s_integers_right) := ⟨rfl, rfl, rfl, by decide +kernel, rfl, by decide +kernel, by decide +kernel⟩
abbrev s_law : Stmt := top 16
abbrev N_law : List Str := ["_law_script", "_law_k", "_law_bag_here", "_law_word_here", "_law_path_here", "_law_thing", "_law_found", "_law_expected", "_law_one"]
theorem sc_law : FnScope N_law ["_law_script"] (defScope s_law) := ⟨rfl, rfl, rfl, by decide +kernel, rfl, by decide +kernel, by decide +kernel⟩
structure Ads where
  f_is_integer : Addr
  d_is_integer : FuncData
  f_is_name : Addr
  d_is_name : FuncData
  f_is_list : Addr
  d_is_list : FuncData
  f_is_path : Addr
  d_is_path : FuncData
  f_cell : Addr
  d_cell : FuncData
  f_bag : Addr
  d_bag : FuncData
  f_take : Addr
  d_take : FuncData
  f_word : Addr
  d_word : FuncData
  f_is_word : Addr
  d_is_word : FuncData
  f_path : Addr
  d_path : FuncData
  f_l_is_path : Addr
  d_l_is_path : FuncData
  f_any : Addr
  d_any : FuncData
  f_integers_right : Addr
  d_integers_right : FuncData
  f_law : Addr
  d_law : FuncData
structure Txt (K : PySem.W.Frag) (mg : Str → Option Value) (A : Ads) : Prop where
  F_is_integer : Fun K "is_integer" "is_integer" s_is_integer A.f_is_integer A.d_is_integer
  B_is_integer : Binds K A.d_is_integer ["value", "low", "high"] []
  g_is_integer : mg "is_integer" = some (.ref A.f_is_integer)
  F_is_name : Fun K "is_name" "is_name" s_is_name A.f_is_name A.d_is_name
  B_is_name : Binds K A.d_is_name ["value"] []
  g_is_name : mg "is_name" = some (.ref A.f_is_name)
  F_is_list : Fun K "is_list" "is_list" s_is_list A.f_is_list A.d_is_list
  B_is_list : Binds K A.d_is_list ["value"] []
  g_is_list : mg "is_list" = some (.ref A.f_is_list)
  F_is_path : Fun K "is_path" "is_path" s_is_path A.f_is_path A.d_is_path
  B_is_path : Binds K A.d_is_path ["value"] []
  g_is_path : mg "is_path" = some (.ref A.f_is_path)
  F_cell : Fun K "_law_cell" "_law_cell" s_cell A.f_cell A.d_cell
  B_cell : Binds K A.d_cell ["_law_script", "_law_k"] []
  g_cell : mg "_law_cell" = some (.ref A.f_cell)
  F_bag : Fun K "_law_bag" "_law_bag" s_bag A.f_bag A.d_bag
  B_bag : Binds K A.d_bag ["_law_number"] []
  g_bag : mg "_law_bag" = some (.ref A.f_bag)
  F_take : Fun K "_law_take" "_law_take" s_take A.f_take A.d_take
  B_take : Binds K A.d_take ["_law_bag_here", "_law_count"] []
  g_take : mg "_law_take" = some (.ref A.f_take)
  F_word : Fun K "_law_word" "_law_word" s_word A.f_word A.d_word
  B_word : Binds K A.d_word ["_law_bag_here", "_law_clean"] []
  g_word : mg "_law_word" = some (.ref A.f_word)
  F_is_word : Fun K "_law_is_word" "_law_is_word" s_is_word A.f_is_word A.d_is_word
  B_is_word : Binds K A.d_is_word ["_law_thing"] []
  g_is_word : mg "_law_is_word" = some (.ref A.f_is_word)
  F_path : Fun K "_law_path" "_law_path" s_path A.f_path A.d_path
  B_path : Binds K A.d_path ["_law_bag_here"] []
  g_path : mg "_law_path" = some (.ref A.f_path)
  F_l_is_path : Fun K "_law_is_path" "_law_is_path" s_l_is_path A.f_l_is_path A.d_l_is_path
  B_l_is_path : Binds K A.d_l_is_path ["_law_thing"] []
  g_l_is_path : mg "_law_is_path" = some (.ref A.f_l_is_path)
  F_any : Fun K "_law_any" "_law_any" s_any A.f_any A.d_any
  B_any : Binds K A.d_any ["_law_bag_here", "_law_text"] []
  g_any : mg "_law_any" = some (.ref A.f_any)
  F_integers_right : Fun K "_law_integers_right" "_law_integers_right" s_integers_right A.f_integers_right A.d_integers_right
  B_integers_right : Binds K A.d_integers_right ["_law_bag_here"] []
  g_integers_right : mg "_law_integers_right" = some (.ref A.f_integers_right)
  F_law : Fun K "law" "law" s_law A.f_law A.d_law
  B_law : Binds K A.d_law ["_law_script"] []
  g_law : mg "law" = some (.ref A.f_law)
  c_LONGEST_NAME : ∃ u, mg "LONGEST_NAME" = some u ∧ RelV (.int 8) u
  b_all : mg "all" = none
  b_bool : mg "bool" = none
  b_int : mg "int" = none
  b_isinstance : mg "isinstance" = none
  b_len : mg "len" = none
  b_list : mg "list" = none
  b_max : mg "max" = none
  b_min : mg "min" = none
  b_range : mg "range" = none
  b_str : mg "str" = none
  b_tuple : mg "tuple" = none


end K01
namespace K01
open PySem PySem.Spec PyProof.Rows L2 FR
section
variable {P : Program} {w : World} {K : PySem.W.Frag} {mg : Str → Option Value} {base : Heap} {A : Ads}
set_option pp.maxSteps 120
theorem ok_take (T : Txt K mg A) : FnOk P w K mg base CX0 1 A.f_take A.d_take ["_law_bag_here", "_law_count"] spTake := by
  refine T.F_take.ok sc_take (fun vs H Q E h => ?_) (fun cdv A_ outer s H vs Q E hr h => ?_)
  · obtain ⟨b, k, n, x, y, z, rfl, _⟩ := h
    rfl
  · obtain ⟨b, k, n, x, y, z, rfl, hb, ok, hn, k0, k1, q⟩ := h
    have W := Ow.start1 hb
    have y0 := ok.y0; have y1 := ok.y1; have z0 := ok.z0; have z1 := ok.z1
    refine ⟨_, (pss_cons (ps_if (pt_cmpR op_gt (pe_ix ix_list (pv 0) pe_int (fun _ _ => rfl)) pe_int (nomark _)) (pss_cons (ps_set (i := 2) sc_take.nd rfl (.inl rfl) (pe_op op_mod (pe_ix ix_list (pv 0) pe_int (fun _ _ => rfl)) (pv 1)))
  (pss_cons (ps_asg (pe_op op_fdiv (pe_ix ix_list (pv 0) pe_int (fun _ _ => rfl)) (pv 1)) (pg_sub (pv 0) pe_int set_listN))
  (pss_one (ps_ret (pv 2))))) pss_nil)
  (pss_cons (ps_asg (pe_op op_add (pe_ix ix_list (pv 0) pe_int (fun _ _ => rfl)) pe_int) (pg_sub (pv 0) pe_int set_listN))
  (pss_cons (ps_set (i := 3) sc_take.nd rfl (.inl rfl) (pe_op op_mod (pe_op op_pow (pe_op op_add (pe_op op_add (pe_ix ix_list (pv 0) pe_int (fun _ _ => rfl)) (pe_op op_mul pe_int (pe_ix ix_list (pv 0) pe_int (fun _ _ => rfl)))) pe_int) pe_int) pe_int))
  (pss_cons (ps_set (i := 3) sc_take.nd rfl (.inl rfl) (pe_op op_mod (pe_op op_pow (pe_op op_add (pv 3) (pe_op op_mul pe_int (pe_ix ix_list (pv 0) pe_int (fun _ _ => rfl)))) pe_int) pe_int))
  (pss_one (ps_ret (pe_op op_mod (pe_op op_fdiv (pv 3) pe_int) (pv 1)))))))), ?_⟩
    walk_at "rd"
    refine ite2 (fun c => ?_) (fun c => ?_)
    · have c' : 0 < x := of_decide_eq_true c
      walk_at "rd"
      rename_i H1 kp hp W1
      exact q _ (x / k) y z H1 (Int.emod_nonneg _ (by omega)) (Int.emod_lt_of_pos _ k0) ⟨Int.ediv_nonneg ok.x0 (by omega), y0, y1, z0, by omega⟩ kp hp
    · walk_at "rd"
      rename_i H1 kp hp W1
      exact q _ x y (z + 1) H1 (Int.emod_nonneg _ (by omega)) (Int.emod_lt_of_pos _ k0) ⟨ok.x0, y0, y1, by omega, by omega⟩ kp hp
def spCell (K : PySem.W.Frag) : Sp := fun vs H Q _ => ∃ (a : Addr) (ns : List Int) (k : Int), vs = [.ref a, .int k] ∧ SqL K H a (ns.map V.int) ∧ 0 ≤ k ∧ k < 1000 ∧ ∀ n, Q (.int n) H
theorem ok_cell (T : Txt K mg A) : FnOk P w K mg base CX0 1 A.f_cell A.d_cell ["_law_script", "_law_k"] (spCell K) := by
  refine T.F_cell.ok sc_cell (fun vs H Q E h => ?_) (fun cdv A_ outer s H vs Q E hr h => ?_)
  · obtain ⟨a, ns, k, rfl, _⟩ := h
    rfl
  · obtain ⟨a, ns, k, rfl, hS, h0, hk, q⟩ := h
    obtain ⟨j, rfl⟩ := Int.eq_ofNat_of_zero_le h0
    refine ⟨_, (pss_cons (ps_if (pt_cmpR op_lt (pv 1) (pe_callB call_len_seq (by rfl) T.b_len PySem.boot_len (pa_cons (pv 0) pa_nil)) (nomark _)) (pss_one (ps_ret (pe_ix ix_list (pv 0) (pv 1) (fun _ _ => rfl)))) pss_nil)
  (pss_one (ps_ret (pe_op op_add (pe_op op_mul pe_int (pv 1)) pe_int)))), ?_⟩
    walk_at "rd"
    refine ifD (fun c => ?_) (fun c => ?_)
    · have c2 : j < ns.length := by rw [List.length_map] at c; omega
      refine ⟨_, rfl, _, rfl, _, _, _, .int ns[j], rfl, rfl, hS, atI_nat (by rw [List.getElem?_map, List.getElem?_eq_getElem c2]; rfl), q _⟩
    · walk_at "rd"
      exact q _
def spBag : Sp := fun vs H Q _ => ∃ n : Int, vs = [.int n] ∧ ∀ x y z, BagOk 0 x y z → NewO (bagO x y z) Q H
theorem ok_bag (T : Txt K mg A) : FnOk P w K mg base CX0 1 A.f_bag A.d_bag ["_law_number"] spBag := by
  refine T.F_bag.ok sc_bag (fun vs H Q E h => ?_) (fun cdv A_ outer s H vs Q E hr h => ?_)
  · obtain ⟨n, rfl, _⟩ := h
    rfl
  · obtain ⟨n, rfl, q⟩ := h
    have W : Ow H [] H [] := Ow.start0
    refine ⟨_, (pss_one (ps_ret (pe_lstN (pa_cons (pe_callB (call_max2 rfl) (by rfl) T.b_max (by decide +kernel) (pa_cons pe_int (pa_cons (pe_op op_sub (pv 0) (pe_op op_pow pe_int pe_int)) pa_nil))) (pa_cons (pe_op op_mod (pv 0) pe_int) (pa_cons pe_int pa_nil)))))), ?_⟩
    have q' := q (if n - 10 ^ 18 > 0 then n - 10 ^ 18 else 0) (n % 2147483629) 0 ⟨by split <;> omega, Int.emod_nonneg _ (by decide), Int.lt_trans (Int.emod_lt_of_pos _ (by decide)) (by decide), by omega, by omega⟩
    walk_at "rd"
    rename_i p H1 np kp hp W1
    exact q'.to p H1 np kp hp
end
end K01
namespace K01
open PySem PySem.Spec PyProof.Rows L2 FR TL
open C8 (pss_cut pe_gc)
/-- a small letter -/
def lc (c : Nat) : Bool := decide (97 ≤ c ∧ c ≤ 122)
/-- a word's name: one to eight small letters -/
def nm (s : Str) : Bool := decide (s ≠ Str.ofString "" ∧ s.length ≤ 8) && (tl s).all lc
theorem alpha_lc : ∀ c : Fin 128, Unicode.isAlpha c.1 = true → (Unicode.isUpper c.1 || Unicode.isTitle c.1) = false → lc c.1 = true := by decide +kernel
theorem lc_alpha : ∀ c : Fin 128, lc c.1 = true → Unicode.isAlpha c.1 = true ∧ Unicode.isLower c.1 = true ∧ (Unicode.isUpper c.1 || Unicode.isTitle c.1) = false := by decide +kernel
theorem all_tl (s : Str) (p : Nat → Bool) : s.cps.all p = (tl s).all p := by simp
theorem any_tl (s : Str) (p : Nat → Bool) : s.cps.any p = (tl s).any p := by simp
theorem isascii_asc {s : Str} (a : Asc s) : Txt.isascii s = true := by
  show s.cps.all (· < 128) = true
  rw [all_tl]
  exact List.all_eq_true.mpr fun c hc => decide_eq_true (a c hc)
theorem empty_iff (s : Str) : s = Str.ofString "" ↔ tl s = [] := ⟨fun h => by rw [h]; decide +kernel, fun h => ext_tl (by rw [h]; decide +kernel)⟩
theorem name_eq {s : Str} (a : Asc s) : (Txt.isalpha s && Txt.islower s) = (decide (s ≠ Str.ofString "") && (tl s).all lc) := by
  show ((decide (s.length > 0) && s.cps.all Unicode.isAlpha) && (s.cps.any Unicode.isLower && !s.cps.any fun c => Unicode.isUpper c || Unicode.isTitle c)) = _
  rw [all_tl, any_tl, any_tl, len_tl, show decide (s ≠ Str.ofString "") = decide (tl s ≠ []) from decide_eq_decide.mpr (not_congr (empty_iff s))]
  have ha := a
  unfold Asc at ha
  generalize tl s = l at ha
  rw [Bool.eq_iff_iff]
  simp only [Bool.and_eq_true, decide_eq_true_eq, List.all_eq_true, List.any_eq_true, Bool.not_eq_true', List.any_eq_false]
  constructor
  · rintro ⟨⟨h0, h1⟩, _, h3⟩
    exact ⟨fun e => by subst e; simp at h0, fun c hc => alpha_lc ⟨c, ha c hc⟩ (h1 c hc) (by simpa using h3 c hc)⟩
  · rintro ⟨h0, h1⟩
    refine ⟨⟨List.length_pos_iff.mpr h0, fun c hc => (lc_alpha ⟨c, ha c hc⟩ (h1 c hc)).1⟩, ?_, fun c hc => by have := (lc_alpha ⟨c, ha c hc⟩ (h1 c hc)).2.2; simpa using this⟩
    obtain ⟨c, hc⟩ := List.exists_mem_of_ne_nil _ h0
    exact ⟨c, hc, (lc_alpha ⟨c, ha c hc⟩ (h1 c hc)).2.1⟩
theorem sgn_lt (c d : Nat) : decide ((⟨#[c]⟩ : Str).cps.toList < (⟨#[d]⟩ : Str).cps.toList) = decide (c < d) := by
  refine decide_eq_decide.mpr ?_
  show [c] < [d] ↔ c < d
  rw [List.cons_lt_cons_iff]
  simp
theorem lt_a (d : Nat) : decide ((⟨#[d]⟩ : Str).cps.toList < (Str.ofString "a").cps.toList) = decide (d < 97) := by
  rw [show Str.ofString "a" = ⟨#[97]⟩ by decide +kernel]
  exact sgn_lt d 97
theorem gt_z (d : Nat) : decide ((Str.ofString "z").cps.toList < (⟨#[d]⟩ : Str).cps.toList) = decide (122 < d) := by
  rw [show Str.ofString "z" = ⟨#[122]⟩ by decide +kernel]
  exact sgn_lt 122 d
/-- a text, or something else -/
def Thing (K : PySem.W.Frag) (H : Hp) (v : V) (qs : Str → Prop) (qo : Prop) : Prop := (∃ s, v = .str s ∧ s.length ≤ 100000 ∧ Asc s ∧ qs s) ∨ ((∃ t, TyX K H v (.type t) ∧ kitB t "str" = some false) ∧ qo)
section
variable {P : Program} {w : World} {K : PySem.W.Frag} {mg : Str → Option Value} {base : Heap} {A : Ads}
set_option pp.maxSteps 120
def spName (K : PySem.W.Frag) : Sp := fun vs H Q _ => ∃ v, vs = [v] ∧ Thing K H v (fun s => Q (.bl (nm s)) H) (Q (.bl false) H)
theorem ok_is_name (T : Txt K mg A) : FnOk P w K mg base CX0 1 A.f_is_name A.d_is_name ["value"] (spName K) := by
  refine T.F_is_name.ok sc_is_name (fun vs H Q E h => ?_) (fun cdv A_ outer s_ H vs Q E hr h => ?_)
  · obtain ⟨v, rfl, _⟩ := h
    rfl
  · obtain ⟨v, rfl, q⟩ := h
    refine ⟨_, (pss_cons (ps_if (PW.pt (pw_or (pt_not (pt_val (pe_callB call_isi (by rfl) T.b_isinstance (by decide +kernel) (pa_cons (pv 0) (pa_cons (pe_bltn (v := .ty "str") rfl T.b_str (by decide +kernel) rfl) pa_nil))))) (pw_or1 (pt_cmpR op_gt (pe_callB call_len_str (by rfl) T.b_len PySem.boot_len (pa_cons (pv 0) pa_nil)) (pe_gc rfl T.c_LONGEST_NAME) (nomark _))))) (pss_one (ps_ret pe_bl)) pss_nil)
  (pss_one (ps_ret (pe_and (pe_bm0 PySem.F.plainAttrs_str PySem.F.slot_str_isascii PySem.F.type_str_isascii mt_isascii (pv 0)) (pe_and (pe_bm0 PySem.F.plainAttrs_str PySem.F.slot_str_isalpha PySem.F.type_str_isalpha mt_isalpha (pv 0)) (pe_one (pe_bm0 PySem.F.plainAttrs_str PySem.F.slot_str_islower PySem.F.type_str_islower mt_islower (pv 0)))))))), ?_⟩
    rcases q with ⟨s, rfl, hl, ha, q⟩ | ⟨⟨t, ty, kt⟩, q⟩
    · have hz : s.length ≤ sizeLine := size_le (by omega)
      have en := name_eq ha
      have ea := isascii_asc ha
      walk_at "rd"
      refine ifD (fun c => ?_) (fun c => ?_)
      · walk_at "rd"
        rw [show nm s = false by unfold nm; rw [decide_eq_false (fun h => by have := h.2; omega)]; rfl] at q
        exact q
      · walk_at "rd"
        have hn : nm s = (Txt.isalpha s && Txt.islower s) := by
          rw [en]
          unfold nm
          by_cases h : s = Str.ofString ""
          · rw [decide_eq_false (fun z => z.1 h), decide_eq_false (fun z => z h)]
          · rw [decide_eq_true ⟨h, by omega⟩, decide_eq_true h]
        rw [hn] at q
        refine ifT ea ?_
        walk_at "rd"
        refine ifB (fun c1 => ?_) (fun c1 => ?_)
        · rw [c1] at q
          walk_at "rd"
          exact q
        · rw [c1] at q
          exact q
    · walk_at "rd"
      refine ⟨_, _, _, _, _, rfl, .ty _, ty, kit_ty kt, ?_⟩
      walk_at "rd"
      exact q
def spWordB (K : PySem.W.Frag) : Sp := fun vs H Q _ => ∃ v, vs = [v] ∧ Thing K H v (fun s => ∀ H', Keep [] H H' → Q (.bl (nm s)) H') (Q (.bl false) H)
theorem ok_is_word (T : Txt K mg A) : FnOk P w K mg base CX0 1 A.f_is_word A.d_is_word ["_law_thing"] (spWordB K) := by
  refine T.F_is_word.ok sc_is_word (fun vs H Q E h => ?_) (fun cdv A_ outer s_ H vs Q E hr h => ?_)
  · obtain ⟨v, rfl, _⟩ := h
    rfl
  · obtain ⟨v, rfl, q⟩ := h
    have W : Ow H [] H [] := Ow.start0
    refine ⟨_, (pss_cons (ps_if (PW.pt (pw_or (pt_not (pt_val (pe_callB call_isi (by rfl) T.b_isinstance (by decide +kernel) (pa_cons (pv 0) (pa_cons (pe_bltn (v := .ty "str") rfl T.b_str (by decide +kernel) rfl) pa_nil))))) (pw_or (pt_cmpR op_eq (pv 0) pe_str (nomark _)) (pw_or1 (pt_cmpR op_gt (pe_callB call_len_str (by rfl) T.b_len PySem.boot_len (pa_cons (pv 0) pa_nil)) pe_int (nomark _)))))) (pss_one (ps_ret pe_bl)) pss_nil)
  (pss_one (ps_ret (pe_cmpR (op_eqD hr.units) (pe_lc (own := [("_law_sign", 1)]) (g := gName 1) rfl sc_is_word.nd (pi_str (pv 0)) (blkOk_by (own := [("_law_sign", 1)]) (N := N_is_word) (sc := defScope s_is_word) (by decide +kernel)) (fun _ _ _ _ _ => pg_name (i := 1) sc_is_word.nd rfl (Or.inl rfl)) (fun _ _ _ _ _ => (pts_one (PW.pt (pw_or (pt_cmpR op_lt_str (pv 1) pe_str (nomark _)) (pw_or1 (pt_cmpR op_gt_str (pv 1) pe_str (nomark _))))))) (fun _ _ _ _ _ => (pv 1))) (pe_lstN pa_nil) (nomark _))))), ?_⟩
    rcases q with ⟨s, rfl, hl, ha, q⟩ | ⟨⟨t, ty, kt⟩, q⟩
    · have hz : s.length ≤ sizeLine := size_le (by omega)
      have hlen := len_tl s
      walk_at "rd"
      refine ifVS (fun c => ?_) (fun c => ?_)
      · walk_at "rd"
        have q' := q H Keep.refl
        rw [show nm s = false by unfold nm; rw [decide_eq_false (fun h => h.1 c)]; rfl] at q'
        exact q'
      walk_at "rd"
      refine ifD (fun c8 => ?_) (fun c8 => ?_)
      · walk_at "rd"
        have q' := q H Keep.refl
        rw [show nm s = false by unfold nm; rw [decide_eq_false (fun h => by have := h.2; omega)]; rfl] at q'
        exact q'
      walk_at "rd"
      intro D hD
      refine lc_str (s := s) (fun pre H' => Ow H [] H' [(D, .lst ((sg (pre.filter (fun d => !lc d))).map V.str))]) (W.new hD) ?_ ?_
      · rintro pre d post H8 e8 W8
        have hpre : (pre.filter (fun d => !lc d)).length ≤ 400 := by
          have h1 := List.length_filter_le (fun d => !lc d) pre
          have h2 : pre.length ≤ (tl s).length := by rw [e8, List.length_append]; omega
          omega
        have hin : lc d = false → (pre ++ [d]).filter (fun d => !lc d) = pre.filter (fun d => !lc d) ++ [d] := fun h => by
          rw [List.filter_append, List.filter_cons, if_pos (by rw [h]; rfl)]; rfl
        walk_at "rd"
        refine ifQ (p := d < 97) (lt_a d) (fun c9 => ?_) (fun c9 => ?_)
        · walk_at "rd"
          refine ⟨_, W8.get 0 rfl, size_ok (by rw [List.length_map, sg_len]; omega), ?_⟩
          rw [hin (decide_eq_false (fun h => by have := h.1; have c9' : d < 97 := c9; omega)), sg_app]
          exact W8.set 0 rfl
        walk_at "rd"
        refine ifQ (p := 122 < d) (gt_z d) (fun c10 => ?_) (fun c10 => ?_)
        · walk_at "rd"
          refine ⟨_, W8.get 0 rfl, size_ok (by rw [List.length_map, sg_len]; omega), ?_⟩
          rw [hin (decide_eq_false (fun h => by have := h.2; have c10' : 122 < d := c10; omega)), sg_app]
          exact W8.set 0 rfl
        · have c9' : ¬ d < 97 := c9
          have c10' : ¬ 122 < d := c10
          rw [show (pre ++ [d]).filter (fun d => !lc d) = pre.filter (fun d => !lc d) by rw [List.filter_append, List.filter_cons, if_neg (by rw [show lc d = true from decide_eq_true ⟨by omega, by omega⟩]; decide)]; simp]
          exact W8
      · intro H9 W9
        have hfa := filt_asc (p := fun d => !lc d) ha
        have hn : nm s = decide (sg ((tl s).filter (fun d => !lc d)) = []) := by
          unfold nm
          rw [decide_eq_true ⟨c, by omega⟩, Bool.true_and, Bool.eq_iff_iff, decide_eq_true_eq, List.all_eq_true]
          unfold sg
          rw [List.map_eq_nil_iff, List.filter_eq_nil_iff]
          simp
        walk_at "rd"
        rename_i p H10 np10 kp10 hp10 W10
        refine ⟨dStrs (sg ((tl s).filter (fun d => !lc d))), dStrs [], dp_strs (W10.sq 1 rfl), dp_strs (ws := []) (W10.sq 0 rfl), shaped_strs (sg_asc hfa), shaped_strs (by simp), ?_⟩
        rw [eqv_nil, ← hn]
        exact q H10 W10.keep
    · walk_at "rd"
      refine ⟨_, _, _, _, _, rfl, .ty _, ty, kit_ty kt, ?_⟩
      walk_at "rd"
      exact q
def spList (K : PySem.W.Frag) : Sp := fun vs H Q _ => ∃ (v : V) (t : String) (b1 b2 : Bool), vs = [v] ∧ (∀ H', Keep [] H H' → TyX K H' v (.type t)) ∧ kitB t "list" = some b1 ∧ kitB t "tuple" = some b2 ∧ ∀ H', Keep [] H H' → Q (.bl (b1 || b2)) H'
theorem ok_is_list (T : Txt K mg A) : FnOk P w K mg base CX0 1 A.f_is_list A.d_is_list ["value"] (spList K) := by
  refine T.F_is_list.ok sc_is_list (fun vs H Q E h => ?_) (fun cdv A_ outer s_ H vs Q E hr h => ?_)
  · obtain ⟨v, t, b1, b2, rfl, _⟩ := h
    rfl
  · obtain ⟨v, t, b1, b2, rfl, ty, k1, k2, q⟩ := h
    have W : Ow H [] H [] := Ow.start0
    refine ⟨_, (pss_one (ps_ret (pe_callB call_isiT (by rfl) T.b_isinstance (by decide +kernel) (pa_cons (pv 0) (pa_cons (pe_tupN (pa_cons (pe_bltn (v := .ty "list") rfl T.b_list (by decide +kernel) rfl) (pa_cons (pe_bltn (v := .ty "tuple") rfl T.b_tuple (by decide +kernel) rfl) pa_nil))) pa_nil))))), ?_⟩
    walk_at "rd"
    rename_i p H1 np kp hp W1
    refine ⟨_, _, _, _, _, _, rfl, hp, .cons (.ty _) (.cons (.ty _) .nil), ty _ W1.keep, kit2 k1 k2, ?_⟩
    exact q _ W1.keep
/-- a whole number, or something else -/
def spInt (K : PySem.W.Frag) : Sp := fun vs H Q _ => ∃ (v : V) (lo hi : Int), vs = [v, .int lo, .int hi] ∧ ((∃ k, v = .int k ∧ Q (.bl (decide (lo ≤ k) && decide (k ≤ hi))) H) ∨ (∃ t b, TyX K H v (.type t) ∧ kitB t "int" = some b ∧ (b = true → kitB t "bool" = some true) ∧ Q (.bl false) H))
theorem ok_is_integer (T : Txt K mg A) : FnOk P w K mg base CX0 1 A.f_is_integer A.d_is_integer ["value", "low", "high"] (spInt K) := by
  refine T.F_is_integer.ok sc_is_integer (fun vs H Q E h => ?_) (fun cdv A_ outer s_ H vs Q E hr h => ?_)
  · obtain ⟨v, lo, hi, rfl, _⟩ := h
    rfl
  · obtain ⟨v, lo, hi, rfl, q⟩ := h
    refine ⟨_, (pss_one (ps_ret (pe_and (pe_callB call_isi (by rfl) T.b_isinstance (by decide +kernel) (pa_cons (pv 0) (pa_cons (pe_bltn (v := .ty "int") rfl T.b_int (by decide +kernel) rfl) pa_nil))) (pe_and (pe_not (pe_callB call_isi (by rfl) T.b_isinstance (by decide +kernel) (pa_cons (pv 0) (pa_cons (pe_bltn (v := .ty "bool") rfl T.b_bool (by decide +kernel) rfl) pa_nil)))) (pe_one (pe_chain op_le op_le (pv 1) (pv 0) (pv 2))))))), ?_⟩
    rcases q with ⟨k, rfl, q⟩ | ⟨t, b, ty, kt, kb, q⟩
    · walk_at "rd"
      refine ifB (fun c => ?_) (fun c => ?_)
      · rw [c] at q
        walk_at "rd"
        exact q
      · rw [c] at q
        exact q
    · walk_at "rd"
      refine ⟨_, _, _, _, _, rfl, .ty _, ty, kit_ty kt, ?_⟩
      walk_at "rd"
      cases b
      · exact q
      · refine ifT rfl ?_
        walk_at "rd"
        refine ⟨_, _, _, _, _, rfl, .ty _, ty, kit_ty (kb rfl), ?_⟩
        walk_at "rd"
        exact q
end
end K01
namespace K01
open PySem PySem.Spec PyProof.Rows L2 FR TL
open C8 (pss_cut pe_gc)
theorem vrev : ∀ {xs : List V} {us : List Value}, Vals xs us → Vals xs.reverse us.reverse
  | _, _, .nil => .nil
  | x :: xs, u :: us, .cons r t => by rw [List.reverse_cons, List.reverse_cons]; exact (vrev t).append (.cons r .nil)
section
variable {P : Program} {w : World} {K : PySem.W.Frag} {mg : Str → Option Value} {base : Heap} {A : Ads}
set_option pp.maxSteps 120
theorem kbi (T : Txt K mg A) : KBn K A.d_is_integer ["value", "low", "high"] 0 ["high", "low", "value"] (fun us ws => ws.reverse) (fun vs zs => zs.reverse) :=
  kbF (ps := ["value", "low", "high"]) T.F_is_integer 0 ["high", "low", "value"] (fun us ws => ws.reverse) (fun a b => vrev b) fun kV doc pm an cdv ct us ws l1 l2 => match us, ws, l1, l2 with
    | [], [_, _, _], _, _ => rfl
def spIR : Sp := fun vs H Q _ => ∃ (b : Addr) (n : Nat) (x y z : Int), vs = [.ref b] ∧ H b = some (bagO x y z) ∧ BagOk n x y z ∧ n < 900000 ∧
  ∀ (x' y' z' : Int) (H' : Hp), BagOk (n + 4) x' y' z' → Keep [b] H H' → H' b = some (bagO x' y' z') → Q (.bl true) H'
theorem ok_integers_right (T : Txt K mg A) : FnOk P w K mg base CX0 2 A.f_integers_right A.d_integers_right ["_law_bag_here"] spIR := by
  refine T.F_integers_right.ok sc_integers_right (fun vs H Q E h => ?_) (fun cdv A_ outer s_ H vs Q E hr h => ?_)
  · obtain ⟨b, n, x, y, z, rfl, _⟩ := h
    rfl
  · obtain ⟨b, n, x, y, z, rfl, hb, ok, hn, q⟩ := h
    have W := Ow.start1 hb
    have kb_is_integer_0_high_low_value := kbi T
    refine ⟨_, (pss_cons (ps_set (i := 1) sc_integers_right.nd rfl (.inl rfl) (pe_lstN (pa_cons (pe_op op_sub (pe_call (ok_take T) hr (by rfl) T.g_take T.F_take.kp T.B_take .nil pass0 (pa_cons (pv 0) (pa_cons pe_int pa_nil))) pe_int) (pa_cons (pe_op op_mul (pe_call (ok_take T) hr (by rfl) T.g_take T.F_take.kp T.B_take .nil pass0 (pa_cons (pv 0) (pa_cons (pe_op op_pow pe_int pe_int) pa_nil))) (pe_op op_pow pe_int pe_int)) (pa_cons (pe_un un_neg pe_int) (pa_cons pe_int (pa_cons pe_int pa_nil)))))))
  (pss_cons (ps_par (i := 2) (j := 3) (by rfl) sc_integers_right.nd rfl rfl (by decide) rfl rfl (pa_cons (pe_ix ix_list (pv 1) (pe_call (ok_take T) hr (by rfl) T.g_take T.F_take.kp T.B_take .nil pass0 (pa_cons (pv 0) (pa_cons pe_int pa_nil))) (fun _ _ => rfl)) (pa_cons (pe_ix ix_list (pv 1) (pe_call (ok_take T) hr (by rfl) T.g_take T.F_take.kp T.B_take .nil pass0 (pa_cons (pv 0) (pa_cons pe_int pa_nil))) (fun _ _ => rfl)) pa_nil)) (by rfl))
  (pss_cons (ps_set (i := 4) sc_integers_right.nd rfl (.inl rfl) (pe_lstN (pa_cons (pe_op op_sub (pv 2) pe_int) (pa_cons (pv 2) (pa_cons (pe_op op_add (pv 2) pe_int) (pa_cons (pe_op op_sub (pv 3) pe_int) (pa_cons (pv 3) (pa_cons (pe_op op_add (pv 3) pe_int) (pa_cons (pe_op op_sub pe_int (pe_op op_pow pe_int pe_int)) (pa_cons (pe_op op_pow pe_int pe_int) (pa_cons pe_bl (pa_cons pe_bl (pa_cons pe_non (pa_cons pe_str (pa_cons (pe_lstN (pa_cons pe_int pa_nil)) pa_nil)))))))))))))))
  (pss_cons (ps_for PassesOwn.never rfl (pi_list (pv 4)) (pg_name (i := 5) sc_integers_right.nd rfl (.inl rfl)) (pss_cons (ps_set (i := 6) sc_integers_right.nd rfl (.inl rfl) (pe_and (pe_callB call_isi (by rfl) T.b_isinstance (by decide +kernel) (pa_cons (pv 5) (pa_cons (pe_bltn (v := .ty "int") rfl T.b_int (by decide +kernel) rfl) pa_nil))) (pe_and (pe_not (pe_callB call_isi (by rfl) T.b_isinstance (by decide +kernel) (pa_cons (pv 5) (pa_cons (pe_bltn (v := .ty "bool") rfl T.b_bool (by decide +kernel) rfl) pa_nil)))) (pe_and (pe_cmpR op_le (pv 2) (pv 5) (nomark _)) (pe_one (pe_cmpR op_le (pv 5) (pv 3) (nomark _)))))))
  (pss_cons (ps_set (i := 7) sc_integers_right.nd rfl (.inl rfl) (pe_callN0 (ok_is_integer T) hr (by rfl) T.g_is_integer T.F_is_integer.kp kb_is_integer_0_high_low_value pass0 (pk_cons (pv 3) (pk_cons (pv 2) (pk_cons (pv 5) pk_nil)))))
  (pss_one (ps_if (PW.pt (pw_or (pt_not (pt_val (pe_callB call_isi (by rfl) T.b_isinstance (by decide +kernel) (pa_cons (pv 7) (pa_cons (pe_bltn (v := .ty "bool") rfl T.b_bool (by decide +kernel) rfl) pa_nil))))) (pw_or1 (pt_cmpR op_ne (pv 7) (pv 6) (nomark _))))) (pss_one (ps_ret pe_bl)) pss_nil)))))
  (pss_one (ps_ret pe_bl)))))), ?_⟩
    walk_at "rd"
    walk_at "take"
    rename_i d1 x1 y1 z1 H1 d10 d11 ok1 kp1 hb1 W1
    walk_at "rd"
    walk_at "take"
    rename_i d2 x2 y2 z2 H2 d20 d21 ok2 kp2 hb2 W2
    walk_at "rd"
    have d22 : d2 < 100000000 := by
      rw [show (10 : Int) ^ Int.toNat 8 = 100000000 by decide +kernel] at d21
      exact d21
    refine ⟨.inl ⟨by omega, by omega⟩, ?_⟩
    walk_at "rd"
    rename_i p3 H3 np3 kp3 hp3 W3
    walk_at "take"
    rename_i d4 x4 y4 z4 H4 d40 d41 ok4 kp4 hb4 W4
    obtain ⟨v, hv, hm⟩ := atI_in (xs := [V.int (d1 - 10), V.int (d2 * 10 ^ Int.toNat 21), V.int (-7), V.int 0, V.int 1]) d40 d41
    obtain ⟨lo, rfl⟩ : ∃ j, v = .int j := by
      simp at hm
      rcases hm with rfl | rfl | rfl | rfl | rfl <;> exact ⟨_, rfl⟩
    refine ⟨_, _, _, _, rfl, rfl, W4.sq 0 rfl, hv, ?_⟩
    walk_at "rd"
    walk_at "take"
    rename_i d5 x5 y5 z5 H5 d50 d51 ok5 kp5 hb5 W5
    obtain ⟨v, hv, hm⟩ := atI_in (xs := [V.int (d1 - 10), V.int (d2 * 10 ^ Int.toNat 21), V.int (-7), V.int 0, V.int 1]) d50 d51
    obtain ⟨hi, rfl⟩ : ∃ j, v = .int j := by
      simp at hm
      rcases hm with rfl | rfl | rfl | rfl | rfl <;> exact ⟨_, rfl⟩
    refine ⟨_, _, _, _, rfl, rfl, W5.sq 0 rfl, hv, ?_⟩
    walk_at "rd"
    rename_i p6 H6 np6 kp6 hp6 W6 p7 H7 np7 kp7 hp7 W7
    obtain ⟨xs, hs7, hxs⟩ : ∃ xs, SqL K H7 p7 xs ∧ ∀ x ∈ xs, (∃ k, x = .int k) ∨ ∃ t b, TyX K H7 x (.type t) ∧ kitB t "int" = some b ∧ (b = true → kitB t "bool" = some true) := by
      refine ⟨_, W7.sq 0 rfl, fun x hx => ?_⟩
      simp at hx
      rcases hx with rfl | rfl | rfl | rfl | rfl | rfl | rfl | rfl | rfl | rfl | rfl | rfl | rfl
      · exact .inl ⟨_, rfl⟩
      · exact .inl ⟨_, rfl⟩
      · exact .inl ⟨_, rfl⟩
      · exact .inl ⟨_, rfl⟩
      · exact .inl ⟨_, rfl⟩
      · exact .inl ⟨_, rfl⟩
      · exact .inl ⟨_, rfl⟩
      · exact .inl ⟨_, rfl⟩
      · exact .inr ⟨_, _, .base (.bl _), ki_bl_int, fun _ => ki_bl_bool⟩
      · exact .inr ⟨_, _, .base (.bl _), ki_bl_int, fun _ => ki_bl_bool⟩
      · exact .inr ⟨_, _, .base .non, ki_non_int, fun e => by cases e⟩
      · exact .inr ⟨_, _, .base (.str _), ki_str_int, fun e => by cases e⟩
      · exact .inr ⟨_, _, .base (.lst (W7.get 1 rfl)), ki_lst_int, fun e => by cases e⟩
    refine ⟨⟨_, hs7⟩, ?_⟩
    refine for_li (a := p7) (xs := xs) (fun pre σ H' => (∃ y5 y6 y7, σ = [some (.ref b), some (.ref p3), some (.int lo), some (.int hi), some (.ref p7), y5, y6, y7]) ∧ H7 = H') ⟨⟨_, _, _, rfl⟩, rfl⟩ ?_ ?_ ?_
    · rintro pre post σ H8 e ⟨_, rfl⟩
      exact hs7
    · rintro pre x post σ H8 e ⟨⟨y5, y6, y7, rfl⟩, rfl⟩
      have hx := hxs x (by rw [e]; simp)
      rcases hx with ⟨k, rfl⟩ | ⟨t, b1, ty, kt, kb⟩
      · walk_at "rd"
        refine ifB (fun c => ?_) (fun c => ?_)
        · walk_at "rd"
          refine ⟨_, _, _, rfl, .inl ⟨k, rfl, ?_⟩⟩
          rw [c, Bool.true_and]
          walk_at "rd"
          refine ifN (fun z => absurd rfl z) (fun _ => ?_)
          walk_at "rd"
          exact ⟨⟨_, _, _, rfl⟩, rfl⟩
        · walk_at "rd"
          refine ⟨_, _, _, rfl, .inl ⟨k, rfl, ?_⟩⟩
          rw [c, Bool.false_and]
          walk_at "rd"
          exact ⟨⟨_, _, _, rfl⟩, rfl⟩
      · walk_at "rd"
        refine ⟨_, _, _, _, _, rfl, .ty _, ty, kit_ty kt, ?_⟩
        walk_at "rd"
        cases b1
        · refine ifF rfl ?_
          walk_at "rd"
          refine ⟨_, _, _, rfl, .inr ⟨t, false, ty, kt, kb, ?_⟩⟩
          walk_at "rd"
          exact ⟨⟨_, _, _, rfl⟩, rfl⟩
        · refine ifT rfl ?_
          walk_at "rd"
          refine ⟨_, _, _, _, _, rfl, .ty _, ty, kit_ty (kb rfl), ?_⟩
          walk_at "rd"
          refine ⟨_, _, _, rfl, .inr ⟨t, true, ty, kt, kb, ?_⟩⟩
          walk_at "rd"
          exact ⟨⟨_, _, _, rfl⟩, rfl⟩
    · rintro σ H8 ⟨⟨y5, y6, y7, rfl⟩, rfl⟩
      walk_at "rd"
      exact q _ _ _ _ ok5 W7.keep (W7.get 3 rfl)
end
end K01
namespace K01
open PySem PySem.Spec PyProof.Rows L2 FR TL
open C8 (pss_cut pe_gc)
theorem slash : Str.ofString "/" = ⟨#[47]⟩ := by decide +kernel
theorem cut_hd (s : Str) : tl (cutS s none (some 1)) = (tl s).take 1 := by
  rw [tl_cutS]
  show ((tl s).drop 0).take (HT.sIx s.length s.length (some ((1 : Nat) : Int)) - 0) = _
  rw [HT.sIx_nat, len_tl]
  cases tl s with
  | nil => simp
  | cons c r => rw [List.length_cons, show min 1 (r.length + 1) = 1 by omega]; rfl
theorem cut_tl (s : Str) : tl (cutS s (some 1) none) = (tl s).drop 1 := by
  rw [tl_cutS]
  show ((tl s).drop (HT.sIx s.length 0 (some ((1 : Nat) : Int)))).take (s.length - HT.sIx s.length 0 (some ((1 : Nat) : Int))) = _
  rw [HT.sIx_nat, len_tl]
  cases tl s with
  | nil => simp
  | cons c r => rw [List.length_cons, show min 1 (r.length + 1) = 1 by omega]; simp
theorem cutV_tl (xs : List V) : cutV xs (some 1) none = xs.drop 1 := by
  show (xs.drop (HT.sIx xs.length 0 (some ((1 : Nat) : Int)))).take (xs.length - HT.sIx xs.length 0 (some ((1 : Nat) : Int))) = _
  rw [HT.sIx_nat]
  cases xs with
  | nil => simp
  | cons c r => rw [List.length_cons, show min 1 (r.length + 1) = 1 by omega]; simp
theorem hd_eq (s : Str) : cutS s none (some 1) = Str.ofString "/" ↔ Txt.startswith s ⟨#[47]⟩ = true := by
  rw [starts_one, slash]
  constructor
  · intro h
    have := congrArg tl h
    rw [cut_hd] at this
    cases e : tl s with
    | nil => rw [e] at this; cases this
    | cons c r =>
      rw [e] at this
      have : c = 47 := (List.cons.inj (show [c] = [47] from this)).1
      rw [this]; rfl
  · intro h
    refine ext_tl ?_
    rw [cut_hd]
    cases e : tl s with
    | nil => rw [e] at h; cases h
    | cons c r =>
      rw [e] at h
      have : c = 47 := by simpa using h
      rw [this]; rfl
theorem split_from {s : Str} (h : Txt.startswith s ⟨#[47]⟩ = true) : (Txt.split s ⟨#[47]⟩).drop 1 = Txt.split (cutS s (some 1) none) ⟨#[47]⟩ := by
  rw [starts_one] at h
  refine map_tl_inj ?_
  rw [List.map_drop, split_tl _ (by decide), split_tl _ (by decide), cut_tl]
  cases e : tl s with
  | nil => rw [e] at h; cases h
  | cons c r =>
    rw [e] at h
    have : c = 47 := by simpa using h
    rw [this, spl_hit (by rw [pre_one]; rfl)]
    rfl
theorem spl_le : ∀ (l acc : List Nat) (c : Nat), ∀ p ∈ spl [c] 0 acc l, p.length ≤ acc.length + l.length
  | [], acc, c, p, hp => by
    rw [spl_nil] at hp
    rw [List.mem_singleton.mp hp]
    exact Nat.le_add_right _ _
  | x :: r, acc, c, p, hp => by
    by_cases e : pre [c] (x :: r) = true
    · rw [spl_hit e] at hp
      rcases List.mem_cons.mp hp with rfl | hp
      · exact Nat.le_add_right _ _
      · have := spl_le r [] c p hp
        rw [List.length_cons]
        have h0 : ([] : List Nat).length = 0 := rfl
        omega
    · rw [spl_miss (by simpa using e)] at hp
      have := spl_le r (acc ++ [x]) c p hp
      rw [List.length_append] at this
      rw [List.length_cons]
      have h0 : [x].length = 1 := rfl
      omega
theorem split_le {s : Str} {c : Nat} (h : c < 256) : ∀ w ∈ Txt.split s ⟨#[c]⟩, w.length ≤ s.length := fun w hw => by
  have : tl w ∈ (Txt.split s ⟨#[c]⟩).map tl := List.mem_map_of_mem hw
  rw [split_tl s h] at this
  have := spl_le (tl s) [] c _ this
  rw [len_tl, len_tl s]
  simpa using this
/-- a path: / alone, or / and names with / between them -/
def pth (s : Str) : Bool := Txt.startswith s ⟨#[47]⟩ && (decide (s = ⟨#[47]⟩) || ((Txt.split s ⟨#[47]⟩).drop 1).all nm)
section
variable {P : Program} {w : World} {K : PySem.W.Frag} {mg : Str → Option Value} {base : Heap} {A : Ads}
set_option pp.maxSteps 120
def spPath (K : PySem.W.Frag) : Sp := fun vs H Q _ => ∃ v, vs = [v] ∧ Thing K H v (fun s => ∀ H', Keep [] H H' → Q (.bl (pth s)) H') (Q (.bl false) H)
theorem ok_is_path (T : Txt K mg A) : FnOk P w K mg base CX0 2 A.f_is_path A.d_is_path ["value"] (spPath K) := by
  refine T.F_is_path.ok sc_is_path (fun vs H Q E h => ?_) (fun cdv A_ outer s_ H vs Q E hr h => ?_)
  · obtain ⟨v, rfl, _⟩ := h
    rfl
  · obtain ⟨v, rfl, q⟩ := h
    have W : Ow H [] H [] := Ow.start0
    refine ⟨_, (pss_cons (ps_if (PW.pt (pw_or (pt_not (pt_val (pe_callB call_isi (by rfl) T.b_isinstance (by decide +kernel) (pa_cons (pv 0) (pa_cons (pe_bltn (v := .ty "str") rfl T.b_str (by decide +kernel) rfl) pa_nil))))) (pw_or1 (pt_not (pt_val (pe_m1 PySem.F.slot_str_startswith PySem.F.type_str_startswith mt_startswith (pv 0) pe_str)))))) (pss_one (ps_ret pe_bl)) pss_nil)
  (pss_one (ps_ret (pe_or (pe_cmpR op_eq (pv 0) pe_str (nomark _)) (pe_one (pe_callB (cr_all rfl) (by rfl) T.b_all (by decide +kernel) (pa_cons (pe_lc (own := [("part", 1)]) (g := gName 1) rfl sc_is_path.nd (pi_list (pe_slice sl_listN (pe_m1 PySem.F.slot_str_split PySem.F.type_str_split mt_splN (pv 0) pe_str) (po_some pe_int) po_none)) (blkOk_by (own := [("part", 1)]) (N := N_is_path) (sc := defScope s_is_path) (by decide +kernel)) (fun _ _ _ _ _ => pg_name (i := 1) sc_is_path.nd rfl (Or.inl rfl)) (fun _ _ _ _ _ => pts_nil) (fun _ _ _ _ _ => (pe_call (ok_is_name T) hr (by rfl) T.g_is_name T.F_is_name.kp T.B_is_name .nil pass0 (pa_cons (pv 1) pa_nil)))) pa_nil))))))), ?_⟩
    rcases q with ⟨s, rfl, hl, ha, q⟩ | ⟨⟨t, ty, kt⟩, q⟩
    · have hz : s.length ≤ sizeLine := size_le (by omega)
      unfold pth at q
      walk_at "rd"
      refine ifNB (b := Txt.startswith s (Str.ofString "/")) (fun c => ?_) (fun c => ?_)
      · walk_at "rd"
        rw [slash] at c
        rw [c] at q
        exact q H Keep.refl
      rw [slash] at c
      rw [c] at q
      walk_at "rd"
      refine ifVS (fun e => ?_) (fun e => ?_)
      · rw [decide_eq_true (e.trans slash)] at q
        exact q H Keep.refl
      rw [decide_eq_false (fun h => e (h.trans slash.symm))] at q
      walk_at "rd"
      rename_i p1 H1 np1 kp1 hp1 W1
      refine ⟨_, _, rfl, W1.sq 0 rfl, ?_⟩
      rw [cutV_tl, slash, ← List.map_drop]
      have hpl : ∀ x ∈ (Txt.split s ⟨#[47]⟩).drop 1, x.length ≤ s.length ∧ Asc x := fun x hx => ⟨split_le (by decide) x (List.mem_of_mem_drop hx), split_asc (by decide) ha x (List.mem_of_mem_drop hx)⟩
      have hpn : ((Txt.split s ⟨#[47]⟩).drop 1).length ≤ s.length + 1 := by
        rw [List.length_drop]
        have := split_len (s := s) (c := 47) (by decide)
        omega
      generalize (Txt.split s ⟨#[47]⟩).drop 1 = ps at q hpl hpn
      walk_at "obj"
      rename_i p2 H2 np2 kp2 hp2 W2
      refine ⟨_, rfl, ⟨_, W2.sq 0 rfl⟩, fun D hD => ?_⟩
      refine lc_li (a := p2) (xs := ps.map V.str) (fun pre H' => ∃ ws : List Str, pre = ws.map V.str ∧ Ow H [] H' [(D, .lst ((ws.map nm).map V.bl)), (p2, .lst (ps.map V.str)), (p1, _)]) ⟨[], rfl, W2.new hD⟩ ?_ ?_ ?_
      · rintro pre post H3 e ⟨ws, _, W3⟩
        exact W3.sq 1 rfl
      · rintro pre x post H3 e ⟨ws, rfl, W3⟩
        obtain ⟨u, hu, rfl⟩ := List.mem_map.mp (show x ∈ ps.map V.str by rw [e]; simp)
        have hwl : ws.length ≤ ps.length := by
          have := congrArg List.length e
          rw [List.length_append, List.length_map, List.length_map] at this
          omega
        walk_at "rd"
        refine .inl ⟨u, rfl, by have := (hpl u hu).1; omega, (hpl u hu).2, ?_⟩
        refine ⟨_, W3.get 0 rfl, size_ok (by rw [List.length_map, List.length_map]; omega), ws ++ [u], by rw [List.map_append]; rfl, ?_⟩
        rw [List.map_append, List.map_append]
        exact W3.set 0 rfl
      · rintro H3 ⟨ws, e, W3⟩
        have e' : ps = ws := by
          have : ps.map V.str = ws.map V.str := e
          exact (List.map_inj_right (fun a b h => V.str.inj h)).mp this
        subst e'
        refine ⟨_, _, rfl, W3.sq 0 rfl, ?_⟩
        rw [List.all_map]
        exact q H3 W3.keep
    · walk_at "rd"
      refine ⟨_, _, _, _, _, rfl, .ty _, ty, kit_ty kt, ?_⟩
      walk_at "rd"
      exact q
theorem ok_l_is_path (T : Txt K mg A) : FnOk P w K mg base CX0 2 A.f_l_is_path A.d_l_is_path ["_law_thing"] (spPath K) := by
  refine T.F_l_is_path.ok sc_l_is_path (fun vs H Q E h => ?_) (fun cdv A_ outer s_ H vs Q E hr h => ?_)
  · obtain ⟨v, rfl, _⟩ := h
    rfl
  · obtain ⟨v, rfl, q⟩ := h
    have W : Ow H [] H [] := Ow.start0
    refine ⟨_, (pss_cons (ps_if (PW.pt (pw_or (pt_not (pt_val (pe_callB call_isi (by rfl) T.b_isinstance (by decide +kernel) (pa_cons (pv 0) (pa_cons (pe_bltn (v := .ty "str") rfl T.b_str (by decide +kernel) rfl) pa_nil))))) (pw_or1 (pt_cmpR op_ne (pe_slice sl_str (pv 0) po_none (po_some pe_int)) pe_str (nomark _))))) (pss_one (ps_ret pe_bl)) pss_nil)
  (pss_cons (ps_par (i := 1) (j := 2) (by rfl) sc_l_is_path.nd rfl rfl (by decide) rfl rfl (pa_cons pe_str (pa_cons (pe_lstN pa_nil) pa_nil)) (by rfl))
  (pss_cons (ps_for PassesOwn.never rfl (pi_str (pe_slice sl_str (pv 0) (po_some pe_int) po_none)) (pg_name (i := 3) sc_l_is_path.nd rfl (.inl rfl)) (pss_one (ps_if (pt_cmpR op_eq (pv 3) pe_str (nomark _)) (pss_cons (ps_expr (pe_bm PySem.F.plainAttrs_list PySem.F.slot_list_append PySem.F.type_list_append mt_appN (pv 2) (pa_cons (pv 1) pa_nil)))
  (pss_one (ps_set (i := 1) sc_l_is_path.nd rfl (.inl rfl) pe_str))) (pss_one (ps_set (i := 1) sc_l_is_path.nd rfl (.inl rfl) (pe_op op_add_str (pv 1) (pv 3)))))))
  (pss_one (ps_ret (pe_or (pe_cmpR op_eq (pv 0) pe_str (nomark _)) (pe_one (pe_cmpR (op_eqD hr.units) (pe_lc (own := [("_law_one", 4)]) (g := gName 4) rfl sc_l_is_path.nd (pi_list (pe_op op_catN (pv 2) (pe_lstN (pa_cons (pv 1) pa_nil)))) (blkOk_by (own := [("_law_one", 4)]) (N := N_l_is_path) (sc := defScope s_l_is_path) (by decide +kernel)) (fun _ _ _ _ _ => pg_name (i := 4) sc_l_is_path.nd rfl (Or.inl rfl)) (fun _ _ _ _ _ => (pts_one (pt_not (pt_val (pe_call (ok_is_word T) hr (by rfl) T.g_is_word T.F_is_word.kp T.B_is_word .nil pass0 (pa_cons (pv 4) pa_nil)))))) (fun _ _ _ _ _ => (pv 4))) (pe_lstN pa_nil) (nomark _))))))))), ?_⟩
    rcases q with ⟨s, rfl, hl, ha, q⟩ | ⟨⟨t, ty, kt⟩, q⟩
    · have hz : s.length ≤ sizeLine := size_le (by omega)
      unfold pth at q
      walk_at "rd"
      refine ifVSn (fun c => ?_) (fun c => ?_)
      · walk_at "rd"
        rw [show Txt.startswith s ⟨#[47]⟩ = false by rw [← Bool.not_eq_true]; exact fun h => c ((hd_eq s).mpr h)] at q
        exact q H Keep.refl
      have c1 := (hd_eq s).mp c
      rw [c1, split_from c1] at q
      have hcl := cutS_len s (some 1) none
      have hca := ha.cut (some 1) none
      generalize hrr : cutS s (some 1) none = r at q hcl hca
      have hlr := len_tl r
      walk_at "rd"
      rename_i p H1 np kp hp W1
      rw [hrr]
      refine for_str (s := r) (fun pre σ H' => ∃ (u : Str) (ws : List Str) (y4 y5 : Option V), σ = [some (.str s), some (.str u), some (.ref p), y4, y5] ∧ u.length ≤ pre.length ∧ ws.length ≤ pre.length ∧
        (∀ post, tl r = pre ++ post → spl [47] 0 [] (tl r) = ws.map tl ++ spl [47] 0 (tl u) post) ∧ Ow H [] H' [(p, .lst (ws.map V.str))]) ?_ ?_ ?_
      · exact ⟨Str.ofString "", [], none, none, rfl, by decide +kernel, by simp, fun post e => by rw [e]; rfl, W1⟩
      · rintro pre d post σ H2 e ⟨u, ws, y4, y5, rfl, hu, hws, hv, W2⟩
        have hv' := hv _ e
        have hpre : pre.length ≤ (tl r).length := by rw [e, List.length_append]; omega
        walk_at "rd"
        refine ifVS (fun e1 => ?_) (fun e1 => ?_)
        · have e1' := chr_inj (e1.trans slash)
          subst e1'
          walk_at "rd"
          rename_i H3 kp3 hp3 W3
          refine ⟨Str.ofString "", ws ++ [u], _, _, rfl, by rw [show (Str.ofString "").length = 0 by decide +kernel]; exact Nat.zero_le _, by rw [List.length_append, List.length_append]; exact Nat.add_le_add_right hws 1, fun post' e' => ?_, ?_⟩
          · have : post' = post := by
              rw [e, List.append_assoc] at e'
              exact (List.cons.inj (List.append_cancel_left e')).2.symm
            rw [this, hv', spl_hit (by rw [pre_one]; exact decide_eq_true rfl), List.map_append, List.append_assoc]
            rfl
          · rw [List.map_append]; exact W3
        · have e1' : d ≠ 47 := fun z => e1 (by rw [z, slash])
          walk_at "rd"
          refine ⟨u ++ ⟨#[d]⟩, ws, _, _, rfl, by rw [len_app, List.length_append]; exact Nat.add_le_add_right hu 1, by rw [List.length_append]; omega, fun post' e' => ?_, W2⟩
          have : post' = post := by
            rw [e, List.append_assoc] at e'
            exact (List.cons.inj (List.append_cancel_left e')).2.symm
          rw [this, hv', spl_miss (by rw [pre_one]; exact decide_eq_false e1'), tl_append]
      · rintro σ H2 ⟨u, ws, y4, y5, rfl, hu, hws, hv, W2⟩
        have hv' := hv [] (by simp)
        rw [spl_nil, show [tl u] = [u].map tl from rfl, ← List.map_append, ← split_tl r (by decide : 47 < 256)] at hv'
        have hw := map_tl_inj hv'
        walk_at "rd"
        refine ifVS (fun e => ?_) (fun e => ?_)
        · rw [decide_eq_true (e.trans slash)] at q
          exact q H2 W2.keep
        rw [decide_eq_false (fun h => e (h.trans slash.symm))] at q
        have hpl : ∀ x ∈ Txt.split r ⟨#[47]⟩, x.length ≤ r.length ∧ Asc x := fun x hx => ⟨split_le (by decide) x hx, split_asc (by decide) hca x hx⟩
        have hpn : (Txt.split r ⟨#[47]⟩).length ≤ r.length + 1 := split_len (by decide)
        have hxs : ws.map V.str ++ [V.str u] = (Txt.split r ⟨#[47]⟩).map V.str := by rw [hw, List.map_append]; rfl
        generalize Txt.split r ⟨#[47]⟩ = ps at q hpl hpn hxs
        walk_at "rd"
        rename_i p3 H3 np3 kp3 hp3 W3
        have hsz : (ws.map V.str).length + [V.str u].length ≤ sizeLine := by
          have h9 := congrArg List.length hxs
          rw [List.length_append] at h9
          rw [h9, List.length_map]
          exact size_le (by omega)
        refine ⟨_, _, _, _, rfl, rfl, W3.get 1 rfl, W3.get 0 rfl, hsz, ?_⟩
        rw [hxs]
        walk_at "obj"
        rename_i p4 H4 np4 kp4 hp4 W4
        refine ⟨_, rfl, ⟨_, W4.sq 0 rfl⟩, fun D hD => ?_⟩
        refine lc_li (a := p4) (xs := ps.map V.str) (fun pre H' => ∃ vs : List Str, pre = vs.map V.str ∧ Ow H [] H' [(D, .lst ((vs.filter (fun z => !nm z)).map V.str)), (p4, .lst (ps.map V.str)), (p3, _), (p, _)]) ⟨[], rfl, W4.new hD⟩ ?_ ?_ ?_
        · rintro pre post H5 e ⟨vs, _, W5⟩
          exact W5.sq 1 rfl
        · rintro pre x post H5 e ⟨vs, rfl, W5⟩
          obtain ⟨v, hv, rfl⟩ := List.mem_map.mp (show x ∈ ps.map V.str by rw [e]; simp)
          have hwl : vs.length ≤ ps.length := by
            have := congrArg List.length e
            rw [List.length_append, List.length_map, List.length_map] at this
            omega
          have hfl := List.length_filter_le (fun z => !nm z) vs
          walk_at "rd"
          refine .inl ⟨v, rfl, by have := (hpl v hv).1; omega, (hpl v hv).2, fun H6 k6 => ?_⟩
          have W6 := W5.call0 k6
          walk_at "rd"
          refine ifNB (b := nm v) (fun c5 => ?_) (fun c5 => ?_)
          · walk_at "rd"
            refine ⟨_, W6.get 0 rfl, size_ok (by rw [List.length_map]; omega), vs ++ [v], by rw [List.map_append]; rfl, ?_⟩
            rw [List.filter_append, List.filter_cons, if_pos (by rw [c5]; rfl), List.map_append]
            exact W6.set 0 rfl
          · refine ⟨vs ++ [v], by rw [List.map_append]; rfl, ?_⟩
            rw [List.filter_append, List.filter_cons, if_neg (by rw [c5]; decide), List.filter_nil, List.append_nil]
            exact W6
        · rintro H5 ⟨vs, e, W5⟩
          have e' : ps = vs := by
            have : ps.map V.str = vs.map V.str := e
            exact (List.map_inj_right (fun a b h => V.str.inj h)).mp this
          subst e'
          have hn : ps.all nm = decide (ps.filter (fun z => !nm z) = []) := by
            rw [Bool.eq_iff_iff, decide_eq_true_eq, List.all_eq_true, List.filter_eq_nil_iff]
            simp
          rw [hn] at q
          walk_at "rd"
          rename_i p6 H6 np6 kp6 hp6 W6
          refine ⟨dStrs (ps.filter (fun z => !nm z)), dStrs [], dp_strs (W6.sq 1 rfl), dp_strs (ws := []) (W6.sq 0 rfl), shaped_strs (fun z hz => (hpl z (List.mem_filter.mp hz).1).2), shaped_strs (by simp), ?_⟩
          rw [eqv_nil]
          exact q H6 W6.keep
    · walk_at "rd"
      refine ⟨_, _, _, _, _, rfl, .ty _, ty, kit_ty kt, ?_⟩
      walk_at "rd"
      exact q
end
end K01
namespace K01
open PySem PySem.Spec PyProof.Rows L2 FR TL
open C8 (pss_cut pe_gc)
section
variable {P : Program} {w : World} {K : PySem.W.Frag} {mg : Str → Option Value} {base : Heap} {A : Ads}
set_option pp.maxSteps 120
def letters : Str := Str.ofString "abcdefghijklmnopqrstuvwxyz"
def signs : Str := Str.ofString "`{AZ09/_-. \n!\"#$&'()*+,:;<=>?\x40[]^|}~\\"
def spWord : Sp := fun vs H Q _ => ∃ (b : Addr) (n : Nat) (clean : Bool) (x y z : Int), vs = [.ref b, .bl clean] ∧ H b = some (bagO x y z) ∧ BagOk n x y z ∧ n < 900000 ∧
  ∀ (s : Str) (x' y' z' : Int) (H' : Hp), s.length ≤ 21 → Asc s → BagOk (n + 20) x' y' z' → Keep [b] H H' → H' b = some (bagO x' y' z') → Q (.str s) H'
theorem ok_word (T : Txt K mg A) : FnOk P w K mg base CX0 2 A.f_word A.d_word ["_law_bag_here", "_law_clean"] spWord := by
  refine T.F_word.ok sc_word (fun vs H Q E h => ?_) (fun cdv A_ outer s_ H vs Q E hr h => ?_)
  · obtain ⟨b, n, clean, x, y, z, rfl, _⟩ := h
    rfl
  · obtain ⟨b, n, clean, x, y, z, rfl, hb, ok, hn, q⟩ := h
    have W := Ow.start1 hb
    refine ⟨_, (pss_cons (ps_set (i := 2) sc_word.nd rfl (.inr rfl) pe_str)
  (pss_cons (ps_set (i := 3) sc_word.nd rfl (.inl rfl) (pe_join pe_str (pe_lc (own := [("_law_k", 7)]) (g := gName 7) rfl sc_word.nd (pi_range1 (by rfl) T.b_range (pa_cons (pe_ix ix_list (pe_lstN (pa_cons (pe_op op_add pe_int (pe_call (ok_take T) hr (by rfl) T.g_take T.F_take.kp T.B_take .nil pass0 (pa_cons (pv 0) (pa_cons pe_int pa_nil)))) (pa_cons pe_int (pa_cons pe_int (pa_cons pe_int pa_nil))))) (pe_call (ok_take T) hr (by rfl) T.g_take T.F_take.kp T.B_take .nil pass0 (pa_cons (pv 0) (pa_cons pe_int pa_nil))) (fun _ _ => rfl)) pa_nil)) (blkOk_by (own := [("_law_k", 7)]) (N := N_word) (sc := defScope s_word) (by decide +kernel)) (fun _ _ _ _ _ => pg_name (i := 7) sc_word.nd rfl (Or.inl rfl)) (fun _ _ _ _ _ => pts_nil) (fun _ _ _ _ _ => (pe_ix ix_str (pv 2) (pe_call (ok_take T) hr (by rfl) T.g_take T.F_take.kp T.B_take .nil pass0 (pa_cons (pv 0) (pa_cons pe_int pa_nil))) (fun _ _ => rfl))))))
  (pss_cons (ps_if (PW.pt (pw_or (pt_val (pv 1)) (pw_or1 (pt_cmpR op_gt (pe_call (ok_take T) hr (by rfl) T.g_take T.F_take.kp T.B_take .nil pass0 (pa_cons (pv 0) (pa_cons pe_int pa_nil))) pe_int (nomark _))))) (pss_one (ps_ret (pv 3))) pss_nil)
  (pss_cons (ps_set (i := 4) sc_word.nd rfl (.inl rfl) (pe_call (ok_take T) hr (by rfl) T.g_take T.F_take.kp T.B_take .nil pass0 (pa_cons (pv 0) (pa_cons (pe_op op_add (pe_callB call_len_str (by rfl) T.b_len PySem.boot_len (pa_cons (pv 3) pa_nil)) pe_int) pa_nil))))
  (pss_cons (ps_set (i := 5) sc_word.nd rfl (.inl rfl) pe_str)
  (pss_cons (ps_set (i := 6) sc_word.nd rfl (.inl rfl) (pe_ix ix_str (pv 5) (pe_call (ok_take T) hr (by rfl) T.g_take T.F_take.kp T.B_take .nil pass0 (pa_cons (pv 0) (pa_cons (pe_callB call_len_str (by rfl) T.b_len PySem.boot_len (pa_cons (pv 5) pa_nil)) pa_nil))) (fun _ _ => rfl)))
  (pss_one (ps_ret (pe_op op_add_str (pe_op op_add_str (pe_slice sl_str (pv 3) po_none (po_some (pv 4))) (pv 6)) (pe_slice sl_str (pv 3) (po_some (pe_op op_add (pv 4) (pe_call (ok_take T) hr (by rfl) T.g_take T.F_take.kp T.B_take .nil pass0 (pa_cons (pv 0) (pa_cons pe_int pa_nil))))) po_none)))))))))), ?_⟩
    walk_at "rd"
    walk_at "take"
    rename_i d1 x1 y1 z1 H1 d10 d11 ok1 kp1 hb1 W1
    walk_at "rd"
    rename_i p2 H2 np2 kp2 hp2 W2
    walk_at "take"
    rename_i d3 x3 y3 z3 H3 d30 d31 ok3 kp3 hb3 W3
    obtain ⟨v, hv, hm⟩ := atI_in (xs := [V.int (1 + d1), V.int 8, V.int 9, V.int 10]) d30 d31
    obtain ⟨m, rfl, m0, m1⟩ : ∃ m, v = .int m ∧ 1 ≤ m ∧ m ≤ 10 := by
      simp at hm
      rcases hm with rfl | rfl | rfl | rfl
      · exact ⟨_, rfl, by omega, by omega⟩
      · exact ⟨_, rfl, by omega, by omega⟩
      · exact ⟨_, rfl, by omega, by omega⟩
      · exact ⟨_, rfl, by omega, by omega⟩
    refine ⟨_, _, _, _, rfl, rfl, W3.sq 0 rfl, hv, ?_⟩
    walk_at "rd"
    intro D hD
    refine lc_rg (fun i H' => ∃ (l : List Nat) (x y z : Int), l.length = i ∧ (∀ c ∈ l, c < 128) ∧ BagOk (n + 2 + i) x y z ∧ Ow H [b] H' [(D, .lst ((sg l).map V.str)), (p2, .lst [V.int (1 + d1), V.int 8, V.int 9, V.int 10]), (b, bagO x y z)]) ?_ ?_ ?_
    · exact ⟨[], _, _, _, rfl, by simp, ok3.mono (by omega), W3.new hD⟩
    · rintro i H5 hi ⟨l, x5, y5, z5, hl, hl2, ok5, W5⟩
      have hi' : i < 10 := by omega
      have hsz : letters.length ≤ sizeLine := size_le (by decide +kernel)
      have hsl : letters.cps.toList.length = 26 := by decide +kernel
      walk_at "rd"
      walk_at "take"
      rename_i d6 x6 y6 z6 H6 d60 d61 ok6 kp6 hb6 W6
      obtain ⟨e, he, hm⟩ := atI_in (xs := letters.cps.toList) d60 (by rw [hsl]; exact d61)
      have he' : e < 128 := (Asc.of (x := letters) (by decide +kernel)) e hm
      refine ⟨_, _, _, rfl, rfl, hsz, he, ?_⟩
      refine ⟨_, W6.get 0 rfl, size_ok (by rw [List.length_map, sg_len]; omega), l ++ [e], x6, y6, z6, by rw [List.length_append, hl]; rfl, ?_, ok6.mono (by omega), ?_⟩
      · intro d hd
        rcases List.mem_append.mp hd with h | h
        · exact hl2 d h
        · rw [List.mem_singleton.mp h]; exact he'
      · rw [sg_app]
        exact W6.set 0 rfl
    · rintro H7 ⟨l, x7, y7, z7, hl, hl2, ok7, W7⟩
      have hl6 : l.length ≤ 10 := by omega
      walk_at "rd"
      refine ⟨_, _, sg l, rfl, rfl, .inl (W7.sq 0 rfl), by rw [sum_one sg_one, sg_len, show (Str.ofString "").length = 0 by decide +kernel]; omega, ?_⟩
      have hs : (Txt.join (Str.ofString "") (sg l)).length = l.length := by rw [len_tl, tl_joined_sg]
      have ha : Asc (Txt.join (Str.ofString "") (sg l)) := by unfold Asc; rw [tl_joined_sg]; exact hl2
      generalize Txt.join (Str.ofString "") (sg l) = s at hs ha
      have hsz : s.length ≤ sizeLine := size_le (by omega)
      walk_at "rd"
      refine ifB (fun c => ?_) (fun c => ?_)
      · walk_at "rd"
        exact q _ _ _ _ _ (by omega) ha (ok7.mono (by omega)) W7.keep (W7.get 2 rfl)
      walk_at "rd"
      walk_at "take"
      rename_i d8 x8 y8 z8 H8 d80 d81 ok8 kp8 hb8 W8
      walk_at "rd"
      refine ifD (fun c => ?_) (fun c => ?_)
      · walk_at "rd"
        exact q _ _ _ _ _ (by omega) ha (ok8.mono (by omega)) W8.keep (W8.get 2 rfl)
      walk_at "rd"
      walk_at "take"
      rename_i d9 x9 y9 z9 H9 d90 d91 ok9 kp9 hb9 W9
      have hsz9 : signs.length ≤ sizeLine := size_le (by decide +kernel)
      have hsl9 : signs.cps.toList.length = 37 := by decide +kernel
      have hsl8 : signs.length = 37 := by decide +kernel
      walk_at "rd"
      walk_at "take"
      rename_i d10 x10 y10 z10 H10 d100 d101 ok10 kp10 hb10 W10
      have d101' : d10 < (signs.length : Int) := d101
      obtain ⟨e, he, hm⟩ := atI_in (xs := signs.cps.toList) d100 (by rw [hsl9, ← hsl8]; exact d101')
      have he' : e < 128 := (Asc.of (x := signs) (by decide +kernel)) e hm
      refine ⟨_, _, _, rfl, rfl, hsz9, he, ?_⟩
      have l1 := cutS_len s none (some d9)
      have h1 : (⟨#[e]⟩ : Str).length = 1 := rfl
      have l3 : (cutS s none (some d9) ++ ⟨#[e]⟩).length = (cutS s none (some d9)).length + 1 := by rw [len_app, h1]
      walk_at "rd"
      walk_at "take"
      rename_i d11 x11 y11 z11 H11 d110 d111 ok11 kp11 hb11 W11
      have l2 := cutS_len s (some (d9 + d11)) none
      walk_at "rd"
      exact q _ _ _ _ _ (by rw [len_app]; omega) ((((ha.cut _ _).app (Asc.one he')).app (ha.cut _ _))) (ok11.mono (by omega)) W11.keep (W11.get 2 rfl)
end
end K01
namespace K01
open PySem PySem.Spec PyProof.Rows L2 FR TL
open C8 (pss_cut pe_gc)
theorem cut_to (s : Str) (k : Nat) : (cutS s none (some (k : Int))).length ≤ k := by
  rw [len_tl, tl_cutS, HT.sIx_nat, List.length_take, List.length_drop]
  omega
section
variable {P : Program} {w : World} {K : PySem.W.Frag} {mg : Str → Option Value} {base : Heap} {A : Ads}
set_option pp.maxSteps 120
def spRoad : Sp := fun vs H Q _ => ∃ (b : Addr) (n : Nat) (x y z : Int), vs = [.ref b] ∧ H b = some (bagO x y z) ∧ BagOk n x y z ∧ n < 800000 ∧
  ∀ (s : Str) (x' y' z' : Int) (H' : Hp), s.length ≤ 400 → Asc s → BagOk (n + 500) x' y' z' → Keep [b] H H' → H' b = some (bagO x' y' z') → Q (.str s) H'
theorem ok_path (T : Txt K mg A) : FnOk P w K mg base CX0 3 A.f_path A.d_path ["_law_bag_here"] spRoad := by
  refine T.F_path.ok sc_path (fun vs H Q E h => ?_) (fun cdv A_ outer s_ H vs Q E hr h => ?_)
  · obtain ⟨b, n, x, y, z, rfl, _⟩ := h
    rfl
  · obtain ⟨b, n, x, y, z, rfl, hb, ok, hn, q⟩ := h
    have W := Ow.start1 hb
    refine ⟨_, (pss_cons (ps_asg (pe_tupN (pa_cons (pe_cmpR op_gt (pe_call (ok_take T) (hr.mono (by decide)) (by rfl) T.g_take T.F_take.kp T.B_take .nil pass0 (pa_cons (pv 0) (pa_cons pe_int pa_nil))) pe_int (nomark _)) (pa_cons (pe_ix ix_list (pe_lstN (pa_cons (pe_call (ok_take T) (hr.mono (by decide)) (by rfl) T.g_take T.F_take.kp T.B_take .nil pass0 (pa_cons (pv 0) (pa_cons pe_int pa_nil))) (pa_cons (pe_call (ok_take T) (hr.mono (by decide)) (by rfl) T.g_take T.F_take.kp T.B_take .nil pass0 (pa_cons (pv 0) (pa_cons pe_int pa_nil))) pa_nil))) (pe_call (ok_take T) (hr.mono (by decide)) (by rfl) T.g_take T.F_take.kp T.B_take .nil pass0 (pa_cons (pv 0) (pa_cons pe_int pa_nil))) (fun _ _ => rfl)) pa_nil))) (pg_tup rfl (pgs_cons (pg_name (i := 1) sc_path.nd rfl (.inr rfl)) (pgs_cons (pg_name (i := 2) sc_path.nd rfl (.inl rfl)) pgs_nil))))
  (pss_cons (ps_setLc (i := 3) (own := [("_law_k", 7)]) (g := gName 7) rfl sc_path.nd rfl rfl (sw_true rfl rfl rfl (by decide +kernel)) (pi_range1 (by rfl) T.b_range (pa_cons (pv 2) pa_nil)) (blkOk_by (own := [("_law_k", 7)]) (N := N_path) (sc := defScope s_path) (by decide +kernel)) (fun _ _ _ _ _ => pg_name (i := 7) sc_path.nd rfl (Or.inl rfl)) (fun _ _ _ _ _ => pts_nil) (fun _ _ _ _ _ => (pe_slice sl_str (pe_call (ok_word T) hr (by rfl) T.g_word T.F_word.kp T.B_word .nil pass0 (pa_cons (pv 0) (pa_cons (pv 1) pa_nil))) po_none (po_some pe_int))))
  (pss_cons (ps_set (i := 4) sc_path.nd rfl (.inl rfl) (pe_op op_add_str pe_str (pe_join pe_str (pv 3))))
  (pss_cons (ps_set (i := 5) sc_path.nd rfl (.inl rfl) (pe_call (ok_take T) (hr.mono (by decide)) (by rfl) T.g_take T.F_take.kp T.B_take .nil pass0 (pa_cons (pv 0) (pa_cons pe_int pa_nil))))
  (pss_cons (ps_set (i := 6) sc_path.nd rfl (.inl rfl) (pe_call (ok_take T) (hr.mono (by decide)) (by rfl) T.g_take T.F_take.kp T.B_take .nil pass0 (pa_cons (pv 0) (pa_cons (pe_op op_add (pe_callB call_len_str (by rfl) T.b_len PySem.boot_len (pa_cons (pv 4) pa_nil)) pe_int) pa_nil))))
  (pss_cons (ps_if (pt_cmpR op_eq (pv 5) pe_int (nomark _)) (pss_one (ps_ret (pe_op op_add_str (pe_slice sl_str (pv 4) po_none (po_some (pv 6))) (pe_slice sl_str (pv 4) (po_some (pe_op op_add (pv 6) pe_int)) po_none)))) pss_nil)
  (pss_cons (ps_if (pt_cmpR op_eq (pv 5) pe_int (nomark _)) (pss_one (ps_ret (pe_op op_add_str (pe_op op_add_str (pe_slice sl_str (pv 4) po_none (po_some (pv 6))) pe_str) (pe_slice sl_str (pv 4) (po_some (pv 6)) po_none)))) pss_nil)
  (pss_cons (ps_if (pt_cmpR op_eq (pv 5) pe_int (nomark _)) (pss_one (ps_ret (pe_op op_add_str (pv 4) (pe_ix ix_list (pe_lstN (pa_cons pe_str (pa_cons pe_str (pa_cons pe_str (pa_cons pe_str pa_nil))))) (pe_call (ok_take T) (hr.mono (by decide)) (by rfl) T.g_take T.F_take.kp T.B_take .nil pass0 (pa_cons (pv 0) (pa_cons pe_int pa_nil))) (fun _ _ => rfl))))) pss_nil)
  (pss_one (ps_ret (pv 4))))))))))), ?_⟩
    walk_at "rd"
    walk_at "take"
    rename_i d1 x1 y1 z1 H1 d10 d11 ok1 kp1 hb1 W1
    walk_at "rd"
    walk_at "take"
    rename_i d2 x2 y2 z2 H2 d20 d21 ok2 kp2 hb2 W2
    walk_at "rd"
    walk_at "take"
    rename_i d3 x3 y3 z3 H3 d30 d31 ok3 kp3 hb3 W3
    walk_at "rd"
    rename_i p4 H4 np4 kp4 hp4 W4
    walk_at "take"
    rename_i d5 x5 y5 z5 H5 d50 d51 ok5 kp5 hb5 W5
    obtain ⟨v, hv, hm⟩ := atI_in (xs := [V.int d2, V.int d3]) d50 d51
    obtain ⟨m, rfl, m0, m1⟩ : ∃ m, v = .int m ∧ 0 ≤ m ∧ m ≤ 20 := by
      simp at hm
      rcases hm with rfl | rfl
      · exact ⟨_, rfl, by omega, by omega⟩
      · exact ⟨_, rfl, by omega, by omega⟩
    refine ⟨_, _, _, _, rfl, rfl, W5.sq 0 rfl, hv, ?_⟩
    walk_at "rd"
    rename_i p6 H6 np6 kp6 hp6 W6
    refine ⟨_, _, rfl, W6.sqT 0 rfl, rfl, ?_⟩
    walk_at "rd"
    intro D hD
    refine lc_rg (fun i H' => ∃ (ws : List Str) (x y z : Int), ws.length = i ∧ (∀ t ∈ ws, t.length ≤ 8 ∧ Asc t) ∧ BagOk (n + 4 + 20 * i) x y z ∧ Ow H [b] H' [(D, .lst (ws.map V.str)), (p6, .tup [V.bl (decide (0 < d1)), V.int m]), (p4, .lst [V.int d2, V.int d3]), (b, bagO x y z)]) ?_ ?_ ?_
    · exact ⟨[], _, _, _, rfl, by simp, ok5, W6.new hD⟩
    · rintro i H7 hi ⟨ws, x7, y7, z7, hl, hws, ok7, W7⟩
      have hi' : i < 20 := by omega
      walk_at "rd"
      refine ⟨b, _, _, _, _, _, rfl, W7.get 3 rfl, ok7, by omega, fun t x8 y8 z8 H8 ht hta ok8 kp8 hp8 => ?_⟩
      have W8 := W7.any1 3 rfl kp8 hp8
      have htz : t.length ≤ sizeLine := size_le (by omega)
      walk_at "rd"
      refine ⟨_, W8.get 0 rfl, size_ok (by rw [List.length_map]; omega), ws ++ [cutS t none (some 8)], x8, y8, z8, by rw [List.length_append, hl]; rfl, fun u hu => ?_, ok8.mono (by omega), ?_⟩
      · rcases List.mem_append.mp hu with h | h
        · exact hws u h
        · rw [List.mem_singleton.mp h]; exact ⟨cut_to t 8, hta.cut _ _⟩
      · rw [List.map_append]
        exact W8.set 0 rfl
    · rintro H9 ⟨ws, x9, y9, z9, hl, hws, ok9, W9⟩
      have hwl : ws.length ≤ 20 := by omega
      have hsum : (ws.map (·.length)).sum ≤ 20 * 8 := Nat.le_trans (sum_le fun t ht => (hws t ht).1) (Nat.mul_le_mul_right 8 hwl)
      have h1 : (Str.ofString "/").length = 1 := by decide +kernel
      have h1a : Asc (Str.ofString "/") := Asc.of (by decide +kernel)
      have hjl := join_len (Str.ofString "/") ws
      have hja : Asc (Txt.join (Str.ofString "/") ws) := Asc.join h1a fun t ht => (hws t ht).2
      rw [h1] at hjl
      walk_at "rd"
      refine ⟨_, _, ws, rfl, rfl, .inl (W9.sq 0 rfl), by rw [h1]; omega, ?_⟩
      generalize Txt.join (Str.ofString "/") ws = j at hjl hja
      walk_at "rd"
      have hfl : (Str.ofString "/" ++ j).length ≤ 181 := by rw [len_app, h1]; omega
      have hfa : Asc (Str.ofString "/" ++ j) := h1a.app hja
      generalize Str.ofString "/" ++ j = f at hfl hfa ⊢
      have hsz : f.length ≤ sizeLine := size_le (by omega)
      walk_at "take"
      rename_i d10 x10 y10 z10 H10 d100 d101 ok10 kp10 hb10 W10
      walk_at "rd"
      walk_at "take"
      rename_i d11 x11 y11 z11 H11 d110 d111 ok11 kp11 hb11 W11
      have l1 := cutS_len f none (some d11)
      have l2 := cutS_len f (some d11) none
      have l3 := cutS_len f (some (d11 + 1)) none
      have l4 : (cutS f none (some d11) ++ Str.ofString "/").length = (cutS f none (some d11)).length + 1 := by rw [len_app, h1]
      walk_at "rd"
      refine ifVI (fun c => ?_) (fun c => ?_)
      · walk_at "rd"
        exact q _ _ _ _ _ (by rw [len_app]; omega) ((hfa.cut _ _).app (hfa.cut _ _)) (ok11.mono (by omega)) W11.keep (W11.get 3 rfl)
      walk_at "rd"
      refine ifVI (fun c => ?_) (fun c => ?_)
      · walk_at "rd"
        exact q _ _ _ _ _ (by rw [len_app]; omega) (((hfa.cut _ _).app h1a).app (hfa.cut _ _)) (ok11.mono (by omega)) W11.keep (W11.get 3 rfl)
      walk_at "rd"
      refine ifVI (fun c => ?_) (fun c => ?_)
      · walk_at "rd"
        rename_i p12 H12 np12 kp12 hp12 W12
        walk_at "take"
        rename_i d13 x13 y13 z13 H13 d130 d131 ok13 kp13 hb13 W13
        obtain ⟨v, hv, hm⟩ := atI_in (xs := [V.str (Str.ofString "/"), V.str (Str.ofString " "), V.str (Str.ofString "\n"), V.str (Str.ofString "/x")]) d130 d131
        obtain ⟨t, rfl, ht, hta⟩ : ∃ t, v = .str t ∧ t.length ≤ 2 ∧ Asc t := by
          simp at hm
          rcases hm with rfl | rfl | rfl | rfl <;> exact ⟨_, rfl, by decide +kernel, Asc.of (by decide +kernel)⟩
        refine ⟨_, _, _, _, rfl, rfl, W13.sq 0 rfl, hv, ?_⟩
        walk_at "rd"
        exact q _ _ _ _ _ (by rw [len_app]; omega) (hfa.app hta) (ok13.mono (by omega)) W13.keep (W13.get 4 rfl)
      walk_at "rd"
      exact q _ _ _ _ _ (by omega) hfa (ok11.mono (by omega)) W11.keep (W11.get 3 rfl)
end
end K01
namespace K01
open PySem PySem.Spec PyProof.Rows L2 FR TL
open C8 (pss_cut pe_gc)
/-- a text, or a thing whose class is known, whatever becomes of what stands at M -/
def Any (K : PySem.W.Frag) (M : List Addr) (H : Hp) (v : V) : Prop := (∃ s, v = .str s ∧ s.length ≤ 1000 ∧ Asc s) ∨ ((∀ s, v ≠ .str s) ∧ ∃ t b1 b2, (∀ H', Keep M H H' → TyX K H' v (.type t)) ∧ kitB t "str" = some false ∧ kitB t "list" = some b1 ∧ kitB t "tuple" = some b2)
theorem ktr {M : List Addr} {H H1 H2 : Hp} (k1 : Keep M H H1) (k2 : Keep M H1 H2) : Keep M H H2 := fun b o h hb => k2 b o (k1 b o h hb) hb
theorem k0 {M : List Addr} {H H1 : Hp} (k1 : Keep [] H H1) : Keep M H H1 := fun b o h hb => k1 b o h (by simp)
theorem Any.mono {K : PySem.W.Frag} {M : List Addr} {H H1 : Hp} {v : V} (h : Any K M H v) (k : Keep M H H1) : Any K M H1 v := by
  rcases h with h | ⟨h0, t, b1, b2, h1, h2, h3, h4⟩
  · exact .inl h
  · exact .inr ⟨h0, t, b1, b2, fun H' k' => h1 H' (ktr k k'), h2, h3, h4⟩
theorem owne {H0 H : Hp} {M : List Addr} {L : List (Addr × HO)} (W : Ow H0 M H L) (i j : Nat) {p q : Addr} {o u : HO} (ei : L[i]? = some (p, o)) (ej : L[j]? = some (q, u)) (h : i ≠ j) : p ≠ q := by
  intro e
  refine h ((List.getElem?_inj (l := L.map (·.1)) ?_ W.nd).mp ?_)
  · rw [List.length_map]; exact (List.getElem?_eq_some_iff.mp ei).1
  · rw [List.getElem?_map, List.getElem?_map, ei, ej]
    show some p = some q
    rw [e]
section
variable {P : Program} {w : World} {K : PySem.W.Frag} {mg : Str → Option Value} {base : Heap} {A : Ads}
set_option pp.maxSteps 120
def spAny (K : PySem.W.Frag) : Sp := fun vs H Q _ => ∃ (b : Addr) (n : Nat) (x y z : Int) (s : Str), vs = [.ref b, .str s] ∧ H b = some (bagO x y z) ∧ BagOk n x y z ∧ n < 900000 ∧ s.length ≤ 500 ∧ Asc s ∧
  ∀ (v : V) (x' y' z' : Int) (H' : Hp), Any K [b] H' v → BagOk (n + 1) x' y' z' → Keep [b] H H' → H' b = some (bagO x' y' z') → Q v H'
theorem ok_any (T : Txt K mg A) : FnOk P w K mg base CX0 2 A.f_any A.d_any ["_law_bag_here", "_law_text"] (spAny K) := by
  refine T.F_any.ok sc_any (fun vs H Q E h => ?_) (fun cdv A_ outer s_ H vs Q E hr h => ?_)
  · obtain ⟨b, n, x, y, z, s, rfl, _⟩ := h
    rfl
  · obtain ⟨b, n, x, y, z, s, rfl, hb, ok, hn, hs, ha, q⟩ := h
    have W := Ow.start1 hb
    refine ⟨_, (pss_cons (ps_set (i := 2) sc_any.nd rfl (.inl rfl) (pe_lstN (pa_cons pe_non (pa_cons pe_bl (pa_cons pe_bl (pa_cons (pe_lstN pa_nil) (pa_cons (pe_lstN (pa_cons (pv 1) pa_nil)) (pa_cons (pe_tupN pa_nil) (pa_cons (pe_tupN (pa_cons (pv 1) pa_nil)) (pa_cons pe_dnewN (pa_cons (pe_disp (pps_cons (pv 1) pe_int pps_nil) (by rfl) (by rfl) (fun z => by cases z) (by decide)) (pa_cons pe_int (pa_cons (pe_un un_neg pe_int) (pa_cons (pv 1) (pa_cons pe_str (pa_cons pe_str (pa_cons pe_str (pa_cons pe_str (pa_cons pe_str pa_nil)))))))))))))))))))
  (pss_one (ps_ret (pe_ix ix_list (pv 2) (pe_call (ok_take T) hr (by rfl) T.g_take T.F_take.kp T.B_take .nil pass0 (pa_cons (pv 0) (pa_cons pe_int pa_nil))) (fun _ _ => rfl))))), ?_⟩
    walk_at "rd"
    rename_i p1 H1 np1 kp1 hp1 W1 p2 H2 np2 kp2 hp2 W2 p3 H3 np3 kp3 hp3 W3 p4 H4 np4 kp4 hp4 W4 p5 H5 np5 kp5 hp5 W5
    intro p6 np6
    have W6 := W5.new (o := .dK []) np6
    walk_at "rd"
    refine ⟨upd_same, [(.inr s, .int 1)], rfl, by show 1 ≤ 15; decide, ?_⟩
    have W7 := W6.set (o' := .dK (mergeK [] [(.inr s, .int 1)])) 0 rfl
    walk_at "rd"
    rename_i p8 H8 np8 kp8 hp8 W8
    walk_at "take"
    rename_i d9 x9 y9 z9 H9 d90 d91 ok9 kp9 hb9 W9
    obtain ⟨v, hv, hm⟩ := atI_in (xs := [V.non, V.bl true, V.bl false, V.ref p1, V.ref p2, V.ref p3, V.ref p4, V.ref p5, V.ref p6, V.int 0, V.int (-1), V.str s, V.str (Str.ofString ""), V.str (Str.ofString "/"), V.str (Str.ofString "root"), V.str (Str.ofString "/root"), V.str (Str.ofString "//")]) d90 d91
    refine ⟨_, _, _, _, rfl, rfl, W9.sq 0 rfl, hv, ?_⟩
    refine q _ _ _ _ _ ?_ ok9 W9.keep (W9.get 7 rfl)
    simp only [List.mem_cons, List.not_mem_nil, or_false] at hm
    rcases hm with rfl | rfl | rfl | rfl | rfl | rfl | rfl | rfl | rfl | rfl | rfl | rfl | rfl | rfl | rfl | rfl | rfl
    · exact .inr ⟨(fun _ e => by cases e), _, _, _, fun _ _ => .base .non, ki_non_str, ki_non_list, ki_non_tuple⟩
    · exact .inr ⟨(fun _ e => by cases e), _, _, _, fun _ _ => .base (.bl _), ki_bl_str, ki_bl_list, ki_bl_tuple⟩
    · exact .inr ⟨(fun _ e => by cases e), _, _, _, fun _ _ => .base (.bl _), ki_bl_str, ki_bl_list, ki_bl_tuple⟩
    · exact .inr ⟨(fun _ e => by cases e), _, _, _, fun _ k => .base (.lst (k _ _ (W9.get 6 rfl) (by simpa using owne W9 6 7 rfl rfl (by decide)))), ki_lst_str, ki_lst_list, ki_lst_tuple⟩
    · exact .inr ⟨(fun _ e => by cases e), _, _, _, fun _ k => .base (.lst (k _ _ (W9.get 5 rfl) (by simpa using owne W9 5 7 rfl rfl (by decide)))), ki_lst_str, ki_lst_list, ki_lst_tuple⟩
    · exact .inr ⟨(fun _ e => by cases e), _, _, _, fun _ k => .base (.tup (k _ _ (W9.get 4 rfl) (by simpa using owne W9 4 7 rfl rfl (by decide)))), ki_tup_str, ki_tup_list, ki_tup_tuple⟩
    · exact .inr ⟨(fun _ e => by cases e), _, _, _, fun _ k => .base (.tup (k _ _ (W9.get 3 rfl) (by simpa using owne W9 3 7 rfl rfl (by decide)))), ki_tup_str, ki_tup_list, ki_tup_tuple⟩
    · exact .inr ⟨(fun _ e => by cases e), _, _, _, fun _ k => .base (.dK (k _ _ (W9.get 2 rfl) (by simpa using owne W9 2 7 rfl rfl (by decide)))), ki_dK_str, ki_dK_list, ki_dK_tuple⟩
    · exact .inr ⟨(fun _ e => by cases e), _, _, _, fun _ k => .base (.dK (k _ _ (W9.get 1 rfl) (by simpa using owne W9 1 7 rfl rfl (by decide)))), ki_dK_str, ki_dK_list, ki_dK_tuple⟩
    · exact .inr ⟨(fun _ e => by cases e), _, _, _, fun _ _ => .base (.int _), ki_int_str, ki_int_list, ki_int_tuple⟩
    · exact .inr ⟨(fun _ e => by cases e), _, _, _, fun _ _ => .base (.int _), ki_int_str, ki_int_list, ki_int_tuple⟩
    · exact .inl ⟨_, rfl, by omega, ha⟩
    · exact .inl ⟨_, rfl, by decide +kernel, Asc.of (by decide +kernel)⟩
    · exact .inl ⟨_, rfl, by decide +kernel, Asc.of (by decide +kernel)⟩
    · exact .inl ⟨_, rfl, by decide +kernel, Asc.of (by decide +kernel)⟩
    · exact .inl ⟨_, rfl, by decide +kernel, Asc.of (by decide +kernel)⟩
    · exact .inl ⟨_, rfl, by decide +kernel, Asc.of (by decide +kernel)⟩
end
end K01
namespace K01
open PySem PySem.Spec PyProof.Rows L2 FR TL
open C8 (pss_cut pe_gc)
/-- a list of yes and no -/
def dBls (bs : List Bool) : PyData := .list (bs.map .bool)
theorem dpAll_bls {K : PySem.W.Frag} {H : Hp} : ∀ bs : List Bool, DpAll K H (bs.map V.bl) (bs.map .bool)
  | [] => .nil
  | s :: r => .cons (.bl s) (dpAll_bls r)
theorem dp_bls {K : PySem.W.Frag} {H : Hp} {a : Addr} {bs : List Bool} (h : SqL K H a (bs.map V.bl)) : Dp K H (.ref a) (dBls bs) := .lst h (dpAll_bls bs)
theorem shB (a b c : Bool) : SeqAt.shaped (dBls [a, b, c]) = true := by cases a <;> cases b <;> cases c <;> decide +kernel
theorem eqB (a b c : Bool) : PyData.eqv (dBls [a, b, c]) (dBls [a, b, c]) = true := by cases a <;> cases b <;> cases c <;> decide +kernel
def f1 : V → Bool
  | .str t => nm t
  | _ => false
def f2 : V → Bool
  | .str t => pth t
  | _ => false
theorem not_str {v : V} (h : ∀ s, v ≠ .str s) : f1 v = false ∧ f2 v = false := by
  cases v <;> first | exact ⟨rfl, rfl⟩ | exact absurd rfl (h _)
theorem thing1 {K : PySem.W.Frag} {M : List Addr} {H H1 : Hp} {v : V} (h : Any K M H v) (k : Keep M H H1) {q : Bool → Prop} (hq : q (f1 v)) : Thing K H1 v (fun s => q (nm s)) (q false) := by
  rcases h with ⟨s, rfl, hl, ha⟩ | ⟨h0, t, b1, b2, h1, h2, h3, h4⟩
  · exact .inl ⟨s, rfl, by omega, ha, hq⟩
  · rw [(not_str h0).1] at hq
    exact .inr ⟨⟨t, h1 _ k, h2⟩, hq⟩
theorem thing1k {K : PySem.W.Frag} {M : List Addr} {H H1 : Hp} {v : V} (h : Any K M H v) (k : Keep M H H1) {q : Bool → Hp → Prop} (hq : ∀ H', Keep [] H1 H' → q (f1 v) H') : Thing K H1 v (fun s => ∀ H', Keep [] H1 H' → q (nm s) H') (q false H1) := by
  rcases h with ⟨s, rfl, hl, ha⟩ | ⟨h0, t, b1, b2, h1, h2, h3, h4⟩
  · exact .inl ⟨s, rfl, by omega, ha, hq⟩
  · rw [(not_str h0).1] at hq
    exact .inr ⟨⟨t, h1 _ k, h2⟩, hq H1 Keep.refl⟩
theorem thing2k {K : PySem.W.Frag} {M : List Addr} {H H1 : Hp} {v : V} (h : Any K M H v) (k : Keep M H H1) {q : Bool → Hp → Prop} (hq : ∀ H', Keep [] H1 H' → q (f2 v) H') : Thing K H1 v (fun s => ∀ H', Keep [] H1 H' → q (pth s) H') (q false H1) := by
  rcases h with ⟨s, rfl, hl, ha⟩ | ⟨h0, t, b1, b2, h1, h2, h3, h4⟩
  · exact .inl ⟨s, rfl, by omega, ha, hq⟩
  · rw [(not_str h0).2] at hq
    exact .inr ⟨⟨t, h1 _ k, h2⟩, hq H1 Keep.refl⟩
theorem kinds {K : PySem.W.Frag} {M : List Addr} {H : Hp} {v : V} (h : Any K M H v) : ∃ t b1 b2, (∀ H', Keep M H H' → TyX K H' v (.type t)) ∧ kitB t "list" = some b1 ∧ kitB t "tuple" = some b2 := by
  rcases h with ⟨s, rfl, hl, ha⟩ | ⟨h0, t, b1, b2, h1, h2, h3, h4⟩
  · exact ⟨"str", false, false, fun _ _ => .base (.str _), ki_str_list, ki_str_tuple⟩
  · exact ⟨t, b1, b2, h1, h3, h4⟩
section
variable {P : Program} {w : World} {K : PySem.W.Frag} {mg : Str → Option Value} {base : Heap} {A : Ads}
set_option pp.maxSteps 120
theorem kbn (T : Txt K mg A) : KBn K A.d_is_name ["value"] 0 ["value"] (fun us ws => ws) (fun vs zs => zs) :=
  kbF (ps := ["value"]) T.F_is_name 0 ["value"] (fun us ws => ws) (fun a b => b) fun kV doc pm an cdv ct us ws l1 l2 => match us, ws, l1, l2 with
    | [], [_], _, _ => rfl
theorem kbp (T : Txt K mg A) : KBn K A.d_is_path ["value"] 0 ["value"] (fun us ws => ws) (fun vs zs => zs) :=
  kbF (ps := ["value"]) T.F_is_path 0 ["value"] (fun us ws => ws) (fun a b => b) fun kV doc pm an cdv ct us ws l1 l2 => match us, ws, l1, l2 with
    | [], [_], _, _ => rfl
theorem kbl (T : Txt K mg A) : KBn K A.d_is_list ["value"] 0 ["value"] (fun us ws => ws) (fun vs zs => zs) :=
  kbF (ps := ["value"]) T.F_is_list 0 ["value"] (fun us ws => ws) (fun a b => b) fun kV doc pm an cdv ct us ws l1 l2 => match us, ws, l1, l2 with
    | [], [_], _, _ => rfl
def spLaw (K : PySem.W.Frag) : Sp := fun vs H Q _ => ∃ (a : Addr) (ns : List Int), vs = [.ref a] ∧ SqL K H a (ns.map V.int) ∧ ns.length ≤ 63 ∧ ∀ H', Q (.bl true) H'
theorem ok_law (T : Txt K mg A) : FnOk P w K mg base CX0 4 A.f_law A.d_law ["_law_script"] (spLaw K) := by
  refine T.F_law.ok sc_law (fun vs H Q E h => ?_) (fun cdv A_ outer s_ H vs Q E hr h => ?_)
  · obtain ⟨a, ns, rfl, _⟩ := h
    rfl
  · obtain ⟨a, ns, rfl, hS, hlen, q⟩ := h
    have W0 : Ow H [] H [] := Ow.start0
    have kb_is_name_0_value := kbn T
    have kb_is_path_0_value := kbp T
    have kb_is_list_0_value := kbl T
    refine ⟨_, (pss_cons (ps_for PassesOwn.never rfl (pi_range1 (by rfl) T.b_range (pa_cons (pe_callB (call_max2 rfl) (by rfl) T.b_max (by decide +kernel) (pa_cons pe_int (pa_cons (pe_callB (call_min2 rfl) (by rfl) T.b_min (by decide +kernel) (pa_cons pe_int (pa_cons (pe_callB call_len_seq (by rfl) T.b_len PySem.boot_len (pa_cons (pv 0) pa_nil)) pa_nil))) pa_nil))) pa_nil)) (pg_name (i := 1) sc_law.nd rfl (.inl rfl)) (pss_cons (ps_set (i := 2) sc_law.nd rfl (.inl rfl) (pe_call (ok_bag T) (hr.mono (by decide)) (by rfl) T.g_bag T.F_bag.kp T.B_bag .nil pass0 (pa_cons (pe_call (ok_cell T) (hr.mono (by decide)) (by rfl) T.g_cell T.F_cell.kp T.B_cell .nil pass0 (pa_cons (pv 0) (pa_cons (pv 1) pa_nil))) pa_nil)))
  (pss_cons (ps_if (pt_not (pt_val (pe_call (ok_integers_right T) (hr.mono (by decide)) (by rfl) T.g_integers_right T.F_integers_right.kp T.B_integers_right .nil pass0 (pa_cons (pv 2) pa_nil)))) (pss_one (ps_ret pe_bl)) pss_nil)
  (pss_cons (ps_par (i := 3) (j := 4) (by rfl) sc_law.nd rfl rfl (by decide) rfl rfl (pa_cons (pe_call (ok_word T) (hr.mono (by decide)) (by rfl) T.g_word T.F_word.kp T.B_word .nil pass0 (pa_cons (pv 2) (pa_cons pe_bl pa_nil))) (pa_cons (pe_call (ok_path T) hr (by rfl) T.g_path T.F_path.kp T.B_path .nil pass0 (pa_cons (pv 2) pa_nil)) pa_nil)) (by rfl))
  (pss_one (ps_for PassesOwn.never rfl (pi_list (pe_lstN (pa_cons (pv 3) (pa_cons (pv 4) (pa_cons (pe_call (ok_any T) (hr.mono (by decide)) (by rfl) T.g_any T.F_any.kp T.B_any .nil pass0 (pa_cons (pv 2) (pa_cons (pv 3) pa_nil))) (pa_cons (pe_call (ok_any T) (hr.mono (by decide)) (by rfl) T.g_any T.F_any.kp T.B_any .nil pass0 (pa_cons (pv 2) (pa_cons (pv 4) pa_nil))) (pa_cons (pe_op op_add_str pe_str (pv 3)) (pa_cons (pe_op op_mul_str (pe_slice sl_str (pv 3) po_none (po_some pe_int)) pe_int) pa_nil)))))))) (pg_name (i := 5) sc_law.nd rfl (.inl rfl)) (pss_cons (ps_set (i := 6) sc_law.nd rfl (.inl rfl) (pe_lstN (pa_cons (pe_callN0 (ok_is_name T) (hr.mono (by decide)) (by rfl) T.g_is_name T.F_is_name.kp kb_is_name_0_value pass0 (pk_cons (pv 5) pk_nil)) (pa_cons (pe_callN0 (ok_is_path T) (hr.mono (by decide)) (by rfl) T.g_is_path T.F_is_path.kp kb_is_path_0_value pass0 (pk_cons (pv 5) pk_nil)) (pa_cons (pe_callN0 (ok_is_list T) (hr.mono (by decide)) (by rfl) T.g_is_list T.F_is_list.kp kb_is_list_0_value pass0 (pk_cons (pv 5) pk_nil)) pa_nil)))))
  (pss_cons (ps_set (i := 7) sc_law.nd rfl (.inl rfl) (pe_lstN (pa_cons (pe_call (ok_is_word T) (hr.mono (by decide)) (by rfl) T.g_is_word T.F_is_word.kp T.B_is_word .nil pass0 (pa_cons (pv 5) pa_nil)) (pa_cons (pe_call (ok_l_is_path T) (hr.mono (by decide)) (by rfl) T.g_l_is_path T.F_l_is_path.kp T.B_l_is_path .nil pass0 (pa_cons (pv 5) pa_nil)) (pa_cons (pe_callB call_isiT (by rfl) T.b_isinstance (by decide +kernel) (pa_cons (pv 5) (pa_cons (pe_tupN (pa_cons (pe_bltn (v := .ty "list") rfl T.b_list (by decide +kernel) rfl) (pa_cons (pe_bltn (v := .ty "tuple") rfl T.b_tuple (by decide +kernel) rfl) pa_nil))) pa_nil))) pa_nil)))))
  (pss_one (ps_if (PW.pt (pw_or (pt_cmpR (op_neD hr.units) (pv 6) (pv 7) (nomark _)) (pw_or1 (pt_cmpR (op_neD hr.units) (pe_lc (own := [("_law_one", 8)]) (g := gName 8) rfl sc_law.nd (pi_list (pv 6)) (blkOk_by (own := [("_law_one", 8)]) (N := N_law) (sc := defScope s_law) (by decide +kernel)) (fun _ _ _ _ _ => pg_name (i := 8) sc_law.nd rfl (Or.inl rfl)) (fun _ _ _ _ _ => (pts_one (pt_not (pt_val (pe_callB (call_isiK (K := K) rfl) (by rfl) T.b_isinstance (by decide +kernel) (pa_cons (pv 8) (pa_cons (pe_bltn (v := .ty "bool") rfl T.b_bool (by decide +kernel) rfl) pa_nil))))))) (fun _ _ _ _ _ => (pv 8))) (pe_lstN pa_nil) (nomark _))))) (pss_one (ps_ret pe_bl)) pss_nil))))))))))
  (pss_one (ps_ret (pe_cmpR (op_eqD hr.units) (pe_lstN (pa_cons (pe_call (ok_is_name T) (hr.mono (by decide)) (by rfl) T.g_is_name T.F_is_name.kp T.B_is_name .nil pass0 (pa_cons pe_str pa_nil)) (pa_cons (pe_call (ok_is_path T) (hr.mono (by decide)) (by rfl) T.g_is_path T.F_is_path.kp T.B_is_path .nil pass0 (pa_cons pe_str pa_nil)) (pa_cons (pe_call (ok_is_path T) (hr.mono (by decide)) (by rfl) T.g_is_path T.F_is_path.kp T.B_is_path .nil pass0 (pa_cons pe_str pa_nil)) (pa_cons (pe_call (ok_is_name T) (hr.mono (by decide)) (by rfl) T.g_is_name T.F_is_name.kp T.B_is_name .nil pass0 (pa_cons pe_str pa_nil)) pa_nil))))) (pe_lstN (pa_cons pe_bl (pa_cons pe_bl (pa_cons pe_bl (pa_cons pe_bl pa_nil))))) (nomark _))))), ?_⟩
    walk_at "rd"
    refine for_rg (fun i σ H' => (∃ y1 y2 y3 y4 y5 y6 y7 y8, σ = [some (.ref a), y1, y2, y3, y4, y5, y6, y7, y8]) ∧ Ow H [] H' []) ⟨⟨none, none, none, none, none, none, none, none, rfl⟩, W0⟩ ?_ ?_
    · rintro i σ H1 hi ⟨⟨y1, y2, y3, y4, y5, y6, y7, y8, rfl⟩, W1⟩
      have hi' : i < 63 := by
        refine Nat.lt_of_lt_of_le hi ?_
        rw [List.length_map]
        omega
      walk_at "rd"
      refine ⟨a, ns, _, rfl, W1.seq hS (by simp), by omega, by omega, fun n => ?_⟩
      walk_at "rd"
      intro x y z ok
      walk_at "rd"
      rename_i b H2 np2 kp2 hp2 W2
      refine ⟨b, _, _, _, _, rfl, W2.get 0 rfl, ok, by omega, fun x3 y3 z3 H3 ok3 kp3 hb3 => ?_⟩
      have W3 := W2.any1 0 rfl kp3 hb3
      walk_at "rd"
      refine ⟨b, _, _, _, _, _, rfl, W3.get 0 rfl, ok3, by omega, fun s x4 y4 z4 H4 hs hsa ok4 kp4 hb4 => ?_⟩
      have W4 := W3.any1 0 rfl kp4 hb4
      walk_at "rd"
      refine ⟨b, _, _, _, _, rfl, W4.get 0 rfl, ok4, by omega, fun r x5 y5 z5 H5 hr5 hra ok5 kp5 hb5 => ?_⟩
      have W5 := W4.any1 0 rfl kp5 hb5
      walk_at "rd"
      refine ⟨b, _, _, _, _, _, rfl, W5.get 0 rfl, ok5, by omega, by omega, hsa, fun v6 x6 y6' z6 H6 any6 ok6 kp6 hb6 => ?_⟩
      have W6 := W5.any1 0 rfl kp6 hb6
      walk_at "rd"
      refine ⟨b, _, _, _, _, _, rfl, W6.get 0 rfl, ok6, by omega, by omega, hra, fun v7 x7 y7' z7 H7 any7 ok7 kp7 hb7 => ?_⟩
      have W7 := W6.any1 0 rfl kp7 hb7
      have any6' := any6.mono kp7
      have hsz : s.length ≤ sizeLine := size_le (by omega)
      have h1 : (Str.ofString "/").length = 1 := by decide +kernel
      have l8 : (cutS s none (some 8)).length ≤ 8 := cut_to s 8
      walk_at "rd"
      rename_i p8 H8 np8 kp8 hp8 W8
      obtain ⟨xs, hs8, hxs⟩ : ∃ xs, H8 p8 = some (.lst xs) ∧ ∀ x ∈ xs, Any K [b] H8 x := by
        refine ⟨_, W8.get 0 rfl, fun x hx => ?_⟩
        simp only [List.mem_cons, List.not_mem_nil, or_false] at hx
        rcases hx with rfl | rfl | rfl | rfl | rfl | rfl
        · exact .inl ⟨_, rfl, by omega, hsa⟩
        · exact .inl ⟨_, rfl, by omega, hra⟩
        · exact any6'.mono (k0 kp8)
        · exact any7.mono (k0 kp8)
        · exact .inl ⟨_, rfl, by rw [len_app, h1]; omega, (Asc.of (by decide +kernel)).app hsa⟩
        · exact .inl ⟨_, rfl, by rw [mul_len]; exact Nat.le_trans (Nat.mul_le_mul_right _ l8) (by decide), (hsa.cut _ _).mul _⟩
      have W9 := W8.drop
      refine ⟨⟨_, .inl (.inl hs8)⟩, ?_⟩
      refine for_li (a := p8) (xs := xs) (fun pre σ H' => (∃ y5 y6 y7 y8, σ = [some (.ref a), some (.int (0 + i)), some (.ref b), some (.str s), some (.str r), y5, y6, y7, y8]) ∧ Ow H8 [] H' []) ⟨⟨_, _, _, _, rfl⟩, Ow.start0⟩ ?_ ?_ ?_
      · rintro pre post σ H10 e ⟨_, U10⟩
        exact .inl (.inl (U10.keep _ _ hs8 (by simp)))
      · rintro pre v post σ H10 e ⟨⟨y5, y6, y7, y8, rfl⟩, U10⟩
        have hv := (hxs v (by rw [e]; simp)).mono (k0 (fun b o h hb => U10.keep b o h hb))
        clear W0 W1 W2 W3 W4 W5 W6 W7 W8
        walk_at "rd"
        rcases hv with ⟨u, rfl, hul, hua⟩ | ⟨_, t, b1, b2, ty, kt, k1, k2⟩
        · have ty : ∀ H', Keep [b] H10 H' → TyX K H' (.str u) (.type "str") := fun _ _ => .base (.str _)
          have k1 := ki_str_list
          have k2 := ki_str_tuple
          refine .inl ⟨u, rfl, by omega, hua, ?_⟩
          walk_at "rd"
          refine .inl ⟨u, rfl, by omega, hua, fun H11 k11 => ?_⟩
          have U11 := U10.call0 k11
          walk_at "rd"
          refine ⟨_, _, _, _, rfl, fun H' k' => ty H' (k0 (ktr k11 k')), k1, k2, fun H12 k12 => ?_⟩
          have U12 := U11.call0 k12
          walk_at "rd"
          rename_i p13 H13 np13 kp13 hp13 U13
          refine .inl ⟨u, rfl, by omega, hua, fun H14 k14 => ?_⟩
          have U14 := U13.call0 k14
          walk_at "rd"
          refine .inl ⟨u, rfl, by omega, hua, fun H15 k15 => ?_⟩
          have U15 := U14.call0 k15
          walk_at "rd"
          rename_i p16 H16 np16 kp16 hp16 U16
          refine ⟨_, _, _, _, _, _, rfl, hp16, .cons (.ty _) (.cons (.ty _) .nil), .base (.str _), kit2 k1 k2, ?_⟩
          walk_at "rd"
          rename_i p17 H17 np17 kp17 hp17 U17
          refine ⟨dBls [nm u, pth u, (false || false)], dBls [nm u, pth u, (false || false)], dp_bls (bs := [nm u, pth u, (false || false)]) (U17.sq 2 rfl), dp_bls (bs := [nm u, pth u, (false || false)]) (U17.sq 0 rfl), shB (nm u) (pth u) (false || false), shB (nm u) (pth u) (false || false), ?_⟩
          refine ⟨_, rfl, ?_⟩
          refine ifF (by rw [eqB]; rfl) ?_
          walk_at "rd"
          refine ⟨⟨_, U17.sq 2 rfl⟩, fun D hD => ?_⟩
          refine lc_li (a := p13) (xs := [nm u, pth u, (false || false)].map V.bl) (fun pre H' => Ow H8 [] H' [(D, .lst []), (p17, .lst ([nm u, pth u, (false || false)].map V.bl)), (p16, .tup [V.ty "list", V.ty "tuple"]), (p13, .lst ([nm u, pth u, (false || false)].map V.bl))]) (U17.new hD) ?_ ?_ ?_
          · intro pre post H18 e U18
            exact U18.sq 3 rfl
          · intro pre x post H18 e U18
            obtain ⟨c, _, rfl⟩ := List.mem_map.mp (show x ∈ [nm u, pth u, (false || false)].map V.bl by rw [e]; simp)
            walk_at "rd"
            exact U18
          · intro H18 U18
            walk_at "rd"
            rename_i p19 H19 np19 kp19 hp19 U19
            refine ⟨dBls [], dBls [], dp_bls (bs := []) (U19.sq 1 rfl), dp_bls (bs := []) (U19.sq 0 rfl), by decide +kernel, by decide +kernel, ?_⟩
            refine ⟨_, rfl, ?_⟩
            refine ifF (by decide +kernel) ?_
            walk_at "rd"
            exact ⟨⟨_, _, _, _, rfl⟩, U19.drop⟩
        · refine .inr ⟨⟨t, ty _ Keep.refl, kt⟩, ?_⟩
          walk_at "rd"
          refine .inr ⟨⟨t, ty _ Keep.refl, kt⟩, ?_⟩
          have U11 := U10
          walk_at "rd"
          refine ⟨_, _, _, _, rfl, fun H' k' => ty H' (k0 k'), k1, k2, fun H12 k12 => ?_⟩
          have U12 := U11.call0 k12
          walk_at "rd"
          rename_i p13 H13 np13 kp13 hp13 U13
          refine .inr ⟨⟨t, ty _ (k0 (ktr k12 kp13)), kt⟩, ?_⟩
          have U14 := U13
          walk_at "rd"
          refine .inr ⟨⟨t, ty _ (k0 (ktr k12 kp13)), kt⟩, ?_⟩
          have U15 := U14
          walk_at "rd"
          rename_i p16 H16 np16 kp16 hp16 U16
          refine ⟨_, _, _, _, _, _, rfl, hp16, .cons (.ty _) (.cons (.ty _) .nil), ty _ (k0 (ktr k12 (ktr kp13 kp16))), kit2 k1 k2, ?_⟩
          walk_at "rd"
          rename_i p17 H17 np17 kp17 hp17 U17
          refine ⟨dBls [false, false, (b1 || b2)], dBls [false, false, (b1 || b2)], dp_bls (bs := [false, false, (b1 || b2)]) (U17.sq 2 rfl), dp_bls (bs := [false, false, (b1 || b2)]) (U17.sq 0 rfl), shB false false (b1 || b2), shB false false (b1 || b2), ?_⟩
          refine ⟨_, rfl, ?_⟩
          refine ifF (by rw [eqB]; rfl) ?_
          walk_at "rd"
          refine ⟨⟨_, U17.sq 2 rfl⟩, fun D hD => ?_⟩
          refine lc_li (a := p13) (xs := [false, false, (b1 || b2)].map V.bl) (fun pre H' => Ow H8 [] H' [(D, .lst []), (p17, .lst ([false, false, (b1 || b2)].map V.bl)), (p16, .tup [V.ty "list", V.ty "tuple"]), (p13, .lst ([false, false, (b1 || b2)].map V.bl))]) (U17.new hD) ?_ ?_ ?_
          · intro pre post H18 e U18
            exact U18.sq 3 rfl
          · intro pre x post H18 e U18
            obtain ⟨c, _, rfl⟩ := List.mem_map.mp (show x ∈ [false, false, (b1 || b2)].map V.bl by rw [e]; simp)
            walk_at "rd"
            exact U18
          · intro H18 U18
            walk_at "rd"
            rename_i p19 H19 np19 kp19 hp19 U19
            refine ⟨dBls [], dBls [], dp_bls (bs := []) (U19.sq 1 rfl), dp_bls (bs := []) (U19.sq 0 rfl), by decide +kernel, by decide +kernel, ?_⟩
            refine ⟨_, rfl, ?_⟩
            refine ifF (by decide +kernel) ?_
            walk_at "rd"
            exact ⟨⟨_, _, _, _, rfl⟩, U19.drop⟩
      · rintro σ H10 ⟨⟨y5, y6, y7, y8, rfl⟩, U10⟩
        walk_at "rd"
        exact ⟨⟨_, _, _, _, _, _, _, _, rfl⟩, W9.call0 U10.keep⟩
    · rintro σ H1 ⟨⟨y1, y2, y3, y4, y5, y6, y7, y8, rfl⟩, W1⟩
      walk_at "rd"
      have en1 : nm (Str.ofString "root") = true := by decide +kernel
      have en2 : pth (Str.ofString "/") = true := by decide +kernel
      have en3 : pth (Str.ofString "") = false := by decide +kernel
      have en4 : nm (Str.ofString "") = false := by decide +kernel
      refine .inl ⟨_, rfl, by decide +kernel, Asc.of (by decide +kernel), ?_⟩
      walk_at "rd"
      refine .inl ⟨_, rfl, by decide +kernel, Asc.of (by decide +kernel), fun H2 k2 => ?_⟩
      have W2 := W1.call0 k2
      walk_at "rd"
      refine .inl ⟨_, rfl, by decide +kernel, Asc.of (by decide +kernel), fun H3 k3 => ?_⟩
      have W3 := W2.call0 k3
      walk_at "rd"
      refine .inl ⟨_, rfl, by decide +kernel, Asc.of (by decide +kernel), ?_⟩
      walk_at "rd"
      rename_i p4 H4 np4 kp4 hp4 W4 p5 H5 np5 kp5 hp5 W5
      refine ⟨dBls [nm (Str.ofString "root"), pth (Str.ofString "/"), pth (Str.ofString ""), nm (Str.ofString "")], dBls [true, true, false, false], dp_bls (bs := [nm (Str.ofString "root"), pth (Str.ofString "/"), pth (Str.ofString ""), nm (Str.ofString "")]) (W5.sq 1 rfl), dp_bls (bs := [true, true, false, false]) (W5.sq 0 rfl), by rw [en1, en2, en3, en4]; decide +kernel, by decide +kernel, ?_⟩
      rw [en1, en2, en3, en4, show PyData.eqv (dBls [true, true, false, false]) (dBls [true, true, false, false]) = true by decide +kernel]
      exact q _
end
end K01
namespace K01
open PySem PySem.Spec PyProof.Rows L2 FR TL
theorem all_mk {P : Program} {w : World} {K : PySem.W.Frag} {h : Heap} {mg : Str → Option Value} {fa : Addr} (X : K.In h) (G : h.Ns mainGlobals mg) (hfa : mg "law" = some (.ref fa))
    {f0 : Addr} {od0 an0 : Option Addr} {sl0 : Array (Option Value)} {oc0 kV0 dc0 pm0 cd0 ct0 : Value}
    {f1 : Addr} {od1 an1 : Option Addr} {sl1 : Array (Option Value)} {oc1 kV1 dc1 pm1 cd1 ct1 : Value}
    {f2 : Addr} {od2 an2 : Option Addr} {sl2 : Array (Option Value)} {oc2 kV2 dc2 pm2 cd2 ct2 : Value}
    {f3 : Addr} {od3 an3 : Option Addr} {sl3 : Array (Option Value)} {oc3 kV3 dc3 pm3 cd3 ct3 : Value}
    {f4 : Addr} {od4 an4 : Option Addr} {sl4 : Array (Option Value)} {oc4 kV4 dc4 pm4 cd4 ct4 : Value}
    {f5 : Addr} {od5 an5 : Option Addr} {sl5 : Array (Option Value)} {oc5 kV5 dc5 pm5 cd5 ct5 : Value}
    {f6 : Addr} {od6 an6 : Option Addr} {sl6 : Array (Option Value)} {oc6 kV6 dc6 pm6 cd6 ct6 : Value}
    {f7 : Addr} {od7 an7 : Option Addr} {sl7 : Array (Option Value)} {oc7 kV7 dc7 pm7 cd7 ct7 : Value}
    {f8 : Addr} {od8 an8 : Option Addr} {sl8 : Array (Option Value)} {oc8 kV8 dc8 pm8 cd8 ct8 : Value}
    {f9 : Addr} {od9 an9 : Option Addr} {sl9 : Array (Option Value)} {oc9 kV9 dc9 pm9 cd9 ct9 : Value}
    {f10 : Addr} {od10 an10 : Option Addr} {sl10 : Array (Option Value)} {oc10 kV10 dc10 pm10 cd10 ct10 : Value}
    {f11 : Addr} {od11 an11 : Option Addr} {sl11 : Array (Option Value)} {oc11 kV11 dc11 pm11 cd11 ct11 : Value}
    {f12 : Addr} {od12 an12 : Option Addr} {sl12 : Array (Option Value)} {oc12 kV12 dc12 pm12 cd12 ct12 : Value}
    {f13 : Addr} {od13 an13 : Option Addr} {sl13 : Array (Option Value)} {oc13 kV13 dc13 pm13 cd13 ct13 : Value}
    {tc0 : Tok}
    (a0 : PySem.W.nsIn K mainGlobals "is_integer" = some (some (.ref f0)))
    (l0 : K.lookup f0 = some ⟨oc0, od0, .func (PySem.W.fnOf "is_integer" "is_integer" (defArgs s_is_integer) (defBody s_is_integer) (defScope s_is_integer) .none kV0 dc0 pm0 an0 cd0 ct0), sl0⟩)
    (c0 : PySem.W.codeIn K cd0 "is_integer" = true) (k0 : PySem.W.keepIn K (.ref f0) = true)
    (a1 : PySem.W.nsIn K mainGlobals "is_name" = some (some (.ref f1)))
    (l1 : K.lookup f1 = some ⟨oc1, od1, .func (PySem.W.fnOf "is_name" "is_name" (defArgs s_is_name) (defBody s_is_name) (defScope s_is_name) .none kV1 dc1 pm1 an1 cd1 ct1), sl1⟩)
    (c1 : PySem.W.codeIn K cd1 "is_name" = true) (k1 : PySem.W.keepIn K (.ref f1) = true)
    (a2 : PySem.W.nsIn K mainGlobals "is_list" = some (some (.ref f2)))
    (l2 : K.lookup f2 = some ⟨oc2, od2, .func (PySem.W.fnOf "is_list" "is_list" (defArgs s_is_list) (defBody s_is_list) (defScope s_is_list) .none kV2 dc2 pm2 an2 cd2 ct2), sl2⟩)
    (c2 : PySem.W.codeIn K cd2 "is_list" = true) (k2 : PySem.W.keepIn K (.ref f2) = true)
    (a3 : PySem.W.nsIn K mainGlobals "is_path" = some (some (.ref f3)))
    (l3 : K.lookup f3 = some ⟨oc3, od3, .func (PySem.W.fnOf "is_path" "is_path" (defArgs s_is_path) (defBody s_is_path) (defScope s_is_path) .none kV3 dc3 pm3 an3 cd3 ct3), sl3⟩)
    (c3 : PySem.W.codeIn K cd3 "is_path" = true) (k3 : PySem.W.keepIn K (.ref f3) = true)
    (a4 : PySem.W.nsIn K mainGlobals "_law_cell" = some (some (.ref f4)))
    (l4 : K.lookup f4 = some ⟨oc4, od4, .func (PySem.W.fnOf "_law_cell" "_law_cell" (defArgs s_cell) (defBody s_cell) (defScope s_cell) .none kV4 dc4 pm4 an4 cd4 ct4), sl4⟩)
    (c4 : PySem.W.codeIn K cd4 "_law_cell" = true) (k4 : PySem.W.keepIn K (.ref f4) = true)
    (a5 : PySem.W.nsIn K mainGlobals "_law_bag" = some (some (.ref f5)))
    (l5 : K.lookup f5 = some ⟨oc5, od5, .func (PySem.W.fnOf "_law_bag" "_law_bag" (defArgs s_bag) (defBody s_bag) (defScope s_bag) .none kV5 dc5 pm5 an5 cd5 ct5), sl5⟩)
    (c5 : PySem.W.codeIn K cd5 "_law_bag" = true) (k5 : PySem.W.keepIn K (.ref f5) = true)
    (a6 : PySem.W.nsIn K mainGlobals "_law_take" = some (some (.ref f6)))
    (l6 : K.lookup f6 = some ⟨oc6, od6, .func (PySem.W.fnOf "_law_take" "_law_take" (defArgs s_take) (defBody s_take) (defScope s_take) .none kV6 dc6 pm6 an6 cd6 ct6), sl6⟩)
    (c6 : PySem.W.codeIn K cd6 "_law_take" = true) (k6 : PySem.W.keepIn K (.ref f6) = true)
    (a7 : PySem.W.nsIn K mainGlobals "_law_word" = some (some (.ref f7)))
    (l7 : K.lookup f7 = some ⟨oc7, od7, .func (PySem.W.fnOf "_law_word" "_law_word" (defArgs s_word) (defBody s_word) (defScope s_word) .none kV7 dc7 pm7 an7 cd7 ct7), sl7⟩)
    (c7 : PySem.W.codeIn K cd7 "_law_word" = true) (k7 : PySem.W.keepIn K (.ref f7) = true)
    (a8 : PySem.W.nsIn K mainGlobals "_law_is_word" = some (some (.ref f8)))
    (l8 : K.lookup f8 = some ⟨oc8, od8, .func (PySem.W.fnOf "_law_is_word" "_law_is_word" (defArgs s_is_word) (defBody s_is_word) (defScope s_is_word) .none kV8 dc8 pm8 an8 cd8 ct8), sl8⟩)
    (c8 : PySem.W.codeIn K cd8 "_law_is_word" = true) (k8 : PySem.W.keepIn K (.ref f8) = true)
    (a9 : PySem.W.nsIn K mainGlobals "_law_path" = some (some (.ref f9)))
    (l9 : K.lookup f9 = some ⟨oc9, od9, .func (PySem.W.fnOf "_law_path" "_law_path" (defArgs s_path) (defBody s_path) (defScope s_path) .none kV9 dc9 pm9 an9 cd9 ct9), sl9⟩)
    (c9 : PySem.W.codeIn K cd9 "_law_path" = true) (k9 : PySem.W.keepIn K (.ref f9) = true)
    (a10 : PySem.W.nsIn K mainGlobals "_law_is_path" = some (some (.ref f10)))
    (l10 : K.lookup f10 = some ⟨oc10, od10, .func (PySem.W.fnOf "_law_is_path" "_law_is_path" (defArgs s_l_is_path) (defBody s_l_is_path) (defScope s_l_is_path) .none kV10 dc10 pm10 an10 cd10 ct10), sl10⟩)
    (c10 : PySem.W.codeIn K cd10 "_law_is_path" = true) (k10 : PySem.W.keepIn K (.ref f10) = true)
    (a11 : PySem.W.nsIn K mainGlobals "_law_any" = some (some (.ref f11)))
    (l11 : K.lookup f11 = some ⟨oc11, od11, .func (PySem.W.fnOf "_law_any" "_law_any" (defArgs s_any) (defBody s_any) (defScope s_any) .none kV11 dc11 pm11 an11 cd11 ct11), sl11⟩)
    (c11 : PySem.W.codeIn K cd11 "_law_any" = true) (k11 : PySem.W.keepIn K (.ref f11) = true)
    (a12 : PySem.W.nsIn K mainGlobals "_law_integers_right" = some (some (.ref f12)))
    (l12 : K.lookup f12 = some ⟨oc12, od12, .func (PySem.W.fnOf "_law_integers_right" "_law_integers_right" (defArgs s_integers_right) (defBody s_integers_right) (defScope s_integers_right) .none kV12 dc12 pm12 an12 cd12 ct12), sl12⟩)
    (c12 : PySem.W.codeIn K cd12 "_law_integers_right" = true) (k12 : PySem.W.keepIn K (.ref f12) = true)
    (a13 : PySem.W.nsIn K mainGlobals "law" = some (some (.ref f13)))
    (l13 : K.lookup f13 = some ⟨oc13, od13, .func (PySem.W.fnOf "law" "law" (defArgs s_law) (defBody s_law) (defScope s_law) .none kV13 dc13 pm13 an13 cd13 ct13), sl13⟩)
    (c13 : PySem.W.codeIn K cd13 "law" = true) (k13 : PySem.W.keepIn K (.ref f13) = true)
    (q0 : PySem.W.nsIn K mainGlobals "LONGEST_NAME" = some (some (.int 8 tc0)))
    (z0 : PySem.W.nsIn K mainGlobals "all" = some none)
    (z1 : PySem.W.nsIn K mainGlobals "bool" = some none)
    (z2 : PySem.W.nsIn K mainGlobals "int" = some none)
    (z3 : PySem.W.nsIn K mainGlobals "isinstance" = some none)
    (z4 : PySem.W.nsIn K mainGlobals "len" = some none)
    (z5 : PySem.W.nsIn K mainGlobals "list" = some none)
    (z6 : PySem.W.nsIn K mainGlobals "max" = some none)
    (z7 : PySem.W.nsIn K mainGlobals "min" = some none)
    (z8 : PySem.W.nsIn K mainGlobals "range" = some none)
    (z9 : PySem.W.nsIn K mainGlobals "str" = some none)
    (z10 : PySem.W.nsIn K mainGlobals "tuple" = some none) :
    ∃ fd : FuncData, (∀ (s : Shared) (v : Value), BindsTo s fd ⟨[v], []⟩ [("_law_script", v)]) ∧ ∀ base : Heap, K.In base → base.Ns mainGlobals mg → FnOk P w K mg base CX0 4 fa fd ["_law_script"] (spLaw K) := by
  have e := hfa.symm.trans (PySem.W.mg_of X G a13)
  cases e
  let A : Ads := {
    f_is_integer := f0
    d_is_integer := PySem.W.fnOf "is_integer" "is_integer" (defArgs s_is_integer) (defBody s_is_integer) (defScope s_is_integer) .none kV0 dc0 pm0 an0 cd0 ct0
    f_is_name := f1
    d_is_name := PySem.W.fnOf "is_name" "is_name" (defArgs s_is_name) (defBody s_is_name) (defScope s_is_name) .none kV1 dc1 pm1 an1 cd1 ct1
    f_is_list := f2
    d_is_list := PySem.W.fnOf "is_list" "is_list" (defArgs s_is_list) (defBody s_is_list) (defScope s_is_list) .none kV2 dc2 pm2 an2 cd2 ct2
    f_is_path := f3
    d_is_path := PySem.W.fnOf "is_path" "is_path" (defArgs s_is_path) (defBody s_is_path) (defScope s_is_path) .none kV3 dc3 pm3 an3 cd3 ct3
    f_cell := f4
    d_cell := PySem.W.fnOf "_law_cell" "_law_cell" (defArgs s_cell) (defBody s_cell) (defScope s_cell) .none kV4 dc4 pm4 an4 cd4 ct4
    f_bag := f5
    d_bag := PySem.W.fnOf "_law_bag" "_law_bag" (defArgs s_bag) (defBody s_bag) (defScope s_bag) .none kV5 dc5 pm5 an5 cd5 ct5
    f_take := f6
    d_take := PySem.W.fnOf "_law_take" "_law_take" (defArgs s_take) (defBody s_take) (defScope s_take) .none kV6 dc6 pm6 an6 cd6 ct6
    f_word := f7
    d_word := PySem.W.fnOf "_law_word" "_law_word" (defArgs s_word) (defBody s_word) (defScope s_word) .none kV7 dc7 pm7 an7 cd7 ct7
    f_is_word := f8
    d_is_word := PySem.W.fnOf "_law_is_word" "_law_is_word" (defArgs s_is_word) (defBody s_is_word) (defScope s_is_word) .none kV8 dc8 pm8 an8 cd8 ct8
    f_path := f9
    d_path := PySem.W.fnOf "_law_path" "_law_path" (defArgs s_path) (defBody s_path) (defScope s_path) .none kV9 dc9 pm9 an9 cd9 ct9
    f_l_is_path := f10
    d_l_is_path := PySem.W.fnOf "_law_is_path" "_law_is_path" (defArgs s_l_is_path) (defBody s_l_is_path) (defScope s_l_is_path) .none kV10 dc10 pm10 an10 cd10 ct10
    f_any := f11
    d_any := PySem.W.fnOf "_law_any" "_law_any" (defArgs s_any) (defBody s_any) (defScope s_any) .none kV11 dc11 pm11 an11 cd11 ct11
    f_integers_right := f12
    d_integers_right := PySem.W.fnOf "_law_integers_right" "_law_integers_right" (defArgs s_integers_right) (defBody s_integers_right) (defScope s_integers_right) .none kV12 dc12 pm12 an12 cd12 ct12
    f_law := fa
    d_law := PySem.W.fnOf "law" "law" (defArgs s_law) (defBody s_law) (defScope s_law) .none kV13 dc13 pm13 an13 cd13 ct13 }
  have T : Txt K mg A := {
    F_is_integer := fun_mk l0 c0 k0
    B_is_integer := (fun_mk (st := s_is_integer) l0 c0 k0).binds (ps := ["value", "low", "high"]) fun _ _ _ _ _ _ us hl => match us, hl with | [_, _, _], _ => rfl
    g_is_integer := PySem.W.mg_of X G a0
    F_is_name := fun_mk l1 c1 k1
    B_is_name := (fun_mk (st := s_is_name) l1 c1 k1).binds (ps := ["value"]) fun _ _ _ _ _ _ us hl => match us, hl with | [_], _ => rfl
    g_is_name := PySem.W.mg_of X G a1
    F_is_list := fun_mk l2 c2 k2
    B_is_list := (fun_mk (st := s_is_list) l2 c2 k2).binds (ps := ["value"]) fun _ _ _ _ _ _ us hl => match us, hl with | [_], _ => rfl
    g_is_list := PySem.W.mg_of X G a2
    F_is_path := fun_mk l3 c3 k3
    B_is_path := (fun_mk (st := s_is_path) l3 c3 k3).binds (ps := ["value"]) fun _ _ _ _ _ _ us hl => match us, hl with | [_], _ => rfl
    g_is_path := PySem.W.mg_of X G a3
    F_cell := fun_mk l4 c4 k4
    B_cell := (fun_mk (st := s_cell) l4 c4 k4).binds (ps := ["_law_script", "_law_k"]) fun _ _ _ _ _ _ us hl => match us, hl with | [_, _], _ => rfl
    g_cell := PySem.W.mg_of X G a4
    F_bag := fun_mk l5 c5 k5
    B_bag := (fun_mk (st := s_bag) l5 c5 k5).binds (ps := ["_law_number"]) fun _ _ _ _ _ _ us hl => match us, hl with | [_], _ => rfl
    g_bag := PySem.W.mg_of X G a5
    F_take := fun_mk l6 c6 k6
    B_take := (fun_mk (st := s_take) l6 c6 k6).binds (ps := ["_law_bag_here", "_law_count"]) fun _ _ _ _ _ _ us hl => match us, hl with | [_, _], _ => rfl
    g_take := PySem.W.mg_of X G a6
    F_word := fun_mk l7 c7 k7
    B_word := (fun_mk (st := s_word) l7 c7 k7).binds (ps := ["_law_bag_here", "_law_clean"]) fun _ _ _ _ _ _ us hl => match us, hl with | [_, _], _ => rfl
    g_word := PySem.W.mg_of X G a7
    F_is_word := fun_mk l8 c8 k8
    B_is_word := (fun_mk (st := s_is_word) l8 c8 k8).binds (ps := ["_law_thing"]) fun _ _ _ _ _ _ us hl => match us, hl with | [_], _ => rfl
    g_is_word := PySem.W.mg_of X G a8
    F_path := fun_mk l9 c9 k9
    B_path := (fun_mk (st := s_path) l9 c9 k9).binds (ps := ["_law_bag_here"]) fun _ _ _ _ _ _ us hl => match us, hl with | [_], _ => rfl
    g_path := PySem.W.mg_of X G a9
    F_l_is_path := fun_mk l10 c10 k10
    B_l_is_path := (fun_mk (st := s_l_is_path) l10 c10 k10).binds (ps := ["_law_thing"]) fun _ _ _ _ _ _ us hl => match us, hl with | [_], _ => rfl
    g_l_is_path := PySem.W.mg_of X G a10
    F_any := fun_mk l11 c11 k11
    B_any := (fun_mk (st := s_any) l11 c11 k11).binds (ps := ["_law_bag_here", "_law_text"]) fun _ _ _ _ _ _ us hl => match us, hl with | [_, _], _ => rfl
    g_any := PySem.W.mg_of X G a11
    F_integers_right := fun_mk l12 c12 k12
    B_integers_right := (fun_mk (st := s_integers_right) l12 c12 k12).binds (ps := ["_law_bag_here"]) fun _ _ _ _ _ _ us hl => match us, hl with | [_], _ => rfl
    g_integers_right := PySem.W.mg_of X G a12
    F_law := fun_mk l13 c13 k13
    B_law := (fun_mk (st := s_law) l13 c13 k13).binds (ps := ["_law_script"]) fun _ _ _ _ _ _ us hl => match us, hl with | [_], _ => rfl
    g_law := PySem.W.mg_of X G a13
    c_LONGEST_NAME := ⟨_, PySem.W.mg_of X G q0, _, rfl⟩
    b_all := PySem.W.mg_none_of X G z0
    b_bool := PySem.W.mg_none_of X G z1
    b_int := PySem.W.mg_none_of X G z2
    b_isinstance := PySem.W.mg_none_of X G z3
    b_len := PySem.W.mg_none_of X G z4
    b_list := PySem.W.mg_none_of X G z5
    b_max := PySem.W.mg_none_of X G z6
    b_min := PySem.W.mg_none_of X G z7
    b_range := PySem.W.mg_none_of X G z8
    b_str := PySem.W.mg_none_of X G z9
    b_tuple := PySem.W.mg_none_of X G z10 }
  exact ⟨A.d_law, fun s v => .of_eq rfl, fun base _ _ => ok_law T⟩
end K01
open PySem PySem.W PyProof.Rows
set_option maxHeartbeats 0 in
theorem PySem.Challenge.cw_filerights_k01_integers_names_paths_holds : PySem.Challenge.rw_filerights_k01_integers_names_paths.Holds := by
  w_on; o_law; k_head; (case hw => w_witness2)
  k_fill
  refine L2.walk_of (l := PySem.Challenge.rw_filerights_k01_integers_names_paths) (n := 63) (k := 4) (x := "_law_script") (CX := fun _ => L2.CX0) (sp := fun w => K01.spLaw _) rfl (by decide) rfl ⟨rfl, by decide, by decide⟩ (fun w h Y => PySem.W.kIn_of Y) ?F (fun _ _ a ns hl _ hS => ⟨a, ns, rfl, hS, hl, fun _ => rfl⟩) (fun _ _ _ _ _ h => h)
  case F =>
    intro w mg fa h KX G hmg
    refine' K01.all_mk KX G hmg ?a0 ?l0 ?c0 ?k0 ?a1 ?l1 ?c1 ?k1 ?a2 ?l2 ?c2 ?k2 ?a3 ?l3 ?c3 ?k3 ?a4 ?l4 ?c4 ?k4 ?a5 ?l5 ?c5 ?k5 ?a6 ?l6 ?c6 ?k6 ?a7 ?l7 ?c7 ?k7 ?a8 ?l8 ?c8 ?k8 ?a9 ?l9 ?c9 ?k9 ?a10 ?l10 ?c10 ?k10 ?a11 ?l11 ?c11 ?k11 ?a12 ?l12 ?c12 ?k12 ?a13 ?l13 ?c13 ?k13 ?q0 ?z0 ?z1 ?z2 ?z3 ?z4 ?z5 ?z6 ?z7 ?z8 ?z9 ?z10
    (case a0 => k_is)
    (case l0 => k_is)
    (case c0 => k_is)
    (case k0 => k_is)
    (case a1 => k_is)
    (case l1 => k_is)
    (case c1 => k_is)
    (case k1 => k_is)
    (case a2 => k_is)
    (case l2 => k_is)
    (case c2 => k_is)
    (case k2 => k_is)
    (case a3 => k_is)
    (case l3 => k_is)
    (case c3 => k_is)
    (case k3 => k_is)
    (case a4 => k_is)
    (case l4 => k_is)
    (case c4 => k_is)
    (case k4 => k_is)
    (case a5 => k_is)
    (case l5 => k_is)
    (case c5 => k_is)
    (case k5 => k_is)
    (case a6 => k_is)
    (case l6 => k_is)
    (case c6 => k_is)
    (case k6 => k_is)
    (case a7 => k_is)
    (case l7 => k_is)
    (case c7 => k_is)
    (case k7 => k_is)
    (case a8 => k_is)
    (case l8 => k_is)
    (case c8 => k_is)
    (case k8 => k_is)
    (case a9 => k_is)
    (case l9 => k_is)
    (case c9 => k_is)
    (case k9 => k_is)
    (case a10 => k_is)
    (case l10 => k_is)
    (case c10 => k_is)
    (case k10 => k_is)
    (case a11 => k_is)
    (case l11 => k_is)
    (case c11 => k_is)
    (case k11 => k_is)
    (case a12 => k_is)
    (case l12 => k_is)
    (case c12 => k_is)
    (case k12 => k_is)
    (case a13 => k_is)
    (case l13 => k_is)
    (case c13 => k_is)
    (case k13 => k_is)
    (case q0 => k_is)
    (case z0 => k_is)
    (case z1 => k_is)
    (case z2 => k_is)
    (case z3 => k_is)
    (case z4 => k_is)
    (case z5 => k_is)
    (case z6 => k_is)
    (case z7 => k_is)
    (case z8 => k_is)
    (case z9 => k_is)
    (case z10 => k_is)
